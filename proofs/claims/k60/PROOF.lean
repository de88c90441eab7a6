import PyProof.Rows.All
import Wide.All
import OpenK.AllK
import Wide.FinOn
import Lean
import PyProof.EqAt
import PyProof.EqKinds
import PyProof.TupleCall
import KE.KDictOf
import PyProof.AttrMissSeq
import PyProof.DictCopy
import PyProof.NeKinds
import PyProof.DictWalks
import PyProof.MinMaxWalk
import PyProof.MeetsDictList
import PyProof.DictFindH
import PyProof.DictTruth
import KE.KRevSl
import PyProof.DictItems
import KE.KDictSum
import PyProof.Rows.SortStr
import PyProof.Rows.SortWalk
import PyProof.ExcArgsOwn
import PyProof.NsDelKeeps
import PyProof.EnumMake
import PyProof.EnumFor
import PyProof.EnumStmt
import PyProof.Rows.EnumRows
import PyProof.Rows.SortRev
import KE.KSortTup
import KE.KTab
import PySem.Challenge.RW_momentloom_k60_books_let_by
open PySem renaming Addr->aa,Value->ae,wpAny_bind->ai,Shared->aj,sizeLine->aA,Program->aM,wpAny_pure->aN,Paired->aO,wpAny->aU,model->aW,World->bH,mainGlobals->bL,Around->bP,FuncData->bY,Heap->cB,starEach->cH,boot_len->cI,compareOp->cU,Expr->cX,wpAny_holding->c7,Stmt->df,wpAny_loadPart'->dH,cLine->dM,wpAny_mono->d9,sysModules->eO,bootBuiltins->eP,eval->eW,mem_of_lookup->fq,assignEach->gO,wpAny_Call_Name_kw->gP,wpAny_passesOwn->gU,binaryOp->gX,wpAny_truthy_bool->ie,Builtin->ig,wpAny_newObj_type->ij,backTo->iw,keywordEach->iA,behindInMarks->iU,NameKind->jx,attributeBase->j0,Scope->j5,wpAny_field->j7,sliceBounds->j9,codeAny_mono->kX,getMethod->lN,backToKw->lS,foldedSetIterable->mY,sizeLine_eq->mZ,codeAny->m5,valueAt->m6,wpAny_dictEntries->m7,wpAny_forIn_list->oU,wpAny_call_entry->oV,holding->o9,wpAny_pyNext_list_item->pe,richCompare_meets_room->pz,call_meets->pA,wpAny_execs_nil->pM,letOwnedTupleGo->pO,codeAny_builtin->pQ,wpAny_pyNext_list_end->p7,rawInt->qO,richCompare->qW,unbindBehindTheSuite->rg,swapsWith->rH,BindsTo->rL,getItem->rN,wpAny_standAt->sJ,ExceptHandler->sO,wpAny_newList->sX,tupleKind_room_in1->tT,standAt->uH,wpAny_pyIter_list->uI,callerA->uO,wpAny_pyIter_slot->uR,tupleKind->vQ,assign->vT,call->vV,IsPart->wg,stored->wz,subscripted->xp,Within->xB,leaving->yy,wpAny_richCompare_same_room->yD,callWith->yP,bindArgs->yS,wpAny_call->yU,wpAny_newFunctionEnv_cells->yW,atKey->za,wpAny_setField->zc,wpAny_rule->zf,evalArgs_none->z6,call->Ba,bindL->BK,bindC->BL,cellsFrom->BM,wpAny_Call_method0_late->BP,noteFrame->BR,isTrue->B4,wpAny_typeOf->Cw,seqIndex_neg->Cz,call_meetsIn->C6,wpAny_isTrue_Compare1->ES,codeAny_call_function->ET,Model->E1,Operator->E2,rule->E3,seqIndex_of->Fc,builtinsNs->Ie,wpAny_Name->Ih,Result->Iu,typeLookup->Iy,CmpOp->Kl,wpAny_assign_Name->Km,Keyword->Kn,slot_list_getitem->Kq
open PySem.W renaming Frag->af,findIn->aV,nsIn->cz,mg_none_of->cT,exmOne->c5,excIn->dD,mg_of->d6,kia_one->d7,emptyDict->eD,fnOf->eF,kitOne->eS,keepIn->fK,instObj->gi,codeIn->iM,methodCall_KW->iZ,looks_findIn->jn,callWith_K->jO,katRev->jU,plainGet->kW,isFn->lR,cellsFrom_some->lT,hideAll->mB,lookIn->nh,plainGet_of->oS,methodObj->pU,hasDictIn->p8,takerIn->r6,makesIn->sf,OpenLaw->sC,InstAt->tM,mroIn->uJ,hideAll_get->yu,callWith_K0->yw,of_hideAll->yG,codeRec_of->yV,plainOver->zW,specialIn->zX,kitx_list->zY,kitx_dict->zZ,handedIn->A2,takesIn->BJ,exm_one->BX,typeIn->Cp,notCls->Dk,WalkO->EU,kas_rev->Kv
open List renaming mem_cons_of_mem->ag,length_map->ar,mem_cons->au,size_toArray->av,mem_cons_self->aw,getElem?_eq_getElem->ax,getElem?_eq_some_iff->aB,length_append->aE,mem_singleton->aH,length_cons->aP,not_mem_nil->aR,mem_append_right->bF,lookup_cons_self->bJ,getElem?_map->bQ,map_cons->bR,mem_append->cq,mem_of_getElem?->cw,map_append->cA,replicate->cC,lookup_cons->cD,length_take->cG,nodup_cons->cK,mem_map->cL,length_nil->cM,pairwise_iff_getElem->cY,append_nil->dC,getD_eq_getElem?_getD->dE,take_length->dG,getElem?_append_right->dS,getElem?_of_mem->dU,map_map->dX,getElem?_eq_none->d8,getElem?_set_self->eM,getElem?_append_left->eQ,take_add_one->fi,zip_cons_cons->gb,pairwise_cons->gc,mem_append_left->gu,pairwise_append->gv,nodup_append->gS,range->hV,getElem?_set_ne->hW,dropLast_subset->hZ,getElem_map->ik,length_reverse->ir,map_congr_left->iu,find?_cons->iI,nodup_nil->i0,append_assoc->i5,pairwise_map->i9,length_replicate->jo,lookup->jC,length->jD,length_dropLast->jE,take_zero->kE,drop_eq_getElem_cons->kS,getElem?_replicate->mH,length_drop->mI,pairwise_singleton->mK,getElem_mem->mO,of_mem_zip->nj,foldl_cons->nK,length_zip->oh,nil_append->oy,contains_iff_mem->oM,length_filter_le->oN,take_append_drop->oO,mem_range->oY,drop_zero->o7,filterMap_cons->pK,mem_map_of_mem->pR,length_pos_iff->pS,mem_filterMap->qH,take_sublist->rM,ext_getElem?->rR,toArray->rT,reverse_perm->rV,eraseIdxIfInBounds_toArray->sh,all_eq_true->sU,map_reverse->sZ,getElem?_zip_eq_some->wG,getLast?_eq_none_iff->wW,getElem?_take_of_lt->xn,any_cons->xq,sum_cons->xx,map_nil->yz,take_of_length_le->yE,length_singleton->y9,dropLast_concat->Av,getLast?_concat->Aw,mem_of_mem_take->AA,zip_nil_right->BN,getElem?_drop->BU,zip_nil_left->Cu,reverse_cons->CJ,foldl_append->DK,drop_length->EV,cons_append->EW,perm_middle->EX,mem_filter->EY,length_set->Fe,take_take->HY,map_take->Jp
open Nat renaming le_refl->aC,ne_of_lt->aL,lt_of_lt_of_le->aY,zero_le->bj,le_trans->c8,le_succ->fb,lt_irrefl->gy,lt_of_le_of_lt->iO,lt_succ_of_lt->jd,succ_pos->je,not_lt_zero->jT,le_of_lt->j6,lt_or_ge->kj,ne_of_gt->m9,lt_trans->nI,lt_of_succ_lt_succ->nU,succ_mul->oC,mul_le_mul_right->pI,lt_succ_self->tP,add_le_add_left->BQ,add_sub_cancel->C8,lt_or_gt_of_ne->Dp,le_add_right->FZ
open PySem.Heap renaming get?_push_of_some->aI,lt_size->aK,get?_push_size->cv,get?_update_other->eN,get?_push_ne->fg,size_update->fZ,SameBut->mX,get?_update_self->oI,size_push->ve,get?_update_ne->Bi,MadeExcOf->Hu
open PySem.Paired renaming length->aT,snoc->dR
open PySem.F renaming plainAttrs_list->bK,slot_list_append->cg,type_list_append->cj,args_tuple_add_2->uL,entry_tuple_add->vn,args_tuple_gt_2->vy,slot_dict_items->vA,slot_tuple_add->wc,entry_tuple_gt->wJ,slot_tuple_gt->xr,slot_list_pop->xu,type_list_pop->xw
open Bool renaming false_ne_true->bO,false_eq_true->iK,not_true->jz,and_eq_true->mJ,eq_iff_iff->ng,false_and->oZ,and_eq_true_iff->o6,true_and->qp,noConfusion->sN,and_eq_false_iff->zi,and_true->IP
open False renaming elim->cO
open PySem.PassesOwn renaming never->cQ
open PySem.Obj renaming mapSeq->cV,mapFields->qJ,data_mapFields->qY,isFreed_of_fields->Ab
open Option.some renaming inj->cW
open PyProof.Rows renaming seqObj->dI,IntsAre->eV,slot_tuple_getitem->iD,callWith_type1->jg,AllBare->mV,IsTup->qL,envOfC->qV,listUpdate_at->sW,size_push'->tX,seqEpoch_at->xt,tuples'->yF,Constant_none->AW,subscriptTail->A5,sortedAll->BY,floordiv_int->Cj,subscriptTail_builtinR->CA,call_function_entry_kw->Dl,wpAny_call_entry_kw->HA,Subscript_->Iz,args_list_sort_rev->IT
open PySem.Builtin.Int renaming intBits->eX
open Ne renaming symm->eZ
open Array renaming length_toList->fk,perm_iff_toList_perm->hJ,getElem?_eq_some_iff->kg,getD->mT,getElem?_toList->yA,size_append->BZ,toList->Ij
open Int renaming emod_lt_of_pos->gf,emod_nonneg->gN,toNat_natCast->sI,fdiv_eq_ediv_of_nonneg->vX
open PySem.Builtin.Slice renaming slicePlaces->gJ,sliceAdjust->jy,sliceApplied->qb
open PySem.Builtin.Tuple renaming tupleExact->gQ,tupleCompareSizes->oG
open List.Perm renaming refl->iJ
open PySem.Str renaming ofString->jc
open Sum.inr renaming inj->jm
open PySem.Builtin.List renaming listTooLong->jL,listFitsIndex->qK
open PySem.W.WData renaming weight->jS,weightAll->tU
open PySem.AutoSeq1 renaming sub_tuple_tuple->ko,list_insert_list_int_val_1->Kt
open PySem.Calls renaming callWith_builtin->mR,Name_function_global->uG,evalArgs_plain->y7
open Function renaming comp->oW
open Option renaming isSome_map->qI,getD_none->BO,map_some->Du
open PySem.Builtin.Dict renaming dictSlotArgs->q8,updateFrom->sy,pairItems->sQ,samePairs->sS
open Classical renaming byContradiction->sT
open List.cons renaming inj->uu
open PyProof renaming noPylong_of_log2->uQ
open PySem.EntryCells renaming newEntry->wB
open PySem.Around renaming under->xm,under_plainId->yC
open PySem.SeqAt.EqAt renaming int_int->xo
open PySem.Code renaming isFrame->yv,quiet_builtin->BV
open PySem.Heap.DictOf renaming new->yB
open PySem.Txt renaming join->Bj
open PyProof.Rows.IsTup renaming new->Cy
open PySem.Value renaming isStrOf->Hm,isInt->Kk
open Sum.inl renaming inj->Hn
open Std.Legacy.Range renaming forIn_eq_forIn_range'->Hv,size->Hw
open PySem.Challenge renaming rw_momentloom_k60_books_let_by->Kj
open PySem.Heap.IsSliceOf renaming new->Ko
open PySem.W.WShape renaming has->Kr
open PySem.Heap.UpToSlots renaming of_keeps->Ks
open PyProof.Rows.SortSt renaming mk'->Ku
-- CHANGE: your row's module here, as the last of these rows
set_option Elab.async false
set_option linter.all false
set_option maxRecDepth 100000
namespace L2
open PySem PySem.Spec PyProof.Rows
abbrev Key:=Sum Int Str
def uX:Key->ae->Bool
  | .inl k,v=>Kk k v
  | .inr x,v=>Hm x v
def keyH (w:bH):Key->Int
  | .inl k=>hashInt k
  | .inr x=>hashStr w x
theorem fv:∀ {k:Key} {v:ae},uX k v=true->(∃ i t,k=Sum.inl i/\v=Value.int i t)\/(∃ x t,k=Sum.inr x/\v=Value.str x t)
  | .inl i,v,h=>by
    obtain ⟨t,e⟩:=Value.isInt_shape (k:=i) (v:=v) h
    exact .inl ⟨i,t,rfl,e⟩
  | .inr x,v,h=>by
    obtain ⟨t,e⟩:=Value.isStrOf_shape (x:=x) (v:=v) h
    exact .inr ⟨x,t,rfl,e⟩
theorem AS (i:Int) (t:Tok):uX (.inl i) (.int i t)=true:=by simp [uX,Kk]
theorem AU (x:Str) (t:Tok):uX (.inr x) (.str x t)=true:=by simp [uX,Hm]
theorem H9 (a b:Int):decide ((Sum.inl a:Key)=Sum.inl b)=(a == b):=by
  by_cases e:a=b
  · subst e; simp
  · have h:¬ (Sum.inl a:Key)=Sum.inl b:=fun q=>e (Hn q)
    rw [decide_eq_false h]
    exact (beq_eq_false_iff_ne.mpr e).symm
theorem Ia (a b:Str):decide ((Sum.inr a:Key)=Sum.inr b)=decide (a=b):=by
  by_cases e:a=b
  · subst e; simp
  · have h:¬ (Sum.inr a:Key)=Sum.inr b:=fun q=>e (jm q)
    rw [decide_eq_false h,decide_eq_false e]
theorem Ib (a:Int) (b:Str):decide ((Sum.inl a:Key)=Sum.inr b)=false:=decide_eq_false (fun q=>nomatch q)
theorem Ic (a:Str) (b:Int):decide ((Sum.inr a:Key)=Sum.inl b)=false:=decide_eq_false (fun q=>nomatch q)
def eY (prog:aM) (w:bH):PySem.KeyKind prog w Key where
  is:=uX
  hash:=keyH w
  inj:=fun v a b ha hb=>by
    rcases fv ha with ⟨i,t,rfl,rfl⟩ | ⟨x,t,rfl,rfl⟩
    · rcases fv hb with ⟨j,u,rfl,e⟩ | ⟨y,u,rfl,e⟩
      · injection e with e1 _; rw [e1]
      · exact nomatch e
    · rcases fv hb with ⟨j,u,rfl,e⟩ | ⟨y,u,rfl,e⟩
      · exact nomatch e
      · injection e with e1 _; rw [e1]
  byValue:=fun k v h=>by
    rcases fv h with ⟨i,t,rfl,rfl⟩ | ⟨x,t,rfl,rfl⟩ <;> rfl
  pyHash:=fun hv h=>by
    rcases fv hv with ⟨i,t,rfl,rfl⟩ | ⟨x,t,rfl,rfl⟩
    · exact wpAny_pyHash_int h
    · exact wpAny_pyHash_str h
  eqBool:=fun hu hv h=>by
    rcases fv hu with ⟨i,t,rfl,rfl⟩ | ⟨x,t,rfl,rfl⟩
    · rcases fv hv with ⟨j,u,rfl,rfl⟩ | ⟨y,u,rfl,rfl⟩
      · rw [H9] at h; exact wpAny_eqBool_int h
      · rw [Ib] at h; exact SeqAt.EqAt.int_str i t y u _ _ _ _ h
    · rcases fv hv with ⟨j,u,rfl,rfl⟩ | ⟨y,u,rfl,rfl⟩
      · rw [Ic] at h; exact SeqAt.EqAt.str_int x t j u _ _ _ _ h
      · rw [Ia] at h; exact wpAny_eqBool_str h
  «strs»:=fun k x t v h=>by
    rcases fv h with ⟨i,u,rfl,e⟩ | ⟨y,u,rfl,e⟩
    · exact nomatch e
    · injection e with e1 _
      subst e1
      cases v <;> rfl
theorem xy (prog:aM) (w:bH) (i:Int) (t:Tok):(eY prog w).is (.inl i) (.int i t)=true:=AS i t
theorem xA (prog:aM) (w:bH) (x:Str) (t:Tok):(eY prog w).is (.inr x) (.str x t)=true:=AU x t
end L2
namespace L2
open PySem PySem.Spec PyProof.Rows
inductive V where
  | non | bl (b:Bool) | int (i:Int) | str (x:Str) | byt (b:Array UInt8) | flt (b:UInt64) | ref (a:aa) | ty (n:String)
  deriving DecidableEq
def RelV:V->ae->Prop
  | .non,u=>u=Value.none
  | .bl b,u=>u=Value.bool b
  | .int i,u=>∃ t,u=Value.int i t
  | .str x,u=>∃ t,u=Value.str x t
  | .byt b,u=>∃ t,u=Value.bytes b t
  | .flt b,u=>∃ t,u=Value.float b t
  | .ref a,u=>u=Value.ref a
  | .ty n,u=>u=Value.type n
abbrev cS:List V->List ae->Prop:=aO RelV
theorem cS.length {xs:List V} {us:List ae} (r:cS xs us):xs.length=us.length:=aT r
theorem cS.get:∀ {xs:List V} {us:List ae} {i:Nat} {x:V},cS xs us->xs[i]?=some x->∃ u,us[i]?=some u/\RelV x u
  | _,_,_,_,.nil,e=>by simp at e
  | _,_,0,_,.cons r _,e=>by simp at e; subst e; exact ⟨_,rfl,r⟩
  | _,_,i + 1,x,.cons _ t,e=>by
    obtain ⟨u,h1,h2⟩:=cS.get (i:=i) (x:=x) t (by simpa using e)
    exact ⟨u,by simpa using h1,h2⟩
theorem cS.set {x:V} {u:ae} (r:RelV x u):∀ {xs:List V} {us:List ae} (i:Nat),cS xs us->cS (xs.set i x) (us.set i u)
  | _,_,_,.nil=>.nil
  | _,_,0,.cons _ t=>.cons r t
  | _,_,i + 1,.cons q t=>.cons q (cS.set r i t)
theorem cS.append:∀ {xs ys:List V} {us ws:List ae},cS xs us->cS ys ws->cS (xs++ys) (us++ws)
  | _,_,_,_,.nil,s=>s
  | _,_,_,_,.cons r t,s=>.cons r (cS.append t s)
theorem cS.take:∀ {xs:List V} {us:List ae} (n:Nat),cS xs us->cS (xs.take n) (us.take n)
  | _,_,0,_=>.nil
  | _,_,_ + 1,.nil=>.nil
  | _,_,n + 1,.cons r t=>.cons r (cS.take n t)
theorem cS.drop:∀ {xs:List V} {us:List ae} (n:Nat),cS xs us->cS (xs.drop n) (us.drop n)
  | _,_,0,r=>r
  | _,_,_ + 1,.nil=>.nil
  | _,_,n + 1,.cons _ t=>cS.drop n t
def oR:Option V->Option ae->Prop
  | some v,some u=>RelV v u
  | none,none=>True
  | _,_=>False
def KV {κ:Type}:List (κ×V)->List (κ×ae)->Prop:=aO fun (p:κ×V) (q:κ×ae)=>p.1=q.1/\RelV p.2 q.2
def kV:Key->V
  | .inl i=>.int i
  | .inr x=>.str x
inductive HO where
  /-- a list -/
  | lst (xs:List V)
  /-- a tuple (never changes) -/
  | tup (xs:List V)
  /-- a dict whose keys are ints and texts; one whose keys are tuples of ints and texts (the empty one is both) -/
  | dK (kvs:List (Key×V)) | dT (kvs:List (List Key×V))
  /-- a set of ints: its members, its size -/
  | set (S:Int->Bool) (n:Nat)
  /-- an instance of the class at C, its dict at dx, its attributes -/
  | ins (C dx:aa) (fs:List (Str×V))
  /-- the dict of the instance at x -/
  | own (x:aa)
  /-- the dict of an exception -/
  | xd (fs:List (Str×V))
  /-- a bound method, f of x -/
  | met (f x:aa)
  /-- a range object lo, lo + 1, .. below hi -/
  | rng (lo hi:Int)
  /-- a thing that is known to the object (the script; a dict while a loop walks it): read, never written while it is so -/
  | frz (o:Obj) (u:HO)
  /-- a code object's table -/
  | tbl (ps:Array ae)
  /-- any other thing, by what is true of its one object (a def of one's own: SetO a S n := HO.ext fun h => ..) -/
  | ext (φ:cB->Prop)
abbrev Hp:=aa->Option HO
def upd (H:Hp) (a:aa) (o:HO):Hp:=fun b=>if b=a then some o else H b
theorem ah {H:Hp} {a:aa} {o:HO}:upd H a o a=some o:=by unfold upd; rw [if_pos rfl]
theorem aJ {H:Hp} {a b:aa} {o:HO} (h:b≠a):upd H a o b=H b:=by unfold upd; rw [if_neg h]
theorem zQ {H:Hp} {a:aa} {o u:HO}:upd (upd H a o) a u=upd H a u:=by
  funext b; unfold upd; split <;> rfl
theorem kT {H:Hp} {a b:aa} {o u:HO} (h:H a=some o) (h':H b=some u) (d:o≠u):a≠b:=by
  intro e; subst e; rw [h] at h'; exact d (cW h')
theorem aG {H:Hp} {a b:aa} {o:HO} (h:H a=some o) (h':H b=none):a≠b:=by
  intro e; subst e; rw [h] at h'; cases h'
section
variable (P:aM) (w:bH)
def d5 (H:Hp) (h:cB) (a:aa):HO->Prop
  | .lst xs=>xs.length<=aA/\∃ (its:List ae) (n:Nat),cS xs its/\h.get? a=some {cls:=.type "list",data:=.seq its.toArray n}
  | .tup xs=>xs.length<=aA/\∃ its:List ae,cS xs its/\qL h a its.toArray
  | .dK kvs=>kvs.length<=aA/\(a == eO)=false/\∃ vs,KV kvs vs/\h.DictOf (eY P w) a vs
  | .dT kvs=>kvs.length<=aA/\(a == eO)=false/\∃ xs:List (List Key×aa×ae),
      aO (fun (p:List Key×V) (q:List Key×aa×ae)=>p.1=q.1/\H q.2.1=some (.tup (p.1.map kV))/\RelV p.2 q.2.2) kvs xs /\
      ∃ o es ep,h.get? a=some o/\o.ExactDict/\o.data=.dict es ep/\es.toList=xs.map (entryOfKey (vQ (eY P w)))/\(xs.map (·.1)).Nodup
  | .set S n=>h.SetOf (intKind P w) a S n
  | .ins C dx fs=>H dx=some (.own a)/\fs.length<=1000/\dx≠a/\h.get? a=some (gi C dx) /\
      ∃ mA,h.Ns1 dx mA/\(∀ f,oR (fs.lookup f) (mA f))/\xB mA (fs.map (·.1))
  | .own _=>∃ o,h.get? a=some o
  | .xd fs=>∃ mA,h.Ns1 a mA/\∀ f,oR (fs.lookup f) (mA f)
  | .rng lo hi=>∃ t u v,h.get? a=some {cls:=.type "range",data:=.fields #[.int lo t,.int hi u,.int 1 v]}
  | .frz o u=>h.get? a=some o/\d5 H h a u
  | .tbl ps=>h.get? a=some {cls:=.none,data:=.fields ps}
  | .met f x=>h.get? a=some (pU (.ref f) (.ref x))
  | .ext φ=>φ h/\(∃ o,h.get? a=some o)/\∀ h1 h2:cB,φ h1->(∀ o,h1.get? a=some o->h2.get? a=some o)->φ h2
def HOk (H:Hp) (h:cB):Prop:=∀ a o,H a=some o->d5 P w H h a o
end
section
variable {P:aM} {w:bH} {H H':Hp} {h h':cB} {a:aa} {o:HO}
theorem d5.lt (x:d5 P w H h a o):a < h.objs.size:=by
  cases o with
  | lst xs=>obtain ⟨_,_,_,_,e⟩:=x; exact aK e
  | tup xs=>obtain ⟨_,_,_,p⟩:=x; exact p.lt
  | dK kvs=>obtain ⟨_,_,_,_,o,_,_,e,_⟩:=x; exact aK e
  | dT kvs=>obtain ⟨_,_,_,_,o,_,_,e,_⟩:=x; exact aK e
  | set S n=>obtain ⟨o,_,_,_,e,_⟩:=x; exact aK e
  | ins C dx fs=>obtain ⟨_,_,_,e,_⟩:=x; exact aK e
  | own y=>obtain ⟨_,e⟩:=x; exact aK e
  | xd fs=>obtain ⟨_,⟨_,_,_,e,_⟩,_⟩:=x; exact aK e
  | rng lo hi=>obtain ⟨_,_,_,e⟩:=x; exact aK e
  | frz ob u=>obtain ⟨e,_⟩:=x; exact aK e
  | tbl ps=>exact aK (show h.get? a=some _ from x)
  | met f y=>exact aK (show h.get? a=some _ from x)
  | ext φ=>obtain ⟨_,⟨_,e⟩,_⟩:=x; exact aK e
theorem Paired.mapP {α β:Type} {F G:α->β->Prop}:∀ {l₁:List α} {l₂:List β},aO F l₁ l₂->(∀ a b,F a b->G a b)->aO G l₁ l₂
  | _,_,.nil,_=>.nil
  | _,_,.cons r t,f=>.cons (f _ _ r) (Paired.mapP t f)
theorem Paired.imp' {α β:Type} {F G:α->β->Prop} (f:∀ a b,F a b->G a b) {l₁:List α} {l₂:List β} (r:aO F l₁ l₂):aO G l₁ l₂:=Paired.mapP r f
theorem d5.stay (x:d5 P w H h a o) (k:∀ b u,(b=a\/H b=some (.own a))->h.get? b=some u->h'.get? b=some u)
    (ho:∀ b,H b=some (.own a)->H' b=some (.own a)) (ht:∀ b xs,H b=some (.tup xs)->H' b=some (.tup xs)):d5 P w H' h' a o:=by
  induction o with
  | lst xs=>obtain ⟨z,its,n,r,e⟩:=x; exact ⟨z,its,n,r,k _ _ (.inl rfl) e⟩
  | tup xs=>obtain ⟨z,its,r,ob,e,c⟩:=x; exact ⟨z,its,r,ob,k _ _ (.inl rfl) e,c⟩
  | dK kvs=>obtain ⟨z,y,vs,r,ob,es,ep,e,c⟩:=x; exact ⟨z,y,vs,r,ob,es,ep,k _ _ (.inl rfl) e,c⟩
  | dT kvs =>
    obtain ⟨z,y,xs,r,ob,es,ep,e,c⟩:=x
    exact ⟨z,y,xs,Paired.mapP r fun p q z=>⟨z.1,ht _ _ z.2.1,z.2.2⟩,ob,es,ep,k _ _ (.inl rfl) e,c⟩
  | set S n=>obtain ⟨ob,es,ep,t,e,c⟩:=x; exact ⟨ob,es,ep,t,k _ _ (.inl rfl) e,c⟩
  | ins C dx fs =>
    obtain ⟨d,z,ne,e,mA,⟨od,es,ep,e2,c⟩,r⟩:=x
    exact ⟨ho _ d,z,ne,k _ _ (.inl rfl) e,mA,⟨od,es,ep,k _ _ (.inr d) e2,c⟩,r⟩
  | own y=>obtain ⟨ob,e⟩:=x; exact ⟨ob,k _ _ (.inl rfl) e⟩
  | xd fs=>obtain ⟨mA,⟨od,es,ep,e,c⟩,r⟩:=x; exact ⟨mA,⟨od,es,ep,k _ _ (.inl rfl) e,c⟩,r⟩
  | rng lo hi=>obtain ⟨t,u,v,e⟩:=x; exact ⟨t,u,v,k _ _ (.inl rfl) e⟩
  | frz ob u ih=>obtain ⟨e,q⟩:=x; exact ⟨k _ _ (.inl rfl) e,ih q⟩
  | tbl ps =>
    have e:h.get? a=some {cls:=.none,data:=.fields ps}:=x
    show h'.get? a=some {cls:=.none,data:=.fields ps}
    exact k a _ (.inl rfl) e
  | met f y =>
    have e:h.get? a=some (pU (.ref f) (.ref y)):=x
    show h'.get? a=some (pU (.ref f) (.ref y))
    exact k a _ (.inl rfl) e
  | ext φ=>obtain ⟨p,⟨o,e⟩,st⟩:=x; exact ⟨st _ _ p fun o q=>k _ _ (.inl rfl) q,⟨o,k _ _ (.inl rfl) e⟩,st⟩
theorem HOk.lt (x:HOk P w H h) (e:H a=some o):a < h.objs.size:=(x a o e).lt
theorem HOk.fresh (x:HOk P w H h) (e:h.objs.size<=a):H a=none:=by
  cases q:H a with
  | none=>rfl
  | some u=>exact absurd (aY (x.lt q) e) (gy _)
theorem HOk.kept (x:HOk P w H h) (k:∀ b u,h.get? b=some u->h'.get? b=some u):HOk P w H h':=fun a o e =>
  (x a o e).stay (fun b u _ q=>k b u q) (fun _ q=>q) fun _ _ q=>q
theorem HOk.laid (x:HOk P w H h) (k:∀ b u,h.get? b=some u->h'.get? b=some u) (hp:h.objs.size<=a) (new:d5 P w (upd H a o) h' a o):HOk P w (upd H a o) h':=fun b u e=>by
  have hn:=x.fresh hp
  by_cases hb:b=a
  · subst hb; rw [ah] at e; cases e; exact new
  · rw [aJ hb] at e
    exact (x b u e).stay (fun c v _ q=>k c v q) (fun c q=>by rw [aJ (aG q hn)]; exact q) fun c xs q=>by rw [aJ (aG q hn)]; exact q
end
def Rd (H:Hp) (a:aa) (u:HO):Prop:=H a=some u\/∃ o,H a=some (.frz o u)
theorem Rd.ok {P:aM} {w:bH} {H:Hp} {h:cB} {a:aa} {u:HO} (r:Rd H a u) (x:HOk P w H h):d5 P w H h a u:=by
  rcases r with r | ⟨o,r⟩
  · exact x a u r
  · obtain ⟨_,q⟩:=x a _ r
    exact q
def Mut:Option HO->Prop
  | some (.lst _)=>True
  | some (.dK _)=>True
  | some (.dT _)=>True
  | some (.set _ _)=>True
  | some (.ins _ _ _)=>True
  | some (.ext _)=>True
  | _=>False
section
variable {P:aM} {w:bH} {H:Hp} {h h':cB} {x e:aa} {o':HO}
theorem HOk.write (ok:HOk P w H h) (mu:Mut (H x)) (he:e=x\/H e=some (.own x)) (k:∀ b u,b≠e->h.get? b=some u->h'.get? b=some u) (heo:∃ u,h'.get? e=some u)
    (new:d5 P w (upd H x o') h' x o'):HOk P w (upd H x o') h':=fun b u q=>by
  have nown:∀ c y,H c=some (.own y)->c≠x:=fun c y r z=>by subst z; rw [r] at mu; exact mu
  have ntup:∀ c xs,H c=some (.tup xs)->c≠x:=fun c xs r z=>by subst z; rw [r] at mu; exact mu
  by_cases hb:b=x
  · subst hb; rw [ah] at q; cases q; exact new
  · rw [aJ hb] at q
    by_cases hbe:b=e
    · have q':H b=some (.own x):=by
        rcases he with z | z
        · exact absurd (hbe.trans z) hb
        · rw [hbe]; exact z
      rw [q] at q'; cases q'
      obtain ⟨v,hv⟩:=heo
      exact ⟨v,by rw [hbe]; exact hv⟩
    · refine (ok b u q).stay (fun c v hc r=>k c v ?_ r) (fun c r=>by rw [aJ (nown c b r)]; exact r) fun c xs r=>by rw [aJ (ntup c xs r)]; exact r
      rcases hc with rfl | hc
      · exact hbe
      · rintro rfl
        rcases he with z | z
        · exact nown c b hc z
        · rw [hc] at z; cases z; exact hb rfl
end
structure Un (fs ex:List aa) (H H':Hp) (h h':cB):Prop where
  keep:∀ b o,h.get? b=some o->H b=none->b∉fs->b∉ex->h'.get? b=some o
  slot:∀ b o,h.get? b=some o->H b=none->b∈fs->b∉ex->∃ sl,h'.get? b=some {o with slots:=sl}
  free:∀ b o,h.get? b=some o->H b=none->b∉ex->H' b=none
  there:∀ b o,h.get? b=some o->b∉ex->∃ o',h'.get? b=some o'
  tups:∀ b xs,H b=some (.tup xs)->H' b=some (.tup xs)
  frzs:∀ b o u,H b=some (.frz o u)->H' b=some (.frz o u)
  tbls:∀ b ps,H b=some (.tbl ps)->∃ more,H' b=some (.tbl (ps++more))
section
variable {fs fs' ex ex':List aa} {H H1 H2:Hp} {h h1 h2 h':cB} {a x e:aa} {o:HO}
theorem Un.any (u:Un fs ex H H1 h h1) {b:aa} {ob:Obj} (q:h.get? b=some ob) (n:H b=none) (hx:b∉ex):∃ sl,h1.get? b=some {ob with slots:=sl}:=by
  by_cases hb:b∈fs
  · exact u.slot b ob q n hb hx
  · exact ⟨ob.slots,u.keep b ob q n hb hx⟩
theorem Un.kept (k:∀ b u,h.get? b=some u->h'.get? b=some u):Un fs ex H H h h':=
  ⟨fun b ob q _ _ _=>k b ob q,fun b ob q _ _ _=>⟨ob.slots,k b ob q⟩,fun _ _ _ n _=>n,fun b ob q _=>⟨ob,k b ob q⟩,fun _ _ q=>q,fun _ _ _ q=>q,fun _ ps q=>⟨#[],by rw [q]; simp⟩⟩
theorem Un.refl:Un fs ex H H h h:=Un.kept fun _ _ q=>q
theorem Un.laid (k:∀ b u,h.get? b=some u->h'.get? b=some u) (hp:h.objs.size<=a) (hn:H a=none):Un fs ex H (upd H a o) h h' where
  keep:=fun b u q _ _ _=>k b u q
  slot:=fun b u q _ _ _=>⟨u.slots,k b u q⟩
  free:=fun b u q n _=>by rw [aJ (aL (aY (aK q) hp))]; exact n
  there:=fun b u q _=>⟨u,k b u q⟩
  tups:=fun b xs q=>by rw [aJ (aG q hn)]; exact q
  frzs:=fun b u xs q=>by rw [aJ (aG q hn)]; exact q
  tbls:=fun b ps q=>⟨#[],by rw [aJ (aG q hn),q]; simp⟩
theorem Un.write (mu:Mut (H x)) (he:e=x\/H e=some (.own x)) (k:∀ b u,b≠e->h.get? b=some u->h'.get? b=some u) (heo:∃ u,h'.get? e=some u):Un fs ex H (upd H x o) h h':=by
  have hx:∀ b,H b=none->b≠x:=fun b n z=>by subst z; rw [n] at mu; exact mu
  have hb:∀ b,H b=none->b≠e:=fun b n z=>by
    subst z
    rcases he with r | r
    · exact hx b n r
    · rw [n] at r; cases r
  have hm:∀ b u,H b=some u->¬ Mut (some u)->b≠x:=fun b u q nm z=>by subst z; rw [q] at mu; exact nm mu
  refine ⟨fun b u q n _ _=>k b u (hb b n) q,fun b u q n _ _=>⟨u.slots,k b u (hb b n) q⟩,fun b u q n _=>by rw [aJ (hx b n)]; exact n,fun b u q _=>?_,
    fun b xs q=>by rw [aJ (hm b _ q fun z=>z)]; exact q,fun b u xs q=>by rw [aJ (hm b _ q fun z=>z)]; exact q,fun b ps q=>⟨#[],by rw [aJ (hm b _ q fun z=>z),q]; simp⟩⟩
  by_cases hbe:b=e
  · subst hbe; exact heo
  · exact ⟨u,k b u hbe q⟩
end
def trk (h:cB) (H:Hp):List aa:=(hV h.objs.size).filter fun a=>(H a).isSome
def vR (h:cB) (H:Hp):cB:=mB h (trk h H)
theorem AV (h:cB) (H:Hp):(vR h H).objs.size=h.objs.size:=PySem.W.hideAll_size _ _
theorem B1 {h:cB} {H:Hp} {b:aa} {o:Obj} (e:h.get? b=some o) (n:H b=none):(vR h H).get? b=some o:=
  yu _ e fun hm=>by
    have q:(H b).isSome=true:=(EY.mp hm).2
    rw [n] at q; simp at q
theorem EZ {h:cB} {H:Hp} {b:aa} {o:Obj} (e:(vR h H).get? b=some o):h.get? b=some o/\H b=none:=by
  have e':h.get? b=some o:=yG (trk h H) e
  refine ⟨e',?_⟩
  cases q:H b with
  | none=>rfl
  | some x =>
    have hm:b∈trk h H:=EY.mpr ⟨oY.mpr (aK e'),by simp [q]⟩
    have z:(vR h H).get? b=none:=PySem.W.hideAll_none (trk h H) hm
    rw [z] at e; cases e
end L2
namespace L2
open PySem PySem.Spec PyProof.Rows
structure Mod (K:af) (mg:Str->Option ae) (base:cB):Prop where
  kin:K.In base
  glob:base.Ns bL mg
  blt:∃ mb,base.Ns Ie mb/\∀ x:Str,x≠"__name__"->mb x=eP x
  nolimit:base.NoLimit
structure Cx where
  prog:aM
  w:bH
  K:af
  mg:Str->Option ae
  base:cB
  A:bP
  N:List Str
  s₀:aj
  H₀:Hp
  env:Env
  outer:List Env
  stack:List Env
  ex:List aa
  fn:Str->Bool
  calm:Bool
  pn:List (aa×Obj)
  xe:ae->aj->Prop
def frs (l:List Env):List aa:=l.filterMap (·.frame)
abbrev Cx.fs (X:Cx):List aa:=frs X.outer
def Vis (sc:j5) (x:Str):Prop:=sc.names.lookup x=some .local\/sc.names.lookup x=some .cell\/sc.names.lookup x=some .free
def Loc (sc:j5) (x:Str):Prop:=sc.names.lookup x=some .local\/sc.names.lookup x=some .cell
def Look (env:Env) (h:cB) (m:Str->Option ae) (x:Str) (u:ae):Prop:=
  (env.kindOf x=some .local/\m x=some u)\/((env.kindOf x=some .cell\/env.kindOf x=some .free)/\∃ c,env.cells.lookup x=some c/\h.IsCell c (some u))
structure Cx.Ok (X:Cx):Prop where
  mod:Mod X.K X.mg X.base
  kind:X.env.scope.kind=.function
  glob:X.env.globals=bL
  blt:X.env.builtins=Ie
  above:X.s₀.heap.objs.size<=X.env.locals
  inj:∀ x y c,X.env.cells.lookup x=some c->X.env.cells.lookup y=some c->x=y
  has:∀ x,(X.env.kindOf x=some .cell\/X.env.kindOf x=some .free)->∃ c,X.env.cells.lookup x=some c
  cab:∀ x c,X.fn x=true->X.env.cells.lookup x=some c->X.s₀.heap.objs.size<=c
  hd:X.calm=true->X.A.handled=none
  frames:X.A.frames=some X.stack
  stk:X.stack=X.outer\/(X.stack=X.env :: X.outer/\X.env.frame=some X.env.locals)
  exf:∀ b∈X.ex,b≠X.env.locals/\∀ x c,X.env.cells.lookup x=some c->c≠b
  bs:∀ b o,X.base.get? b=some o->X.s₀.heap.get? b=some o/\X.H₀ b=none
  bsz:X.base.objs.size<=X.s₀.heap.objs.size
  noex:∀ b o,X.base.get? b=some o->b∉X.ex
  exfs:∀ b∈X.ex,b∉X.fs
  funs:X.s₀.heap.FunFrames X.base X.outer
  frf:∀ b∈X.fs,X.H₀ b=none
structure Inv (X:Cx) (pins:List (aa×Obj)) (σ:List (Option V)) (H:Hp) (s:aj):Prop where
  ok:X.Ok
  os:s.os=X.s₀.os
  bare:mV s.gens
  base:Un X.fs X.ex X.H₀ H X.s₀.heap s.heap
  loc:∃ m,s.heap.Ns X.env.locals m/\∀ (i:Nat) (x:Str) (v:V),X.N[i]?=some x->σ[i]?=some (some v)->Vis X.env.scope x->∃ u,RelV v u/\Look X.env s.heap m x u
  cell:∀ x c,X.env.cells.lookup x=some c->∃ v,s.heap.IsCell c v
  free:H X.env.locals=none
  freeC:∀ x c,X.env.cells.lookup x=some c->H c=none
  pin:∀ p∈X.pn++pins,s.heap.get? p.1=some p.2/\H p.1=none/\p.1≠X.env.locals/\p.1∉X.fs/\∀ v,p.2.data≠.cell v
  hok:HOk X.prog X.w H s.heap
  len:σ.length=X.N.length
section
variable {X:Cx} {pins:List (aa×Obj)} {σ:List (Option V)} {H H':Hp} {s:aj} {h':cB}
theorem Cx.Ok.nofr (ok:X.Ok) {b:aa} {o:Obj} (e:X.base.get? b=some o):b∉X.fs:=fun hb=>by
  have:=(ok.funs.mem hb).1
  rw [e] at this; cases this
theorem Inv.bs (I:Inv X pins σ H s):∀ b o,X.base.get? b=some o->s.heap.get? b=some o/\H b=none:=fun b o e =>
  ⟨I.base.keep b o (I.ok.bs b o e).1 (I.ok.bs b o e).2 (I.ok.nofr e) (I.ok.noex b o e),I.base.free b o (I.ok.bs b o e).1 (I.ok.bs b o e).2 (I.ok.noex b o e)⟩
theorem Inv.bk (I:Inv X pins σ H s):∀ b o,X.base.get? b=some o->s.heap.get? b=some o:=fun b o e=>(I.bs b o e).1
theorem Inv.mod (I:Inv X pins σ H s):Mod X.K X.mg X.base:=I.ok.mod
theorem Inv.kIn (I:Inv X pins σ H s):X.K.In s.heap:=I.ok.mod.kin.keeps I.bk
theorem Inv.fr (I:Inv X pins σ H s):∃ m,Fr X.base X.env.locals s.heap m:=
  let ⟨m,hn,_⟩:=I.loc
  ⟨m,hn,I.bk,c8 I.ok.bsz I.ok.above⟩
theorem Inv.lt (I:Inv X pins σ H s):X.env.locals < s.heap.objs.size:=let ⟨_,hn,_⟩:=I.loc; hn.lt
theorem Inv.sz (I:Inv X pins σ H s):X.s₀.heap.objs.size<=s.heap.objs.size:=c8 I.ok.above (j6 I.lt)
theorem Inv.nofs (I:Inv X pins σ H s) {a:aa} (h:s.heap.objs.size<=a):a∉X.fs:=fun hb=>by
  obtain ⟨_,o,ho,_⟩:=I.ok.funs.mem hb
  exact absurd (aY (aK ho) (c8 I.sz h)) (gy _)
theorem Inv.cne (I:Inv X pins σ H s):∀ x c,X.env.cells.lookup x=some c->c≠X.env.locals:=fun x c e z=>by
  obtain ⟨v,o,ho,hd⟩:=I.cell x c e
  obtain ⟨m,⟨o',es,ep,ho',hd',_⟩,_⟩:=I.loc
  rw [z,ho'] at ho; cases ho; rw [hd'] at hd; cases hd
theorem Inv.funs (I:Inv X pins σ H s):s.heap.FunFrames X.base X.outer:=by
  have all:∀ (l:List Env),(∀ b∈frs l,b∈X.fs)->X.s₀.heap.FunFrames X.base l->s.heap.FunFrames X.base l:=by
    intro l
    induction l with
    | nil=>intro _ _; trivial
    | cons env r ih =>
      intro hs hl
      obtain ⟨hk,⟨L,o,hf,hn,ho,hd⟩,hr⟩:=hl
      have hL:L∈X.fs:=hs L (by unfold frs; rw [pK,hf]; exact aw)
      obtain ⟨sl,e⟩:=I.base.slot L o ho (I.ok.frf L hL) hL fun z=>I.ok.exfs L z hL
      exact ⟨hk,⟨L,_,hf,hn,e,hd⟩,ih (fun b hb=>hs b (by unfold frs; rw [pK,hf]; exact ag _ hb)) hr⟩
  exact all X.outer (fun _ hb=>hb) I.ok.funs
theorem Inv.stack (I:Inv X pins σ H s):s.heap.FunFrames X.base X.stack:=by
  rcases I.ok.stk with e | ⟨e,hf⟩
  · rw [e]; exact I.funs
  · rw [e]
    obtain ⟨m,hn,_⟩:=I.loc
    refine .cons (by rw [I.ok.kind]; decide) hf hn ?_ I.funs
    exact Heap.get?_none_of_le (c8 I.ok.bsz I.ok.above)
theorem Inv.stkSub (I:Inv X pins σ H s):∀ b∈frs X.stack,b∈X.env.locals :: X.fs:=fun b hb=>by
  rcases I.ok.stk with e | ⟨e,hf⟩
  · rw [e] at hb; exact ag _ hb
  · rw [e] at hb
    unfold frs at hb
    rw [pK,hf] at hb
    exact hb
theorem Inv.stkFree (I:Inv X pins σ H s):∀ b∈frs X.stack,H b=none:=fun b hb=>by
  rcases au.mp (I.stkSub b hb) with e | hb
  · rw [e]; exact I.free
  · obtain ⟨_,o,ho,_⟩:=I.ok.funs.mem hb
    exact I.base.free b o ho (I.ok.frf b hb) fun z=>I.ok.exfs b z hb
theorem Inv.step {g':Array GenState} {t':Nat} {d':Drawn} {ch:List aa} (I:Inv X pins σ H s)
    (hch:∀ b∈ch,(b∈X.ex\/X.s₀.heap.objs.size<=b)/\b≠X.env.locals/\(∀ x c,X.env.cells.lookup x=some c->c≠b)/\∀ p∈X.pn++pins,p.1≠b)
    (keep:∀ b o,b≠X.env.locals->b∉X.fs->b∉ch->s.heap.get? b=some o->H b=none->h'.get? b=some o)
    (slot:∀ b o,b≠X.env.locals->b∈X.fs->b∉ch->s.heap.get? b=some o->H b=none->∃ sl,h'.get? b=some {o with slots:=sl}) (free:∀ b o,b∉ch->s.heap.get? b=some o->H b=none->H' b=none)
    (there:∀ b o,b∉ch->s.heap.get? b=some o->∃ o',h'.get? b=some o')
    (tups:∀ b xs,H b=some (.tup xs)->H' b=some (.tup xs)) (frzs:∀ b o u,H b=some (.frz o u)->H' b=some (.frz o u)) (tbls:∀ b ps,H b=some (.tbl ps)->∃ more,H' b=some (.tbl (ps++more)))
    (ns:∀ m,s.heap.Ns X.env.locals m->h'.Ns X.env.locals m) (hok:HOk X.prog X.w H' h') (hg:mV g') :
    Inv X pins σ H' {s with heap:=h',gens:=g',drawn:=d',toks:=t'}:=by
  have neL:∀ b o,X.s₀.heap.get? b=some o->b≠X.env.locals:=fun b o e=>aL (aY (aK e) I.ok.above)
  have neC:∀ b o,X.s₀.heap.get? b=some o->b∉X.ex->b∉ch:=fun b o e hx hb=>by
    rcases (hch b hb).1 with z | z
    · exact hx z
    · exact absurd (aY (aK e) z) (gy _)
  have cellK:∀ x c,X.env.cells.lookup x=some c->∀ v,s.heap.IsCell c v->h'.IsCell c v:=fun x c e v ⟨o,ho,hd⟩=>by
    have nch:c∉ch:=fun z=>(hch c z).2.2.1 x c e rfl
    by_cases hc:c∈X.fs
    · obtain ⟨sl,q⟩:=slot c o (I.cne x c e) hc nch ho (I.freeC x c e)
      exact ⟨_,q,hd⟩
    · exact ⟨o,keep c o (I.cne x c e) hc nch ho (I.freeC x c e),hd⟩
  refine ⟨I.ok,I.os,hg,⟨fun b o e n hb hx=>?_,fun b o e n hb hx=>?_,fun b o e n hx=>?_,fun b o e hx=>?_,fun b xs e=>tups b xs (I.base.tups b xs e),fun b o xs e=>frzs b o xs (I.base.frzs b o xs e),fun b ps e=>?_⟩,?_,fun x c e=>?_,?_,fun x c e=>?_,fun p hp=>?_,hok,I.len⟩
  · exact keep b o (neL b o e) hb (neC b o e hx) (I.base.keep b o e n hb hx) (I.base.free b o e n hx)
  · obtain ⟨sl,e1⟩:=I.base.slot b o e n hb hx
    obtain ⟨sl',e2⟩:=slot b _ (neL b o e) hb (neC b o e hx) e1 (I.base.free b o e n hx)
    exact ⟨sl',e2⟩
  · obtain ⟨o',e1⟩:=I.base.there b o e hx
    exact free b o' (neC b o e hx) e1 (I.base.free b o e n hx)
  · obtain ⟨o',e1⟩:=I.base.there b o e hx
    exact there b o' (neC b o e hx) e1
  · obtain ⟨m1,e1⟩:=I.base.tbls b ps e
    obtain ⟨m2,e2⟩:=tbls b _ e1
    exact ⟨m1++m2,by rw [e2,Array.append_assoc]⟩
  · obtain ⟨m,hn,hl⟩:=I.loc
    refine ⟨m,ns m hn,fun i x v e1 e2 e3=>?_⟩
    obtain ⟨u,r,l⟩:=hl i x v e1 e2 e3
    refine ⟨u,r,?_⟩
    rcases l with l | ⟨k,c,e,z⟩
    · exact .inl l
    · exact .inr ⟨k,c,e,cellK x c e _ z⟩
  · obtain ⟨v,z⟩:=I.cell x c e
    exact ⟨v,cellK x c e v z⟩
  · obtain ⟨m,⟨o,_,_,ho,_⟩,_⟩:=I.loc
    exact free _ o (fun z=>(hch _ z).2.1 rfl) ho I.free
  · obtain ⟨v,o,ho,hd⟩:=I.cell x c e
    exact free c o (fun z=>(hch c z).2.2.1 x c e rfl) ho (I.freeC x c e)
  · obtain ⟨e,n,ne,nf,d⟩:=I.pin p hp
    have nch:p.1∉ch:=fun z=>(hch p.1 z).2.2.2 p hp rfl
    exact ⟨keep p.1 p.2 ne nf nch e n,free p.1 p.2 nch e n,ne,nf,d⟩
theorem Inv.un {t':Nat} (I:Inv X pins σ H s) (u:Un X.fs [] H H' s.heap h') (hok:HOk X.prog X.w H' h'):Inv X pins σ H' {s with heap:=h',toks:=t'}:=by
  obtain ⟨m,⟨o,es,ep,ho,r⟩,_⟩:=id I.loc
  obtain ⟨sl,hL⟩:=u.any ho I.free (by simp)
  exact I.step (g':=s.gens) (d':=s.drawn) (ch:=[]) (fun _ z=>nomatch z) (fun b o _ hb _ e n=>u.keep b o e n hb (by simp)) (fun b o _ hb _ e n=>u.slot b o e n hb (by simp)) (fun b o _ e n=>u.free b o e n (by simp)) (fun b o _ e=>u.there b o e (by simp)) u.tups u.frzs u.tbls (fun m' hm=>by
    obtain ⟨o',es',ep',ho',r'⟩:=hm
    rw [ho] at ho'; cases ho'
    exact ⟨_,es',ep',hL,r'⟩) hok I.bare
theorem Inv.call {g':Array GenState} {t':Nat} {d':Drawn} {ch:List aa} (I:Inv X pins σ H s) (u:Un (frs X.stack) ch H H' s.heap h') (hok:HOk X.prog X.w H' h') (hg:mV g')
    (hch:∀ b∈ch,(b∈X.ex\/X.s₀.heap.objs.size<=b)/\b≠X.env.locals/\(∀ x c,X.env.cells.lookup x=some c->c≠b)/\∀ p∈X.pn++pins,p.1≠b) :
    Inv X pins σ H' {s with heap:=h',gens:=g',drawn:=d',toks:=t'}:=by
  obtain ⟨m,⟨o,es,ep,ho,r⟩,_⟩:=id I.loc
  obtain ⟨sl,hL⟩:=u.any ho I.free fun z=>(hch _ z).2.1 rfl
  exact I.step (ch:=ch) hch (fun b o hL hb hc e n=>u.keep b o e n (fun z=>(au.mp (I.stkSub b z)).elim hL hb) hc) (fun b o _ _ hc e n=>u.any e n hc) (fun b o hc e n=>u.free b o e n hc) (fun b o hc e=>u.there b o e hc) u.tups u.frzs u.tbls (fun m' hm=>by
    obtain ⟨o',es',ep',ho',r'⟩:=hm
    rw [ho] at ho'; cases ho'
    exact ⟨_,es',ep',hL,r'⟩) hok hg
theorem Inv.turned {t':Nat} {it:aa} (I:Inv X pins σ H s) (k:∀ b o,b≠it->s.heap.get? b=some o->h'.get? b=some o) (hn:H it=none) (hL:it≠X.env.locals)
    (h1:it∈X.ex\/X.s₀.heap.objs.size<=it) (h2:∀ x c,X.env.cells.lookup x=some c->c≠it) (h3:∀ p∈X.pn++pins,p.1≠it):Inv X pins σ H {s with heap:=h',toks:=t'}:=by
  have nit:∀ b u,H b=some u->b≠it:=fun b u e z=>by rw [z,hn] at e; cases e
  refine I.step (g':=s.gens) (d':=s.drawn) (ch:=[it]) (fun b hb=>?_) (fun b o _ _ hc e _=>k b o (fun z=>hc (by simp [z])) e) (fun b o _ _ hc e _=>⟨o.slots,k b o (fun z=>hc (by simp [z])) e⟩) (fun _ _ _ _ n=>n)
    (fun b o hc e=>⟨o,k b o (fun z=>hc (by simp [z])) e⟩) (fun _ _ e=>e) (fun _ _ _ e=>e) (fun b ps e=>⟨#[],by rw [e]; simp⟩) (fun m hm=>?_) (fun b u e=>?_) I.bare
  · have e:b=it:=by simpa using hb
    subst e
    exact ⟨h1,hL,h2,h3⟩
  · obtain ⟨o,es,ep,ho,r⟩:=hm
    exact ⟨o,es,ep,k _ o (eZ hL) ho,r⟩
  · refine (I.hok b u e).stay (fun c v hc q=>k c v ?_ q) (fun _ q=>q) fun _ _ q=>q
    rcases hc with z | z
    · rw [z]; exact nit b u e
    · exact nit c _ z
theorem Inv.tok (I:Inv X pins σ H s) (t:Nat):Inv X pins σ H {s with toks:=t}:=I.un (h':=s.heap) (t':=t) Un.refl I.hok
theorem Inv.kept {t':Nat} (I:Inv X pins σ H s) (k:∀ b u,s.heap.get? b=some u->h'.get? b=some u):Inv X pins σ H {s with heap:=h',toks:=t'}:=I.un (Un.kept k) (I.hok.kept k)
theorem Inv.laid {a:aa} {o:HO} {t':Nat} (I:Inv X pins σ H s) (k:∀ b u,s.heap.get? b=some u->h'.get? b=some u) (hp:s.heap.objs.size<=a) (new:d5 X.prog X.w (upd H a o) h' a o) :
    Inv X pins σ (upd H a o) {s with heap:=h',toks:=t'}:=I.un (Un.laid k hp (I.hok.fresh hp)) (I.hok.laid k hp new)
theorem Inv.write {x e:aa} {o:HO} {t':Nat} (I:Inv X pins σ H s) (mu:Mut (H x)) (he:e=x\/H e=some (.own x)) (k:∀ b u,b≠e->s.heap.get? b=some u->h'.get? b=some u) (heo:∃ u,h'.get? e=some u)
    (new:d5 X.prog X.w (upd H x o) h' x o):Inv X pins σ (upd H x o) {s with heap:=h',toks:=t'}:=I.un (Un.write mu he k heo) (I.hok.write mu he k heo new)
theorem Inv.weak {σ':List (Option V)} (I:Inv X pins σ H s) (hl:σ'.length=σ.length) (w:∀ (i:Nat) v,σ'[i]?=some (some v)->σ[i]?=some (some v)):Inv X pins σ' H s:=
  ⟨I.ok,I.os,I.bare,I.base,let ⟨m,hn,hl'⟩:=I.loc; ⟨m,hn,fun i x v e1 e2 e3=>hl' i x v e1 (w i v e2) e3⟩,I.cell,I.free,I.freeC,I.pin,I.hok,hl.trans I.len⟩
theorem Inv.pins_of {pins':List (aa×Obj)} (I:Inv X pins σ H s) (h:∀ p∈pins',s.heap.get? p.1=some p.2/\H p.1=none/\p.1≠X.env.locals/\p.1∉X.fs/\∀ v,p.2.data≠.cell v):Inv X pins' σ H s:=
  ⟨I.ok,I.os,I.bare,I.base,I.loc,I.cell,I.free,I.freeC,fun p hp=>(cq.mp hp).elim (fun z=>I.pin p (gu _ z)) (h p),I.hok,I.len⟩
theorem tD {N:List Str} (hN:N.Nodup) {i j:Nat} {x:Str} (a:N[i]?=some x) (b:N[j]?=some x):i=j:=by
  obtain ⟨h1,e1⟩:=aB.mp a
  obtain ⟨h2,e2⟩:=aB.mp b
  exact (List.getElem_inj hN).mp (e1.trans e2.symm)
theorem uY {M:E1} {A:bP} {E:ae->aj->Prop} {i:Nat} {x:Str} {v:V} {u:ae} {Q:Unit->aj->Prop} (I:Inv X pins σ H s) (hN:X.N.Nodup) (hi:X.N[i]?=some x) (hx:Loc X.env.scope x) (r:RelV v u)
    (h:∀ s',Inv X pins (σ.set i (some v)) H s'->(∃ a,mX a s.heap s'.heap/\(a=X.env.locals\/X.env.cells.lookup x=some a))->Q () s') (hf:X.fn x=true\/X.env.scope.names.lookup x=some .local:=by first | exact .inl rfl | exact .inr rfl | assumption):aU M A (storeName X.env x u) Q E s:=by
  obtain ⟨m,hn,hl⟩:=id I.loc
  have hcls:(X.env.scope.kind == .class || (X.env.scope.kind == .module && X.env.locals != X.env.globals))=false:=by rw [I.ok.kind]; rfl
  have hiσ:i < σ.length:=by rw [I.len]; exact (aB.mp hi).1
  have cne:=I.cne
  have tracked:∀ {a:aa} {h':cB},(∃ o,s.heap.get? a=some o/\H a=none)->mX a s.heap h'->HOk X.prog X.w H h':=fun {a h'} ha hs b ob e=>by
    obtain ⟨_,_,hfree⟩:=ha
    refine (I.hok b ob e).stay (fun c w' hc q=>(hs.2 c ?_).trans q) (fun _ q=>q) fun _ _ q=>q
    rintro rfl
    rcases hc with rfl | hc
    · rw [hfree] at e; cases e
    · rw [hfree] at hc; cases hc
  rcases hx with hk | hk
  · refine wpAny_storeName_local hk hn (fun h' hn' hs=>?_) hcls
    obtain ⟨oL,_,_,hoL,_⟩:=id hn
    refine h _ ⟨I.ok,I.os,I.bare,⟨fun b o e n hb hx=>?_,fun b o e n hb hx=>?_,I.base.free,fun b o e hx=>?_,I.base.tups,I.base.frzs,I.base.tbls⟩,⟨_,hn',fun j y v' e1 e2 e3=>?_⟩,fun y c e=>?_,I.free,I.freeC,fun p hp=>?_,tracked ⟨oL,hoL,I.free⟩ hs,by simpa using I.len⟩ ⟨_,hs,.inl rfl⟩
    · exact (hs.2 b (aL (aY (aK e) I.ok.above))).trans (I.base.keep b o e n hb hx)
    · obtain ⟨sl,e1⟩:=I.base.slot b o e n hb hx
      exact ⟨sl,(hs.2 b (aL (aY (aK e) I.ok.above))).trans e1⟩
    · obtain ⟨o',e1⟩:=I.base.there b o e hx
      exact ⟨o',(hs.2 b (aL (aY (aK e) I.ok.above))).trans e1⟩
    · by_cases hj:j=i
      · subst hj
        rw [hi] at e1; cases e1
        rw [eM hiσ] at e2
        cases e2
        exact ⟨u,r,.inl ⟨hk,by simp⟩⟩
      · rw [hW (eZ hj)] at e2
        obtain ⟨u',r',q⟩:=hl j y v' e1 e2 e3
        refine ⟨u',r',?_⟩
        rcases q with ⟨k,e⟩ | ⟨k,c,e,z⟩
        · refine .inl ⟨k,?_⟩
          have:y≠x:=fun e=>hj (tD hN e1 (e ▸ hi))
          simp [this,e]
        · exact .inr ⟨k,c,e,z.sameBut hs (cne y c e)⟩
    · obtain ⟨w',z⟩:=I.cell y c e
      exact ⟨w',z.sameBut hs (cne y c e)⟩
    · obtain ⟨e,n,ne,nf,d⟩:=I.pin p hp
      exact ⟨(hs.2 p.1 ne).trans e,n,ne,nf,d⟩
  · have hfn:X.fn x=true:=by
      rcases hf with z | z
      · exact z
      · rw [z] at hk; cases hk
    obtain ⟨c,hc⟩:=I.ok.has x (.inl hk)
    obtain ⟨w',z⟩:=I.cell x c hc
    refine wpAny_storeName_cell I.ok.kind hk hc z (fun h' hc' hs=>?_)
    obtain ⟨oc,hoc,hocd⟩:=id z
    refine h {s with heap:=h'} ⟨I.ok,I.os,I.bare,⟨fun b o e n hb hx=>?_,fun b o e n hb hx=>?_,I.base.free,fun b o e hx=>?_,I.base.tups,I.base.frzs,I.base.tbls⟩,⟨m,hn.sameBut hs (eZ (cne x c hc)),fun j y v' e1 e2 e3=>?_⟩,fun y c' e=>?_,I.free,I.freeC,fun p hp=>?_,tracked ⟨oc,hoc,I.freeC x c hc⟩ hs,by simpa using I.len⟩ ⟨c,hs,.inr hc⟩
    · exact (hs.2 b (aL (aY (aK e) (I.ok.cab x c hfn hc)))).trans (I.base.keep b o e n hb hx)
    · obtain ⟨sl,e1⟩:=I.base.slot b o e n hb hx
      exact ⟨sl,(hs.2 b (aL (aY (aK e) (I.ok.cab x c hfn hc)))).trans e1⟩
    · obtain ⟨o',e1⟩:=I.base.there b o e hx
      exact ⟨o',(hs.2 b (aL (aY (aK e) (I.ok.cab x c hfn hc)))).trans e1⟩
    · by_cases hj:j=i
      · subst hj
        rw [hi] at e1; cases e1
        rw [eM hiσ] at e2
        cases e2
        exact ⟨u,r,.inr ⟨.inl hk,c,hc,hc'⟩⟩
      · rw [hW (eZ hj)] at e2
        obtain ⟨u',r',q⟩:=hl j y v' e1 e2 e3
        refine ⟨u',r',?_⟩
        rcases q with q | ⟨k,c',e,z'⟩
        · exact .inl q
        · refine .inr ⟨k,c',e,z'.sameBut hs ?_⟩
          rintro rfl
          exact hj (tD hN e1 (I.ok.inj _ _ _ e hc ▸ hi))
    · by_cases hcc:c'=c
      · subst hcc; exact ⟨_,hc'⟩
      · obtain ⟨w2,z2⟩:=I.cell y c' e
        exact ⟨w2,z2.sameBut hs hcc⟩
    · obtain ⟨e,n,ne,nf,d⟩:=I.pin p hp
      refine ⟨(hs.2 p.1 ?_).trans e,n,ne,nf,d⟩
      intro q
      rw [q,hoc] at e
      have q':oc=p.2:=cW e
      exact d w' (by rw [<- q']; exact hocd)
theorem pV {M:E1} {A:bP} {E:ae->aj->Prop} {i:Nat} {x:Str} {v:V} {u:ae} {Q:Unit->aj->Prop} (I:Inv X pins σ H s) (hN:X.N.Nodup) (hi:X.N[i]?=some x) (hx:Loc X.env.scope x) (r:RelV v u)
    (h:∀ s',Inv X pins (σ.set i (some v)) H s'->Q () s') (hf:X.fn x=true\/X.env.scope.names.lookup x=some .local:=by first | exact .inl rfl | exact .inr rfl | assumption):aU M A (storeName X.env x u) Q E s:=
  uY I hN hi hx r (fun s' I' _=>h s' I') hf
theorem Inv.call' {s':aj} {ch:List aa} (I:Inv X pins σ H s) (ho:s'.os=s.os) (u:Un (frs X.stack) ch H H' s.heap s'.heap) (hok:HOk X.prog X.w H' s'.heap) (hg:mV s'.gens)
    (hch:∀ b∈ch,(b∈X.ex\/X.s₀.heap.objs.size<=b)/\b≠X.env.locals/\(∀ x c,X.env.cells.lookup x=some c->c≠b)/\∀ p∈X.pn++pins,p.1≠b):Inv X pins σ H' s':=by
  obtain ⟨h',g',d',t',o'⟩:=s'
  have e:o'=s.os:=ho
  subst e
  exact I.call (g':=g') (t':=t') (d':=d') u hok hg hch
end
abbrev XK:=ae->Option aa->Hp->Prop
abbrev St:=List (Option V)
abbrev VK:=V->Hp->Prop
abbrev TE:=St->Hp->VK->Prop
abbrev TT:=St->Hp->(Bool->Hp->Prop)->Prop
abbrev TA:=St->Hp->(List V->Hp->Prop)->Prop
structure jM where
  nx:St->Hp->Prop
  rt:VK
  bk:St->Hp->Prop:=fun _ _=>False
  ct:St->Hp->Prop:=fun _ _=>False
abbrev TS:=jM->St->Hp->Prop
def EP (X:Cx) (pins:List (aa×Obj)) (σ:St) (Q:VK) (u:ae) (s':aj):Prop:=∃ v H',Inv X pins σ H' s'/\RelV v u/\Q v H'
def TP (X:Cx) (pins:List (aa×Obj)) (σ:St) (Q:Bool->Hp->Prop) (b:Bool) (s':aj):Prop:=∃ H',Inv X pins σ H' s'/\Q b H'
def AP (X:Cx) (pins:List (aa×Obj)) (σ:St) (Q:List V->Hp->Prop) (us:List ae) (s':aj):Prop:=∃ vs H',Inv X pins σ H' s'/\cS vs us/\Q vs H'
def SP (X:Cx) (pins:List (aa×Obj)) (D:jM) (f:Flow) (s':aj):Prop:=
  match f with
  | .next=>∃ σ' H',Inv X pins σ' H' s'/\D.nx σ' H'
  | .brk=>∃ σ' H',Inv X pins σ' H' s'/\D.bk σ' H'
  | .cont=>∃ σ' H',Inv X pins σ' H' s'/\D.ct σ' H'
  | .ret u=>∃ v σ' H',Inv X pins σ' H' s'/\RelV v u/\D.rt v H'
def PE (X:Cx) (e:cX) (t:TE):Prop:=
  ∀ (pins:List (aa×Obj)) (s:aj) (σ:St) (H:Hp) (Q:VK),Inv X pins σ H s->t σ H Q->aU (aW X.prog X.w) X.A (eW e X.env) (EP X pins σ Q) X.xe s
def PT (X:Cx) (e:cX) (t:TT):Prop:=
  ∀ (pins:List (aa×Obj)) (s:aj) (σ:St) (H:Hp) (Q:Bool->Hp->Prop),Inv X pins σ H s->t σ H Q->aU (aW X.prog X.w) X.A (B4 e X.env (eW e X.env)) (TP X pins σ Q) X.xe s
def PW (X:Cx) (e:cX) (t:TT):Prop:=
  ∀ (whole:Sem ae) (pins:List (aa×Obj)) (s:aj) (σ:St) (H:Hp) (Q:Bool->Hp->Prop),Inv X pins σ H s->t σ H Q->aU (aW X.prog X.w) X.A (B4 e X.env whole) (TP X pins σ Q) X.xe s
theorem PW.pt {X:Cx} {e:cX} {t:TT} (h:PW X e t):PT X e t:=h _
def PA (X:Cx) (es:List cX) (t:TA):Prop:=
  ∀ (pos:Pos) (pins:List (aa×Obj)) (s:aj) (σ:St) (H:Hp) (Q:List V->Hp->Prop),Inv X pins σ H s->t σ H Q->aU (aW X.prog X.w) X.A (spliced (iw pos (cH es X.env))) (AP X pins σ Q) X.xe s
def PS (X:Cx) (st:df) (t:TS):Prop:=
  ∀ (pins:List (aa×Obj)) (s:aj) (σ:St) (H:Hp) (D:jM),Inv X pins σ H s->t D σ H->aU (aW X.prog X.w) X.A (exec st X.env) (SP X pins D) X.xe s
def PSs (X:Cx) (st:List df) (t:TS):Prop:=
  ∀ (pins:List (aa×Obj)) (s:aj) (σ:St) (H:Hp) (D:jM),Inv X pins σ H s->t D σ H->aU (aW X.prog X.w) X.A (execs st X.env) (SP X pins D) X.xe s
theorem thn {α:Type} {t:Sem α} {Q Q':α->aj->Prop} {M:E1} {A:bP} {E:ae->aj->Prop} {s:aj} (h:aU M A t Q E s) (hQ:∀ a s,Q a s->Q' a s):aU M A t Q' E s:=d9 h hQ fun _ _ x=>x
end L2
namespace L2
open PySem PySem.Spec PyProof.Rows
section
variable {X:Cx}
theorem bin {a b:cX} {ta tb:TE} (ha:PE X a ta) (hb:PE X b tb) {pins:List (aa×Obj)} {s:aj} {σ:St} {H:Hp} {R:V->V->Hp->Prop} (I:Inv X pins σ H s) (h:ta σ H fun x H1=>tb σ H1 fun y H2=>R x y H2)
    {α:Type} {Q:α->aj->Prop} {f:ae->ae->Sem α}
    (hf:∀ v u s2 x y H2,Inv X pins σ H2 s2->RelV x v->RelV y u->R x y H2->aU (aW X.prog X.w) X.A (f v u) Q X.xe s2) :
    aU (aW X.prog X.w) X.A (eW a X.env) (fun v s₁=>aU (aW X.prog X.w) X.A (eW b X.env) (fun u s₂=>aU (aW X.prog X.w) X.A (f v u) Q X.xe s₂) X.xe s₁) X.xe s:=by
  refine thn (ha pins s σ H _ I h) fun v s1 ⟨x,H1,I1,r1,q1⟩=>?_
  refine thn (hb pins s1 σ H1 _ I1 q1) fun u s2 ⟨y,H2,I2,r2,q2⟩=>?_
  exact hf v u s2 x y H2 I2 r1 r2 q2
def tE (i:Nat):TE:=fun σ H Q=>∃ v,σ[i]?=some (some v)/\Q v H
def tC (v:V):TE:=fun _ H Q=>Q v H
theorem Ig {i:Nat} {x:Str} {pos:Pos} (hN:X.N[i]?=some x) (hv:Vis X.env.scope x) (hd:(x == ("__debug__":Str))=false:=by decide) (hcd:(x == ("__classdict__":Str))=false:=by decide):PE X (.Name x pos) (tE i):=by
  intro pins s σ H Q I h
  obtain ⟨v,e,h⟩:=h
  obtain ⟨m,hn,hl⟩:=I.loc
  obtain ⟨u,r,l⟩:=hl i x v hN e hv
  have fin:EP X pins σ Q u s:=⟨v,H,I,r,h⟩
  rcases l with ⟨hk,hm⟩ | ⟨hk,c,hc,hcell⟩
  · exact Ih (wpAny_loadName_local I.ok.kind hk hn hm fin) hd
  · rcases hk with hk | hk
    · exact Ih (wpAny_loadName_cell I.ok.kind hk hc hcell fin) hd
    · exact Ih (wpAny_loadName_free I.ok.kind hk hc hcell fin hcd) hd
theorem ay {i j pos}:PE X (.Constant (.int i) j pos) (tC (.int i)):=fun _ _ _ H _ I h=>wpAny_Constant_int ⟨.int i,H,I.tok _,⟨_,rfl⟩,h⟩
theorem jN {b j pos}:PE X (.Constant (.bool b) j pos) (tC (.bl b)):=fun _ _ _ H _ I h=>Constant_bool ⟨.bl b,H,I,rfl,h⟩
theorem vS {j pos}:PE X (.Constant .none j pos) (tC .non):=fun _ _ _ H _ I h=>AW ⟨.non,H,I,rfl,h⟩
theorem bU {x j pos}:PE X (.Constant (.str x) j pos) (tC (.str x)):=fun _ _ _ H _ I h=>Calls.Constant_str ⟨.str x,H,I.tok _,⟨_,rfl⟩,h⟩
def Gl (X:Cx) (x:Str):Prop:=X.env.kindOf x=some .globalImplicit
theorem pX {E:ae->aj->Prop} {pins:List (aa×Obj)} {s:aj} {σ:St} {H:Hp} {x:Str} {u:ae} {pos:Pos} {Q:ae->aj->Prop} (I:Inv X pins σ H s) (hg:Gl X x) (hm:X.mg x=some u) (h:Q u s)
    (hd:(x == ("__debug__":Str))=false:=by decide):aU (aW X.prog X.w) X.A (eW (.Name x pos) X.env) Q E s:=
  uG I.ok.kind hg (Calls.loadGlobal_global (by rw [I.ok.glob]; exact I.mod.glob.keeps I.bk) hm h) hd
theorem qM {E:ae->aj->Prop} {pins:List (aa×Obj)} {s:aj} {σ:St} {H:Hp} {x:Str} {u:ae} {pos:Pos} {Q:ae->aj->Prop} (I:Inv X pins σ H s) (hg:Gl X x) (hm:X.mg x=none) (hv:eP x=some u) (h:Q u s)
    (hn:x≠"__name__":=by decide) (hd:(x == ("__debug__":Str))=false:=by decide):aU (aW X.prog X.w) X.A (eW (.Name x pos) X.env) Q E s:=by
  obtain ⟨mb,h1,h2⟩:=I.mod.blt
  exact uG I.ok.kind hg (Calls.loadGlobal_builtin (by rw [I.ok.glob]; exact I.mod.glob.keeps I.bk) hm (by rw [I.ok.blt]; exact h1.keeps I.bk) ((h2 x hn).trans hv) h) hd
theorem pY {x:Str} {v:V} {u:ae} {pos:Pos} (hg:Gl X x) (hm:X.mg x=none) (hv:eP x=some u) (r:RelV v u) (hn:x≠"__name__":=by decide) (hd:(x == ("__debug__":Str))=false:=by decide):PE X (.Name x pos) (tC v):=
  fun _ _ _ H _ I h=>qM I hg hm hv ⟨v,H,I,r,h⟩ hn hd
variable {a b:cX} {ta tb:TE} {pos:Pos}
def PC (X:Cx) (op:Kl) (a b:cX) (t:TE):Prop:=
  ∀ (pins:List (aa×Obj)) (s:aj) (σ:St) (H:Hp) (Q:VK),Inv X pins σ H s->t σ H Q ->
    aU (aW X.prog X.w) X.A (eW a X.env) (fun v s₁=>aU (aW X.prog X.w) X.A (eW b X.env) (fun u s₂=>aU (aW X.prog X.w) X.A (cU op v u) (EP X pins σ Q) X.xe s₂) X.xe s₁) X.xe s
theorem B5 (b:cX) {op:Kl} (h:op≠.In) (h2:op≠.NotIn):iU op b=false:=by
  have e1:(op == CmpOp.In)=false:=by cases op <;> first | rfl | exact absurd rfl h
  have e2:(op == CmpOp.NotIn)=false:=by cases op <;> first | rfl | exact absurd rfl h2
  cases b <;> simp [iU,e1,e2]
def tIsN (ta:TE):TE:=fun σ H Q=>ta σ H fun x H1=>Q (.bl (decide (x=.non))) H1
def tNotN (ta:TE):TE:=fun σ H Q=>ta σ H fun x H1=>Q (.bl (!decide (x=.non))) H1
theorem RelV.none_iff {x:V} {v:ae} (r:RelV x v):(v == Value.none)=decide (x=.non):=by
  cases x with
  | non=>cases r; rfl
  | bl _=>cases r; rfl
  | int _=>obtain ⟨t,rfl⟩:=r; rfl
  | str _=>obtain ⟨t,rfl⟩:=r; rfl
  | byt _=>obtain ⟨t,rfl⟩:=r; rfl
  | flt _=>obtain ⟨t,rfl⟩:=r; rfl
  | ref _=>cases r; rfl
  | ty _=>cases r; rfl
theorem Ii {j pos'} (ha:PE X a ta):PC X .Is a (.Constant .none j pos') (tIsN ta):=by
  intro pins s σ H Q I h
  refine thn (ha pins s σ H _ I h) fun v s1 ⟨x,H1,I1,r1,q1⟩=>?_
  exact AW (is_none_gen ⟨.bl _,H1,I1,by rw [r1.none_iff]; rfl,q1⟩)
theorem zR {j pos'} (ha:PE X a ta):PC X .IsNot a (.Constant .none j pos') (tNotN ta):=by
  intro pins s σ H Q I h
  refine thn (ha pins s σ H _ I h) fun v s1 ⟨x,H1,I1,r1,q1⟩=>?_
  exact AW (isnot_none_gen ⟨.bl _,H1,I1,by rw [r1.none_iff]; rfl,q1⟩)
def tB (t:TE):TT:=fun σ H Q=>t σ H fun x H1=>∃ c,x=.bl c/\Q c H1
theorem tF {op:Kl} {t:TE} (h:PC X op a b t) (h1:iU op b=false:=by first | exact B5 _ (by decide) (by decide) | rfl):PT X (.Compare a [op] [b] pos) (tB t):=by
  intro pins s σ H Q I hw
  refine ES (thn (h pins s σ H _ I hw) fun v s1 h1=>thn h1 fun u s2 h2=>thn h2 fun c s3 ⟨x,H1,I1,r1,q1⟩=>?_) h1
  obtain ⟨d,rfl,q⟩:=q1
  cases r1
  exact ie ⟨H1,I1,q⟩
theorem lO {e:cX} {t:TE} (h:PE X e t) (he:∀ whole,B4 e X.env whole=(do let v <- whole; uH e.pos; o9 [v] (truthy v)):=by intro _; rfl):PT X e (tB t):=by
  intro pins s σ H Q I hw
  refine isTrue_plain (thn (h pins s σ H _ I hw) fun v s1 ⟨x,H1,I1,r1,q1⟩=>?_) (he _)
  obtain ⟨d,rfl,q⟩:=q1
  cases r1
  exact ie ⟨H1,I1,q⟩
variable {tA tB':TT} {rest:List cX}
def tAnd (t u:TT):TT:=fun σ H Q=>t σ H fun c H1=>if c=true then u σ H1 Q else Q false H1
def tOr (t u:TT):TT:=fun σ H Q=>t σ H fun c H1=>if c=true then Q true H1 else u σ H1 Q
def tNot (t:TT):TT:=fun σ H Q=>t σ H fun c H1=>Q (!c) H1
theorem zS (ha:PT X a tA):PW X (.BoolOp .And [a] pos) tA:=by
  intro wh pins s σ H Q I h
  refine isTrue_and (thn (ha pins s σ H Q I h) fun c s1 e=>?_)
  cases c with
  | true=>exact isTrue_and_nil e
  | false=>exact e
theorem yH (ha:PT X a tA):PW X (.BoolOp .Or [a] pos) tA:=by
  intro wh pins s σ H Q I h
  refine isTrue_or (thn (ha pins s σ H Q I h) fun c s1 e=>?_)
  cases c with
  | false=>exact isTrue_or_nil e
  | true=>exact e
theorem B6 (ha:PT X a tA) (hb:PW X (.BoolOp .And (b :: rest) pos) tB'):PW X (.BoolOp .And (a :: b :: rest) pos) (tAnd tA tB'):=by
  intro wh pins s σ H Q I h
  refine isTrue_and (thn (ha pins s σ H _ I h) fun c s1 ⟨H1,I1,q1⟩=>?_)
  cases c with
  | true=>exact hb wh pins s1 σ H1 Q I1 q1
  | false=>exact ⟨H1,I1,q1⟩
theorem B7 (ha:PT X a tA) (hb:PW X (.BoolOp .Or (b :: rest) pos) tB'):PW X (.BoolOp .Or (a :: b :: rest) pos) (tOr tA tB'):=by
  intro wh pins s σ H Q I h
  refine isTrue_or (thn (ha pins s σ H _ I h) fun c s1 ⟨H1,I1,q1⟩=>?_)
  cases c with
  | true=>exact ⟨H1,I1,q1⟩
  | false=>exact hb wh pins s1 σ H1 Q I1 q1
theorem qN (ha:PT X a tA):PT X (.UnaryOp .Not a pos) (tNot tA):=by
  intro pins s σ H Q I h
  exact isTrue_not (ha pins s σ H (fun c H1=>Q (!c) H1) I h)
def tAndV (ta tb:TE):TE:=fun σ H Q=>ta σ H fun x H1=>∃ c,x=.bl c/\if c=true then tb σ H1 Q else Q (.bl false) H1
theorem B8 {op} {t:TE} (h:PE X a t):PE X (.BoolOp op [a] pos) t:=fun pins s σ H Q I hw=>BoolOp_one (h pins s σ H Q I hw)
theorem yI (ha:PE X a ta) (hb:PE X (.BoolOp .And (b :: rest) pos) tb):PE X (.BoolOp .And (a :: b :: rest) pos) (tAndV ta tb):=by
  intro pins s σ H Q I h
  refine BoolOp_and (thn (ha pins s σ H _ I h) fun v s1 ⟨x,H1,I1,r1,q1⟩=>?_)
  obtain ⟨c,rfl,q1⟩:=q1
  cases r1
  refine ie ?_
  cases c with
  | true=>exact hb pins s1 σ H1 Q I1 q1
  | false=>exact ⟨.bl false,H1,I1,rfl,q1⟩
def tIf (t:TT) (ta tb:TE):TE:=fun σ H Q=>t σ H fun c H1=>if c=true then ta σ H1 Q else tb σ H1 Q
theorem pZ {c:cX} (hc:PT X c tA) (ha:PE X a ta) (hb:PE X b tb):PE X (.IfExp c a b pos) (tIf tA ta tb):=by
  intro pins s σ H Q I h
  refine wpAny_IfExp (thn (hc pins s σ H _ I h) fun d s1 ⟨H1,I1,q1⟩=>?_)
  cases d with
  | true=>exact ha pins s1 σ H1 Q I1 q1
  | false=>exact hb pins s1 σ H1 Q I1 q1
end
end L2
namespace L2
open PySem PySem.Spec PyProof.Rows
def SqL (K:af) (H:Hp) (a:aa) (xs:List V):Prop:=
  Rd H a (.lst xs) \/
    ∃ (o:Obj) (its:Array ae) (n:Nat),K.lookup a=some o/\o.cls=.type "list"/\o.dict=none/\o.data=.seq its n/\its.size<=aA/\cS xs its.toList
def SqT (K:af) (H:Hp) (a:aa) (xs:List V):Prop:=
  Rd H a (.tup xs) \/
    ∃ (o:Obj) (its:Array ae) (n:Nat),K.lookup a=some o/\o.cls=.type "tuple"/\o.data=.seq its n/\its.size<=aA/\cS xs its.toList
def absV:ae->Option V
  | .none=>some .non
  | .bool b=>some (.bl b)
  | .int i _=>some (.int i)
  | .str x _=>some (.str x)
  | .bytes b _=>some (.byt b)
  | .float b _=>some (.flt b)
  | .ref a=>some (.ref a)
  | .type n=>some (.ty n)
  | _=>none
theorem RelV.abs {x:V} {u:ae} (r:RelV x u):absV u=some x:=by
  cases x with
  | non=>cases r; rfl
  | bl _=>cases r; rfl
  | int _=>obtain ⟨t,rfl⟩:=r; rfl
  | str _=>obtain ⟨t,rfl⟩:=r; rfl
  | byt _=>obtain ⟨t,rfl⟩:=r; rfl
  | flt _=>obtain ⟨t,rfl⟩:=r; rfl
  | ref _=>cases r; rfl
  | ty _=>cases r; rfl
theorem RelV.inj {x y:V} {u:ae} (r:RelV x u) (q:RelV y u):x=y:=cW (r.abs.symm.trans q.abs)
theorem cS.inj:∀ {xs ys:List V} {us:List ae},cS xs us->cS ys us->xs=ys
  | _,_,_,.nil,.nil=>rfl
  | _,_,_,.cons r t,.cons r' t'=>by rw [r.inj r',cS.inj t t']
section
variable {X:Cx} {pins:List (aa×Obj)} {σ:St} {H:Hp} {s:aj} {a:aa} {xs ys:List V}
theorem SqL.of {K:af} (h:H a=some (.lst xs)):SqL K H a xs:=.inl (.inl h)
theorem SqT.of {K:af} (h:H a=some (.tup xs)):SqT K H a xs:=.inl (.inl h)
theorem Inv.list (I:Inv X pins σ H s) (h:SqL X.K H a xs):∃ its:List ae,cS xs its/\PlainL s.heap a its.toArray/\xs.length<=aA:=by
  rcases h with h | ⟨o,its,n,hk,hc,hd,hs,hz,r⟩
  · obtain ⟨z,its,n,r,e⟩:=h.ok I.hok
    exact ⟨its,r,⟨_,n,e,rfl,rfl,rfl⟩,z⟩
  · refine ⟨its.toList,r,⟨o,n,I.kIn a o hk,hc,hd,by simpa using hs⟩,?_⟩
    have e:=r.length
    simp only [fk] at e
    omega
theorem Inv.tuple (I:Inv X pins σ H s) (h:SqT X.K H a xs):∃ its:List ae,cS xs its/\qL s.heap a its.toArray/\xs.length<=aA:=by
  rcases h with h | ⟨o,its,n,hk,hc,hs,hz,r⟩
  · obtain ⟨z,its,r,p⟩:=h.ok I.hok
    exact ⟨its,r,p,z⟩
  · refine ⟨its.toList,r,⟨o,I.kIn a o hk,hc,n,by simpa using hs⟩,?_⟩
    have e:=r.length
    simp only [fk] at e
    omega
theorem Inv.list_inj (I:Inv X pins σ H s) (h:SqL X.K H a xs) (h':SqL X.K H a ys):xs=ys:=by
  obtain ⟨its,r,⟨o,n,e,_,_,d⟩,_⟩:=I.list h
  obtain ⟨its',r',⟨o',n',e',_,_,d'⟩,_⟩:=I.list h'
  rw [e] at e'; cases e'
  rw [d] at d'
  injection d' with d1 _
  have:its=its':=by simpa using congrArg Ij d1
  subst this
  exact r.inj r'
theorem Inv.tuple_inj (I:Inv X pins σ H s) (h:SqT X.K H a xs) (h':SqT X.K H a ys):xs=ys:=by
  obtain ⟨its,r,⟨o,e,_,n,d⟩,_⟩:=I.tuple h
  obtain ⟨its',r',⟨o',e',_,n',d'⟩,_⟩:=I.tuple h'
  rw [e] at e'; cases e'
  rw [d] at d'
  injection d' with d1 _
  have:its=its':=by simpa using congrArg Ij d1
  subst this
  exact r.inj r'
end
abbrev Cx.wish (X:Cx) (E:ae->aj->Prop):Cx:={X with xe:=E}
abbrev Cx.nox (X:Cx):Cx:=X.wish fun _ _=>False
theorem Cx.Ok.wish {X:Cx} (ok:X.Ok) (E:ae->aj->Prop):(X.wish E).Ok:=
  ⟨ok.mod,ok.kind,ok.glob,ok.blt,ok.above,ok.inj,ok.has,ok.cab,ok.hd,ok.frames,ok.stk,ok.exf,ok.bs,ok.bsz,ok.noex,ok.exfs,ok.funs,ok.frf⟩
theorem Cx.Ok.unwish {X:Cx} {E:ae->aj->Prop} (ok:(X.wish E).Ok):X.Ok:=
  ⟨ok.mod,ok.kind,ok.glob,ok.blt,ok.above,ok.inj,ok.has,ok.cab,ok.hd,ok.frames,ok.stk,ok.exf,ok.bs,ok.bsz,ok.noex,ok.exfs,ok.funs,ok.frf⟩
section
variable {X:Cx} {pins:List (aa×Obj)} {σ:St} {H:Hp} {s:aj} {E:ae->aj->Prop}
theorem Inv.wish (I:Inv X pins σ H s) (E:ae->aj->Prop):Inv (X.wish E) pins σ H s:=⟨I.ok.wish E,I.os,I.bare,I.base,I.loc,I.cell,I.free,I.freeC,I.pin,I.hok,I.len⟩
theorem Inv.unwish (I:Inv (X.wish E) pins σ H s):Inv X pins σ H s:=⟨I.ok.unwish,I.os,I.bare,I.base,I.loc,I.cell,I.free,I.freeC,I.pin,I.hok,I.len⟩
theorem SP.unwish {D:jM} {f:Flow} {s':aj} (h:SP (X.wish E) pins D f s'):SP X pins D f s':=by
  cases f with
  | next=>obtain ⟨σ',H',I,q⟩:=h; exact ⟨σ',H',I.unwish,q⟩
  | brk=>obtain ⟨σ',H',I,q⟩:=h; exact ⟨σ',H',I.unwish,q⟩
  | cont=>obtain ⟨σ',H',I,q⟩:=h; exact ⟨σ',H',I.unwish,q⟩
  | ret u=>obtain ⟨v,σ',H',I,r,q⟩:=h; exact ⟨v,σ',H',I.unwish,r,q⟩
theorem PSs.nox {st:List df} {t:TS} (h:PSs X.nox st t):PSs X st t:=fun pins s σ H D I hw =>
  d9 (h pins s σ H D (I.wish _) hw) (fun _ _ q=>q.unwish) fun _ _ z=>cO z
end
section
variable {X:Cx} {st:df} {rest:List df} {t u:TS} {e:cX} {te:TE} {pos:Pos}
def m8:TS:=fun D σ H=>D.nx σ H
def tSeq (t u:TS):TS:=fun D σ H=>t {D with nx:=u D} σ H
theorem cy:PSs X [] m8:=fun _ _ σ H _ I h=>pM ⟨σ,H,I,h⟩
theorem ak (h1:PS X st t) (h2:PSs X rest u):PSs X (st :: rest) (tSeq t u):=by
  intro pins s σ H D I h
  refine wpAny_execs_cons (thn (h1 pins s σ H {D with nx:=u D} I h) fun f s1 q=>?_)
  cases f with
  | next =>
    obtain ⟨σ',H',I',q⟩:=q
    exact h2 pins s1 σ' H' D I' q
  | ret v=>exact q
  | brk=>exact q
  | cont=>exact q
theorem aF (h1:PS X st t):PSs X [st] t:=by
  intro pins s σ H D I h
  refine wpAny_execs_cons (thn (h1 pins s σ H D I h) fun f s1 q=>?_)
  cases f with
  | next=>exact pM q
  | ret v=>exact q
  | brk=>exact q
  | cont=>exact q
theorem Inv.quiet {pins:List (aa×Obj)} {σ:St} {H:Hp} {s:aj} (I:Inv X pins σ H s):interactive X.env=false:=by simp [interactive,I.ok.kind]
def tDrop (te:TE):TS:=fun D σ H=>te σ H fun _ H1=>D.nx σ H1
theorem dW (he:PE X e te) (hs:rH e none pos.line X.env=pure false:=by rfl):PS X (.Expr e pos) (tDrop te):=by
  intro pins s σ H D I h
  exact wpAny_Expr_any (thn (he pins s σ H _ I h) fun v s1 ⟨x,H1,I1,r1,q1⟩=>⟨σ,H1,I1,q1⟩) I.quiet hs
def tRet (te:TE):TS:=fun D σ H=>te σ H D.rt
theorem bX (he:PE X e te):PS X (.Return (some e) pos) (tRet te):=by
  intro pins s σ H D I h
  exact wpAny_Return_some (thn (he pins s σ H _ I h) fun v s1 ⟨x,H1,I1,r1,q1⟩=>⟨x,σ,H1,I1,r1,q1⟩)
def B9 (c:TT) (t u:TS):TS:=fun D σ H=>c σ H fun b H1=>if b=true then t D σ H1 else u D σ H1
theorem cZ {c:cX} {a b:List df} {tc:TT} (hc:PT X c tc) (ha:PSs X a t) (hb:PSs X b u):PS X (.If c a b pos) (B9 tc t u):=by
  intro pins s σ H D I h
  refine wpAny_If (thn (hc pins s σ H _ I h) fun d s1 ⟨H1,I1,q1⟩=>?_)
  cases d with
  | true=>exact ha pins s1 σ H1 D I1 q1
  | false=>exact hb pins s1 σ H1 D I1 q1
def Ik:TS:=fun _ _ _=>False
theorem uZ {sts:List df}:PSs X sts Ik:=fun _ _ _ _ _ _ h=>h.elim
end
abbrev TG:=V->St->Hp->(St->Hp->Prop)->Prop
abbrev TGs:=List V->St->Hp->(St->Hp->Prop)->Prop
def PG (X:Cx) (target:cX) (t:TG):Prop:=
  ∀ (pins:List (aa×Obj)) (s:aj) (σ:St) (H:Hp) (v:V) (u:ae) (Q:St->Hp->Prop),Inv X pins σ H s->RelV v u->t v σ H Q ->
    aU (aW X.prog X.w) X.A (vT target X.env u) (fun _ s'=>∃ σ' H',Inv X pins σ' H' s'/\Q σ' H') X.xe s
def PGs (X:Cx) (ts:List cX) (t:TGs):Prop:=
  ∀ (pins:List (aa×Obj)) (s:aj) (σ:St) (H:Hp) (vs:List V) (us:List ae) (Q:St->Hp->Prop),Inv X pins σ H s->cS vs us->t vs σ H Q ->
    aU (aW X.prog X.w) X.A (assignInOrder ((gO ts X.env).map (·.2)) us) (fun _ s'=>∃ σ' H',Inv X pins σ' H' s'/\Q σ' H') X.xe s
abbrev Il:=V->V->V->Hp->(Hp->Prop)->Prop
def PSet (X:Cx) (t:Il):Prop:=
  ∀ (pins:List (aa×Obj)) (s:aj) (σ:St) (H:Hp) (o i v:V) (ov iv u:ae) (Q:Hp->Prop),Inv X pins σ H s->RelV o ov->RelV i iv->RelV v u->t o i v H Q ->
    aU (aW X.prog X.w) X.A (setItem ov iv u) (fun _ s'=>∃ H',Inv X pins σ H' s'/\Q H') X.xe s
section
variable {X:Cx} {pos:Pos}
def u9 (i:Nat):TG:=fun v σ H Q=>Q (σ.set i (some v)) H
theorem dy {i:Nat} {x:Str} (hN:X.N.Nodup) (hi:X.N[i]?=some x) (hx:Loc X.env.scope x) (hf:X.fn x=true\/X.env.scope.names.lookup x=some .local:=by first | exact .inl rfl | exact .inr rfl | assumption):PG X (.Name x pos) (u9 i):=by
  intro pins s σ H v u Q I r h
  exact Km (pV I hN hi hx r (fun s' I'=>⟨_,H,I',h⟩) hf)
def gNil:TGs:=fun vs σ H Q=>vs=[]/\Q σ H
def gCons (t:TG) (u:TGs):TGs:=fun vs σ H Q=>∃ v r,vs=v :: r/\t v σ H fun σ' H'=>u r σ' H' Q
theorem p0:PGs X [] gNil:=by
  intro pins s σ H vs us Q I r h
  obtain ⟨e,h⟩:=h
  subst e
  cases r
  exact assignInOrder_nil ⟨σ,H,I,h⟩
theorem gA {e:cX} {es:List cX} {t:TG} {u:TGs} (h1:PG X e t) (h2:PGs X es u)
    (hs:(gO (e :: es) X.env).map (·.2)=vT e X.env :: (gO es X.env).map (·.2):=by rfl):PGs X (e :: es) (gCons t u):=by
  intro pins s σ H vs us Q I r h
  obtain ⟨v,vr,e1,h⟩:=h
  subst e1
  cases r with
  | cons r rr =>
    rw [hs]
    refine assignInOrder_cons (thn (h1 pins s σ H _ _ _ I r h) fun _ s1 ⟨σ1,H1,I1,q1⟩=>?_)
    exact h2 pins s1 σ1 H1 _ _ Q I1 rr q1
def gTup (K:af) (n:Nat) (t:TGs):TG:=fun v σ H Q=>∃ a xs,v=.ref a/\SqT K H a xs/\xs.length=n/\t xs σ H Q
theorem Ca {es:List cX} {k:Nat} {t:TGs} {n:Nat} (hc:X.calm=true) (h:PGs X es t)
    (hn:(gO es X.env).length=n:=by rfl) (hst:(gO es X.env).findIdx? (·.1)=none:=by rfl):PG X (.Tuple es k pos) (gTup X.K n t):=by
  intro pins s σ H v u Q I r hw
  obtain ⟨a,xs,e1,hq,hl,hw⟩:=hw
  subst e1
  cases r
  obtain ⟨its,rv,ht,hz⟩:=I.tuple hq
  refine assign_Tuple_tuple (I.ok.hd hc) ht (by simp [hn,<- hl,rv.length]) hst fun h' hx=>?_
  have I1:Inv X pins σ H {s with heap:=h'}:=I.kept (t':=s.toks) fun b o e=>hx b o (aL (aK e)) e
  exact h pins _ σ H xs _ Q I1 (by simpa using rv) hw
def gSub (to ti:TE) (t:Il):TG:=fun v σ H Q=>to σ H fun o H1=>ti σ H1 fun i H2=>t o i v H2 fun H3=>Q σ H3
theorem yJ {o i:cX} {to ti:TE} {t:Il} (ho:PE X o to) (hi:PE X i ti) (hs:PSet X t)
    (ha:∀ v,vT (.Subscript o i pos) X.env v=(do
      let ov <- o9 [v] (eW o X.env)
      let iv <- o9 [v,ov] (eW i X.env)
      uH pos
      o9 [v,ov,iv] (setItem ov iv v)
      release [v,ov,iv] []):=by intro _; rfl):PG X (.Subscript o i pos) (gSub to ti t):=by
  intro pins s σ H v u Q I r h
  rw [ha]
  refine ai (c7 (thn (ho pins s σ H _ I h) fun ov s1 ⟨x,H1,I1,r1,q1⟩=>?_))
  refine ai (c7 (thn (hi pins s1 σ H1 _ I1 q1) fun iv s2 ⟨y,H2,I2,r2,q2⟩=>?_))
  refine ai (sJ (ai (c7 (thn (hs pins s2 σ H2 x y v ov iv u _ I2 r1 r2 r q2) fun _ s3 ⟨H3,I3,q3⟩=>?_))))
  exact wpAny_release ⟨σ,H3,I3,q3⟩
def AX (te:TE) (g:TG):TS:=fun D σ H=>te σ H fun x H1=>g x σ H1 D.nx
theorem tG {tg e:cX} {te:TE} {g:TG} (he:PE X e te) (hg:PG X tg g) (hs:swapsWithSole [tg] e pos.line X.env=pure false:=by rfl) (hw:swappedStores [tg] e X.env=pure none:=by rfl)
    (h1:(gO [tg] X.env).map (·.2)=[vT tg X.env]:=by rfl):PS X (.Assign [tg] e pos) (AX te g):=by
  intro pins s σ H D I h
  refine wpAny_Assign_stores (thn (he pins s σ H _ I h) fun v s1 ⟨x,H1,I1,r1,q1⟩=>?_) hs hw
  rw [h1]
  exact thn (hg pins s1 σ H1 x v _ I1 r1 q1) fun _ s2 q=>q
theorem bz {i:Nat} {x:Str} {e:cX} {te:TE} {pos':Pos} (hN:X.N.Nodup) (hi:X.N[i]?=some x) (hx:Loc X.env.scope x) (he:PE X e te) (hs:rH e (some (.Name x pos')) pos.line X.env=pure false:=by rfl) (hf:X.fn x=true\/X.env.scope.names.lookup x=some .local:=by first | exact .inl rfl | exact .inr rfl | assumption) :
    PS X (.Assign [.Name x pos'] e pos) (AX te (u9 i)):=by
  intro pins s σ H D I h
  refine wpAny_Assign_Name (thn (he pins s σ H _ I h) fun v s1 ⟨y,H1,I1,r1,q1⟩=>?_) hs
  exact pV I1 hN hi hx r1 (fun s2 I2=>⟨_,H1,I2,q1⟩) hf
end
section
variable {X:Cx} {pos:Pos}
def Cb (c:TT) (tb:TS):TS:=fun D σ H=>∃ W:Nat->St->Hp->Prop,(∃ m,W m σ H)/\∀ m σ H,W m σ H ->
  c σ H fun b H1=>if b=true then ∃ N:St->Hp->Prop,(∀ σ' H',N σ' H'->∃ m',m' < m/\W m' σ' H')/\tb {D with nx:=N,ct:=N,bk:=D.nx} σ H1 else D.nx σ H1
theorem xC {c:cX} {body:List df} {tc:TT} {tb:TS} (hp:PassesOwn (aW X.prog X.w) X.A X.env X.xe) (hc:PT X c tc) (hb:PSs X body tb):PS X (.While c body [] pos) (Cb tc tb):=by
  intro pins s σ H D I h
  obtain ⟨W,⟨m0,w0⟩,turn⟩:=h
  refine wpAny_While (codeAny_whileLoop (fun n s'=>∃ σ' H',Inv X pins σ' H' s'/\W n σ' H') ?_ m0 ⟨σ,H,I,w0⟩)
  rintro n s1 ⟨σ1,H1,I1,w1⟩
  refine gU hp (thn (hc pins s1 σ1 H1 _ I1 (turn n σ1 H1 w1)) fun b s2 ⟨H2,I2,q2⟩=>?_)
  cases b with
  | true =>
    obtain ⟨N,hN,q2⟩:=q2
    rw [if_pos rfl]
    refine gU hp (thn (hb pins s2 σ1 H2 _ I2 q2) fun f s3 q3=>?_)
    cases f with
    | next =>
      obtain ⟨σ3,H3,I3,n3⟩:=q3
      obtain ⟨m',hm,w3⟩:=hN σ3 H3 n3
      exact ⟨m',hm,σ3,H3,I3,w3⟩
    | cont =>
      obtain ⟨σ3,H3,I3,n3⟩:=q3
      obtain ⟨m',hm,w3⟩:=hN σ3 H3 n3
      exact ⟨m',hm,σ3,H3,I3,w3⟩
    | brk=>exact q3
    | ret v=>exact q3
  | false =>
    rw [if_neg bO]
    exact pM ⟨σ1,H2,I2,q2⟩
end
structure It where
  go:Nat->Hp->Prop
  yld:Nat->Hp->V->Hp->Prop
  stop:Nat->Hp->Prop
def vU (X:Cx) (pins:List (aa×Obj)) (H:Hp) (b:aa):Prop:=
  H b=none/\b≠X.env.locals/\b∉X.fs/\(b∈X.ex\/X.s₀.heap.objs.size<=b)/\(∀ x c,X.env.cells.lookup x=some c->c≠b)/\∀ p∈X.pn++pins,p.1≠b
theorem Inv.fpOk {X:Cx} {pins:List (aa×Obj)} {σ:St} {H H':Hp} {s:aj} {b:aa} (I:Inv X pins σ H s) (hb:s.heap.objs.size<=b) (hn:H' b=none):vU X pins H' b:=by
  refine ⟨hn,m9 (aY I.lt hb),I.nofs hb,.inr (c8 I.sz hb),fun x c e z=>?_,fun p hp z=>?_⟩
  · obtain ⟨v,q⟩:=I.cell x c e
    exact absurd (aY q.lt (by rw [z]; exact hb)) (gy _)
  · exact absurd (aY (aK (I.pin p hp).1) (by rw [z]; exact hb)) (gy _)
structure AY (P:aM) (w:bH) (K:af) (tg:cX) (J:It) (fp:List aa) (it:aa) (tn:Nat->cB->Prop):Prop where
  mem:it∈fp
  obj:∀ i h,tn i h->∀ b∈fp,∃ o,h.get? b=some o/\∀ v,o.data≠.cell v
  keep:∀ i h h',tn i h->(∀ b∈fp,∀ o,h.get? b=some o->h'.get? b=some o)->tn i h'
  item:∀ (X:Cx),X.prog=P->X.w=w->X.K=K->X.calm=true->∀ (i:Nat) (pins:List (aa×Obj)) (s:aj) (σ:St) (H:Hp) (E:ae->aj->Prop),Inv X pins σ H s->(∀ b∈fp,vU X pins H b)->tn i s.heap->J.go i H ->
    aU (aW P w) X.A (pyNext (.ref it)) (fun r s1=>∃ u,r=some u /\
      aU (aW P w) X.A (pO tg (.ref it) u) (fun _ s2=>∃ x H',Inv X pins σ H' s2/\RelV x u/\J.yld i H x H'/\tn (i + 1) s2.heap/\∀ b∈fp,H' b=none) E s1) E s
  done:∀ (X:Cx),X.prog=P->X.w=w->X.K=K->X.calm=true->∀ (i:Nat) (pins:List (aa×Obj)) (s:aj) (σ:St) (H:Hp) (E:ae->aj->Prop),Inv X pins σ H s->(∀ b∈fp,vU X pins H b)->tn i s.heap->J.stop i H ->
    aU (aW P w) X.A (pyNext (.ref it)) (fun r s1=>r=none/\Inv X pins σ H s1) E s
  self:∀ (A:bP) (i:Nat) (s:aj) (Q:ae->aj->Prop) (E:ae->aj->Prop),tn i s.heap->Q (.ref it) s->aU (aW P w) A (pyIter (.ref it)) Q E s
abbrev TI:=St->Hp->(It->Hp->Prop)->Prop
def PIE (X:Cx) (pins:List (aa×Obj)) (σ:St) (tg:cX) (R:It->Hp->Prop) (itv:ae) (s2:aj):Prop:=
  ∃ (it:aa) (fp:List aa) (tn:Nat->cB->Prop) (J:It) (H':Hp),itv=.ref it/\Inv X pins σ H' s2/\AY X.prog X.w X.K tg J fp it tn/\tn 0 s2.heap/\(∀ b∈fp,vU X pins H' b)/\R J H'
def PI (X:Cx) (tg iter:cX) (wi:TI):Prop:=
  ∀ (pins:List (aa×Obj)) (s:aj) (σ:St) (H:Hp) (R:It->Hp->Prop),Inv X pins σ H s->wi σ H R ->
    aU (aW X.prog X.w) X.A (eW iter X.env) (fun v s1=>aU (aW X.prog X.w) X.A (pyIter v) (PIE X pins σ tg R) X.xe s1) X.xe s
theorem Cc {M:E1} {A:bP} {E:ae->aj->Prop} {s:aj} {tg:cX} {it:aa} {u:ae} {o:Obj} {n:String} {vs:Array ae} {Q:Unit->aj->Prop} (ho:s.heap.get? it=some o) (hc:o.cls=.type n) (hd:o.data=.fields vs)
    (hn:["enumerate","zip","dict_itemiterator","dict_reverseitemiterator","odict_iterator","itertools.zip_longest","itertools.pairwise"].contains n=false) (hQ:Q () s):aU M A (pO tg (.ref it) u) Q E s:=by
  unfold pO
  cases tg <;> first
    | exact aN hQ
    | (cases u <;> first
        | exact aN hQ
        | (refine ai (wpAny_load ho ?_)
           rw [hc,hd]
           show aU M A (if (["enumerate","zip","dict_itemiterator","dict_reverseitemiterator","odict_iterator","itertools.zip_longest","itertools.pairwise"].contains n && vs[0]? == some (qO _))=true then _ else _) Q E s
           rw [if_neg (by intro h; rw [hn,oZ] at h; cases h)]
           exact aN hQ))
def Itl (K:af) (a:aa):It:=
  ⟨fun i H=>∃ xs x,SqL K H a xs/\xs[i]?=some x,fun i H x H'=>H'=H/\∀ xs,SqL K H a xs->xs[i]?=some x,fun i H=>∃ xs,SqL K H a xs/\xs.length<=i⟩
def Itt (K:af) (a:aa):It:=
  ⟨fun i H=>∃ xs x,SqT K H a xs/\xs[i]?=some x,fun i H x H'=>H'=H/\∀ xs,SqT K H a xs->xs[i]?=some x,fun i H=>∃ xs,SqT K H a xs/\xs.length<=i⟩
def Itr (lo:Int) (n:Nat):It:=⟨fun i _=>i < n,fun i H x H'=>H'=H/\x=.int (lo + i),fun i _=>n<=i⟩
theorem AZ {P:aM} {w:bH} {K:af} {tg:cX} (a it:aa):AY P w K tg (Itl K a) [it] it (fun i h=>h.IsListIter it a i) where
  mem:=by simp
  obj:=fun i h st b hb=>by
    have e:b=it:=by simpa using hb
    subst e
    obtain ⟨o,e,c,d⟩:=st
    exact ⟨o,e,fun v z=>by rw [d] at z; cases z⟩
  keep:=fun i h h' st k=>st.at fun o e=>k it (by simp) o e
  item:=by
    intro X hP hw hK hc i pins s σ H E I hf st hg
    subst hP hw hK
    obtain ⟨xs,x,hq,hx⟩:=hg
    obtain ⟨its,rv,p,hz⟩:=I.list hq
    obtain ⟨u,hu,ru⟩:=rv.get hx
    obtain ⟨f0,f1,f2,f3,f4,f5⟩:=hf it (by simp)
    refine pe st p.isList (x:=u) (by simpa using hu) fun h' st' sb=>?_
    have I1:Inv X pins σ H {s with heap:=h'}:=I.turned (t':=s.toks) (fun b o hb e=>(sb.2 b hb).trans e) f0 f1 f3 f4 f5
    obtain ⟨o,e,c,d⟩:=id st'
    exact ⟨u,rfl,Cc (s:={s with heap:=h'}) e c d (by decide) ⟨x,H,I1,ru,⟨rfl,fun ys hy=>by rw [I.list_inj hy hq]; exact hx⟩,st',fun b hb=>(hf b hb).1⟩⟩
  done:=by
    intro X hP hw hK hc i pins s σ H E I hf st hg
    subst hP hw hK
    obtain ⟨xs,hq,hx⟩:=hg
    obtain ⟨its,rv,p,hz⟩:=I.list hq
    obtain ⟨f0,f1,f2,f3,f4,f5⟩:=hf it (by simp)
    have hl:=rv.length
    exact p7 (I.ok.hd hc) st p.isList (by simp; omega) fun h' eb=>⟨rfl,I.turned (t':=s.toks) (fun b o hb e=>eb b o hb e) f0 f1 f3 f4 f5⟩
  self:=fun _ _ _ _ _ st h=>wpAny_pyIter_listiter st h
theorem yK {P:aM} {w:bH} {K:af} {tg:cX} (a it:aa):AY P w K tg (Itt K a) [it] it (fun i h=>h.IsTupleIter it a i) where
  mem:=by simp
  obj:=fun i h st b hb=>by
    have e:b=it:=by simpa using hb
    subst e
    obtain ⟨o,e,c,d⟩:=st
    exact ⟨o,e,fun v z=>by rw [d] at z; cases z⟩
  keep:=fun i h h' st k=>st.at fun o e=>k it (by simp) o e
  item:=by
    intro X hP hw hK hc i pins s σ H E I hf st hg
    subst hP hw hK
    obtain ⟨xs,x,hq,hx⟩:=hg
    obtain ⟨its,rv,p,hz⟩:=I.tuple hq
    obtain ⟨u,hu,ru⟩:=rv.get hx
    obtain ⟨f0,f1,f2,f3,f4,f5⟩:=hf it (by simp)
    refine wpAny_pyNext_tuple_item st (show s.heap.IsTuple a its.toArray from p) (x:=u) (by simpa using hu) fun h' st' sb=>?_
    have I1:Inv X pins σ H {s with heap:=h'}:=I.turned (t':=s.toks) (fun b o hb e=>(sb.2 b hb).trans e) f0 f1 f3 f4 f5
    obtain ⟨o,e,c,d⟩:=id st'
    exact ⟨u,rfl,Cc (s:={s with heap:=h'}) e c d (by decide) ⟨x,H,I1,ru,⟨rfl,fun ys hy=>by rw [I.tuple_inj hy hq]; exact hx⟩,st',fun b hb=>(hf b hb).1⟩⟩
  done:=by
    intro X hP hw hK hc i pins s σ H E I hf st hg
    subst hP hw hK
    obtain ⟨xs,hq,hx⟩:=hg
    obtain ⟨its,rv,p,hz⟩:=I.tuple hq
    obtain ⟨f0,f1,f2,f3,f4,f5⟩:=hf it (by simp)
    have hl:=rv.length
    exact wpAny_pyNext_tuple_end (I.ok.hd hc) st (show s.heap.IsTuple a its.toArray from p) (by simp; omega) fun h' eb=>⟨rfl,I.turned (t':=s.toks) (fun b o hb e=>eb b o hb e) f0 f1 f3 f4 f5⟩
  self:=fun _ _ _ _ _ st h=>wpAny_pyIter_tupleiter st h
theorem yL {P:aM} {w:bH} {K:af} {tg:cX} (it:aa) (lo:Int) (n:Nat):AY P w K tg (Itr lo n) [it] it (fun i h=>IsRangeIter h it (lo + (i:Nat) * 1) ((n:Int) - (i:Nat)) 1) where
  mem:=by simp
  obj:=fun i h st b hb=>by
    have e:b=it:=by simpa using hb
    subst e
    exact ⟨_,st,fun v z=>by
      have z':Data.fields _=Data.cell v:=z
      cases z'⟩
  keep:=fun i h h' st k=>k it (by simp) _ st
  item:=by
    intro X hP hw hK hc i pins s σ H E I hf st hg
    subst hP hw hK
    obtain ⟨f0,f1,f2,f3,f4,f5⟩:=hf it (by simp)
    have W:=Walks.range (prog:=X.prog) (w:=X.w) (I.ok.hd hc) it lo 1 n
    refine W.item i s _ _ hg st fun v h' tk hv st' kk=>?_
    obtain ⟨t,rfl⟩:=hv
    have I1:Inv X pins σ H {s with heap:=h',toks:=tk}:=I.turned (fun b o hb e=>kk b o (by simpa using hb) e) f0 f1 f3 f4 f5
    refine ⟨_,rfl,Cc (s:={s with heap:=h',toks:=tk}) (n:="range_iterator") st' rfl rfl (by decide) ⟨.int (lo + i),H,I1,⟨t,?_⟩,⟨rfl,rfl⟩,st',fun b hb=>(hf b hb).1⟩⟩
    rw [Int.mul_one]
  done:=by
    intro X hP hw hK hc i pins s σ H E I hf st hg
    subst hP hw hK
    obtain ⟨f0,f1,f2,f3,f4,f5⟩:=hf it (by simp)
    exact wpAny_pyNext_range_end (I.ok.hd hc) st (by have:n<=i:=hg; omega) fun h' eb=>⟨rfl,I.turned (t':=s.toks) (fun b o hb e=>eb b o hb e) f0 f1 f3 f4 f5⟩
  self:=fun _ _ _ _ _ st h=>wpAny_pyIter_rangeiter st h
end L2
namespace L2
open PySem PySem.Spec PyProof.Rows
section
variable {X:Cx} {tg:cX}
def Cd (K:af) (tl:TE):TI:=fun σ H R=>tl σ H fun x H1=>∃ a,x=.ref a/\(∃ xs,SqL K H1 a xs)/\R (Itl K a) H1
def iTup (K:af) (tl:TE):TI:=fun σ H R=>tl σ H fun x H1=>∃ a,x=.ref a/\(∃ xs,SqT K H1 a xs)/\R (Itt K a) H1
theorem gW {l:cX} {tl:TE} (hl:PE X l tl):PI X tg l (Cd X.K tl):=by
  intro pins s σ H R I h
  refine thn (hl pins s σ H _ I h) fun v s1 ⟨x,H1,I1,r1,q1⟩=>?_
  obtain ⟨a,e,⟨xs,hq⟩,q⟩:=q1
  subst e
  cases r1
  obtain ⟨its,rv,p,hz⟩:=I1.list hq
  refine uI p.isList ?_
  refine ⟨s1.heap.objs.size,[s1.heap.objs.size],_,_,H1,rfl,I1.kept (t':=s1.toks) fun b o e=>aI _ e,AZ a _,⟨_,cv _ rfl,rfl,rfl⟩,fun b hb=>?_,q⟩
  have e:b=s1.heap.objs.size:=by simpa using hb
  subst e
  exact I1.fpOk (aC _) (I1.hok.fresh (aC _))
theorem Im {l:cX} {tl:TE} (hl:PE X l tl):PI X tg l (iTup X.K tl):=by
  intro pins s σ H R I h
  refine thn (hl pins s σ H _ I h) fun v s1 ⟨x,H1,I1,r1,q1⟩=>?_
  obtain ⟨a,e,⟨xs,hq⟩,q⟩:=q1
  subst e
  cases r1
  obtain ⟨its,rv,p,hz⟩:=I1.tuple hq
  refine wpAny_pyIter_tuple (show s1.heap.IsTuple a its.toArray from p) ?_
  refine ⟨s1.heap.objs.size,[s1.heap.objs.size],_,_,H1,rfl,I1.kept (t':=s1.toks) fun b o e=>aI _ e,yK a _,⟨_,cv _ rfl,rfl,rfl⟩,fun b hb=>?_,q⟩
  have e:b=s1.heap.objs.size:=by simpa using hb
  subst e
  exact I1.fpOk (aC _) (I1.hok.fresh (aC _))
theorem Ce {pins:List (aa×Obj)} {σ:St} {H:Hp} {s:aj} {R:It->Hp->Prop} {E:ae->aj->Prop} {lo hi:Int} {t u v:Tok} {tk:Nat} (I:Inv X pins σ H s) (h1:-(2 ^ 62)<=lo) (h2:lo < 2 ^ 62) (h3:-(2 ^ 62)<=hi) (h4:hi < 2 ^ 62)
    (q:R (Itr lo (hi - lo).toNat) H):aU (aW X.prog X.w) X.A (pyIter (.ref s.heap.objs.size)) (PIE X pins σ tg R) E {s with heap:=s.heap.push {cls:=.type "range",data:=.fields #[.int lo t,.int hi u,.int 1 v]},toks:=tk}:=by
  refine wpAny_pyIter_range (IsRange.new ..) (small_one h1 h2 h3 h4) ?_
  have I1:Inv X pins σ H {s with heap:=s.heap.push {cls:=.type "range",data:=.fields #[.int lo t,.int hi u,.int 1 v]},toks:=tk}:=I.kept fun b o e=>aI _ e
  refine ⟨(s.heap.push {cls:=.type "range",data:=.fields #[.int lo t,.int hi u,.int 1 v]}).objs.size,[(s.heap.push {cls:=.type "range",data:=.fields #[.int lo t,.int hi u,.int 1 v]}).objs.size],_,_,H,rfl,
    I1.kept (t':=tk) fun b o e=>aI _ e,yL _ lo (hi - lo).toNat,?_,fun b hb=>?_,q⟩
  · have e1:lo + ((0:Nat):Int) * 1=lo:=by simp
    have e2:(((hi - lo).toNat:Nat):Int) - ((0:Nat):Int)=Builtin.Range.rangeSize lo hi 1:=by rw [rangeSize_one]; split <;> omega
    show IsRangeIter _ _ (lo + ((0:Nat):Int) * 1) ((((hi - lo).toNat:Nat):Int) - ((0:Nat):Int)) 1
    rw [e1,e2]
    exact cv _ rfl
  · have e:b=(s.heap.push {cls:=.type "range",data:=.fields #[.int lo t,.int hi u,.int 1 v]}).objs.size:=by simpa using hb
    subst e
    exact I1.fpOk (aC _) (I1.hok.fresh (aC _))
def Cf (ta:TA):TI:=fun σ H R=>ta σ H fun vs H1=>∃ j:Int,vs=[.int j]/\-(2 ^ 62)<=j/\j < 2 ^ 62/\R (Itr 0 j.toNat) H1
theorem iB {a:cX} {ta:TA} {p pos:Pos} (hg:Gl X "range") (hm:X.mg "range"=none) (ha:PA X [a] ta) (hs:cH [a] X.env=[(false,eW a X.env)]:=by rfl):PI X tg (.Call (.Name "range" p) [a] [] pos) (Cf ta):=by
  intro pins s σ H R I h
  refine Call_ (qM I hg hm boot_range (jg (thn (ha pos pins s σ H _ I h) fun us s1 ⟨vs,H1,I1,r1,q1⟩=>?_) hs rfl))
  obtain ⟨j,e,q1,q2,q⟩:=q1
  subst e
  cases r1 with
  | cons r rr =>
    cases rr
    obtain ⟨t,rfl⟩:=r
    exact call_range_1 (Ce I1 (by omega) (by omega) q1 q2 (by simpa using q))
def tFor (wi:TI) (g:TG) (tb:TS):TS:=fun D σ H=>wi σ H fun J H1=>∃ W:Nat->Nat->St->Hp->Prop,(∃ m,W 0 m σ H1)/\∀ i m σ H,W i m σ H ->
  (J.stop i H/\D.nx σ H)\/(J.go i H/\∃ N:St->Hp->Prop,(∀ σ' H',N σ' H'->∃ m',m' < m/\W (i + 1) m' σ' H')/\∀ x H',J.yld i H x H'->g x σ H' fun σ2 H2=>tb {D with nx:=N,ct:=N,bk:=D.nx} σ2 H2)
def qP (fp:List aa) (h:cB):List (aa×Obj):=fp.filterMap fun b=>(h.get? b).map fun o=>(b,o)
theorem lP {fp:List aa} {h:cB} {b:aa} {o:Obj} (hb:b∈fp) (e:h.get? b=some o):(b,o)∈qP fp h:=qH.mpr ⟨b,hb,by rw [e]; rfl⟩
theorem A0 {fp:List aa} {h:cB} {p:aa×Obj} (hp:p∈qP fp h):p.1∈fp/\h.get? p.1=some p.2:=by
  obtain ⟨b,hb,e⟩:=qH.mp hp
  cases q:h.get? b with
  | none=>rw [q] at e; cases e
  | some o =>
    rw [q] at e
    have e':(b,o)=p:=cW e
    subst e'
    exact ⟨hb,q⟩
theorem Inv.pinned {pins:List (aa×Obj)} {σ:St} {H:Hp} {s:aj} {fp:List aa} (I:Inv X pins σ H s) (hf:∀ b∈fp,vU X pins H b) (ho:∀ b∈fp,∃ o,s.heap.get? b=some o/\∀ v,o.data≠.cell v):Inv X (pins++qP fp s.heap) σ H s:=
  I.pins_of fun p hp=>(cq.mp hp).elim (fun z=>I.pin p (bF _ z)) fun z=>by
    obtain ⟨hb,e⟩:=A0 z
    obtain ⟨f0,f1,f2,_⟩:=hf p.1 hb
    obtain ⟨o,e',d⟩:=ho p.1 hb
    rw [e] at e'; cases e'
    exact ⟨e,f0,f1,f2,d⟩
theorem Inv.unpinned {pins pl:List (aa×Obj)} {σ:St} {H:Hp} {s:aj} (I:Inv X (pins++pl) σ H s):Inv X pins σ H s:=I.pins_of fun p hp=>I.pin p (bF _ (gu _ hp))
theorem iy {iter:cX} {body:List df} {wi:TI} {g:TG} {tb:TS} {pos:Pos} (hp:PassesOwn (aW X.prog X.w) X.A X.env X.xe) (hc:X.calm=true) (hi:PI X tg iter wi) (hg:PG X tg g) (hb:PSs X body tb)
    (hs:∀ x,mY iter X.env x=pure x:=by intro _; rfl):PS X (.For tg iter body [] pos) (tFor wi g tb):=by
  intro pins s σ H D I h
  refine wpAny_For (thn (hi pins s σ H _ I h) fun v s1 h1=>thn h1 fun itv s2 h2=>?_) hs
  obtain ⟨it,fp,tn,J,H2,e,I2,T,st2,f2,W,⟨m0,w0⟩,turn⟩:=h2
  subst e
  -- what stays true of the iterator's objects through the loop
  have stat:∀ {H':Hp},(∀ b∈fp,H' b=none)->∀ b∈fp,vU X pins H' b:=fun hn b hb=>⟨hn b hb,(f2 b hb).2⟩
  refine codeAny_forLoop_any (fun n s'=>∃ i σ' H',Inv X pins σ' H' s'/\tn i s'.heap/\(∀ b∈fp,H' b=none)/\W i n σ' H') ?_ m0 ⟨0,σ,H2,I2,st2,fun b hb=>(f2 b hb).1,w0⟩
  rintro n s3 ⟨i,σ3,H3,I3,st3,fr3,w3⟩
  rcases turn i n σ3 H3 w3 with ⟨stop,qn⟩ | ⟨go,N,hN,step⟩
  · refine gU hp (thn (T.done X rfl rfl rfl hc i pins s3 σ3 H3 X.xe I3 (stat fr3) st3 stop) fun r s4 ⟨hr,I4⟩=>?_)
    subst hr
    exact pM ⟨σ3,H3,I4,qn⟩
  · refine gU hp (thn (T.item X rfl rfl rfl hc i pins s3 σ3 H3 X.xe I3 (stat fr3) st3 go) fun r s4 ⟨u,hr,h4⟩=>?_)
    subst hr
    refine gU hp (thn h4 fun _ s5 ⟨x,H5,I5,r5,y5,st5,fr5⟩=>?_)
    have I5':=I5.pinned (stat fr5) (T.obj _ _ st5)
    refine gU hp (thn (hg _ s5 σ3 H5 x u _ I5' r5 (step x H5 y5)) fun _ s6 ⟨σ6,H6,I6,q6⟩=>?_)
    refine gU hp (thn (hb _ s6 σ6 H6 _ I6 q6) fun f s7 q7=>?_)
    have again:∀ {σ7:St} {H7:Hp},Inv X (pins++qP fp s5.heap) σ7 H7 s7->N σ7 H7->∃ m,m < n/\∃ i σ' H',Inv X pins σ' H' s7/\tn i s7.heap/\(∀ b∈fp,H' b=none)/\W i m σ' H':=fun {σ7 H7} I7 n7=>by
      obtain ⟨m',hm,w7⟩:=hN σ7 H7 n7
      refine ⟨m',hm,i + 1,σ7,H7,I7.unpinned,T.keep _ _ _ st5 fun b hb o e=>(I7.pin (b,o) (bF _ (bF _ (lP hb e)))).1,fun b hb=>?_,w7⟩
      obtain ⟨o,e,d⟩:=T.obj _ _ st5 b hb
      exact (I7.pin (b,o) (bF _ (bF _ (lP hb e)))).2.1
    cases f with
    | next=>obtain ⟨σ7,H7,I7,n7⟩:=q7; exact again I7 n7
    | cont=>obtain ⟨σ7,H7,I7,n7⟩:=q7; exact again I7 n7
    | brk=>obtain ⟨σ7,H7,I7,q7⟩:=q7; exact ⟨σ7,H7,I7.unpinned,q7⟩
    | ret v=>obtain ⟨x7,σ7,H7,I7,r7,q7⟩:=q7; exact ⟨x7,σ7,H7,I7.unpinned,r7,q7⟩
end
theorem iL {K:af} {a:aa} {xs:List V} {g:TG} {tb:TS} {D:jM} {σ:St} {H:Hp} (Pv:Nat->St->Hp->Prop) (h0:Pv 0 σ H) (hl:∀ i σ H,i<=xs.length->Pv i σ H->SqL K H a xs)
    (hs:∀ i x σ H,xs[i]?=some x->Pv i σ H->g x σ H fun σ2 H2=>tb {D with nx:=Pv (i + 1),ct:=Pv (i + 1),bk:=D.nx} σ2 H2) (hd:∀ σ H,Pv xs.length σ H->D.nx σ H) :
    ∃ W:Nat->Nat->St->Hp->Prop,(∃ m,W 0 m σ H)/\∀ i m σ H,W i m σ H ->
      ((Itl K a).stop i H/\D.nx σ H)\/((Itl K a).go i H/\∃ N:St->Hp->Prop,(∀ σ' H',N σ' H'->∃ m',m' < m/\W (i + 1) m' σ' H')/\∀ x H',(Itl K a).yld i H x H'->g x σ H' fun σ2 H2=>tb {D with nx:=N,ct:=N,bk:=D.nx} σ2 H2):=by
  refine ⟨fun i m σ H=>m=xs.length - i/\i<=xs.length/\Pv i σ H,⟨xs.length,by simp,bj _,h0⟩,?_⟩
  rintro i m σ H ⟨rfl,hi,p⟩
  have q:=hl i σ H hi p
  by_cases hlt:i < xs.length
  · refine .inr ⟨⟨xs,xs[i],q,by simp [hlt]⟩,Pv (i + 1),fun σ' H' p'=>⟨xs.length - (i + 1),by omega,rfl,hlt,p'⟩,fun x H' y=>?_⟩
    obtain ⟨e,y⟩:=y
    subst e
    exact hs i x σ _ (y xs q) p
  · have e:i=xs.length:=by omega
    subst e
    exact .inl ⟨⟨xs,q,aC _⟩,hd σ H p⟩
theorem kU {lo:Int} {n:Nat} {g:TG} {tb:TS} {D:jM} {σ:St} {H:Hp} (Pv:Nat->St->Hp->Prop) (h0:Pv 0 σ H)
    (hs:∀ i σ H,i < n->Pv i σ H->g (.int (lo + i)) σ H fun σ2 H2=>tb {D with nx:=Pv (i + 1),ct:=Pv (i + 1),bk:=D.nx} σ2 H2) (hd:∀ σ H,Pv n σ H->D.nx σ H) :
    ∃ W:Nat->Nat->St->Hp->Prop,(∃ m,W 0 m σ H)/\∀ i m σ H,W i m σ H ->
      ((Itr lo n).stop i H/\D.nx σ H)\/((Itr lo n).go i H/\∃ N:St->Hp->Prop,(∀ σ' H',N σ' H'->∃ m',m' < m/\W (i + 1) m' σ' H')/\∀ x H',(Itr lo n).yld i H x H'->g x σ H' fun σ2 H2=>tb {D with nx:=N,ct:=N,bk:=D.nx} σ2 H2):=by
  refine ⟨fun i m σ H=>m=n - i/\i<=n/\Pv i σ H,⟨n,by simp,bj _,h0⟩,?_⟩
  rintro i m σ H ⟨rfl,hi,p⟩
  by_cases hlt:i < n
  · refine .inr ⟨hlt,Pv (i + 1),fun σ' H' p'=>⟨n - (i + 1),by omega,rfl,hlt,p'⟩,fun x H' y=>?_⟩
    obtain ⟨e,y⟩:=y
    subst e y
    exact hs i σ _ hlt p
  · have e:i=n:=by omega
    subst e
    exact .inl ⟨aC _,hd σ H p⟩
theorem xE {c:TT} {tb:TS} {D:jM} {σ:St} {H:Hp} (Pv:St->Hp->Prop) (μ:St->Hp->Nat) (h0:Pv σ H)
    (hs:∀ σ H,Pv σ H->c σ H fun b H1=>if b=true then tb {D with nx:=fun σ' H'=>Pv σ' H'/\μ σ' H' < μ σ H,ct:=fun σ' H'=>Pv σ' H'/\μ σ' H' < μ σ H,bk:=D.nx} σ H1 else D.nx σ H1)
    (mono:∀ σ H Q Q',(∀ b H1,Q b H1->Q' b H1)->c σ H Q->c σ H Q'):Cb c tb D σ H:=by
  refine ⟨fun m σ H=>m=μ σ H/\Pv σ H,⟨_,rfl,h0⟩,?_⟩
  rintro m σ H ⟨rfl,p⟩
  refine mono σ H _ _ (fun b H1 q=>?_) (hs σ H p)
  cases b with
  | true=>exact ⟨_,fun σ' H' ⟨p',l⟩=>⟨_,l,rfl,p'⟩,q⟩
  | false=>exact q
end L2
namespace L2
open PySem PySem.Spec PyProof.Rows
abbrev R2:=V->V->Hp->VK->Prop
def OpR (X:Cx) (f:ae->ae->Sem ae) (r:R2):Prop:=
  ∀ (pins:List (aa×Obj)) (s:aj) (σ:St) (H:Hp) (x y:V) (v u:ae) (Q:VK),Inv X pins σ H s->RelV x v->RelV y u->r x y H Q ->
    aU (aW X.prog X.w) X.A (f v u) (EP X pins σ Q) X.xe s
def UnR (X:Cx) (f:ae->Sem ae) (r:V->Hp->VK->Prop):Prop:=
  ∀ (pins:List (aa×Obj)) (s:aj) (σ:St) (H:Hp) (x:V) (v:ae) (Q:VK),Inv X pins σ H s->RelV x v->r x H Q ->
    aU (aW X.prog X.w) X.A (f v) (EP X pins σ Q) X.xe s
def mC (X:Cx) (f:ae) (r:List V->Hp->VK->Prop):Prop:=
  ∀ (pins:List (aa×Obj)) (s:aj) (σ:St) (H:Hp) (xs:List V) (us:List ae) (Q:VK),Inv X pins σ H s->cS xs us->r xs H Q ->
    aU (aW X.prog X.w) X.A (vV f us) (EP X pins σ Q) X.xe s
def TruR (X:Cx) (r:V->Hp->(Bool->Hp->Prop)->Prop):Prop:=
  ∀ (pins:List (aa×Obj)) (s:aj) (σ:St) (H:Hp) (x:V) (v:ae) (Q:Bool->Hp->Prop),Inv X pins σ H s->RelV x v->r x H Q ->
    aU (aW X.prog X.w) X.A (truthy v) (TP X pins σ Q) X.xe s
def tOp (r:R2) (ta tb:TE):TE:=fun σ H Q=>ta σ H fun x H1=>tb σ H1 fun y H2=>r x y H2 Q
def tUn (r:V->Hp->VK->Prop) (ta:TE):TE:=fun σ H Q=>ta σ H fun x H1=>r x H1 Q
def rI (C:Int->Int->Prop) (g:Int->Int->V):R2:=fun x y H Q=>∃ i j,x=.int i/\y=.int j/\C i j/\Q (g i j) H
def rI0 (g:Int->Int->V):R2:=fun x y H Q=>∃ i j,x=.int i/\y=.int j/\Q (g i j) H
def rU (g:Int->V):V->Hp->VK->Prop:=fun x H Q=>∃ i,x=.int i/\Q (g i) H
section
variable {X:Cx} {a b c:cX} {ta tb tc:TE} {pos:Pos}
theorem Io (ha:PE X a ta) (hb:PE X b tb) {pins:List (aa×Obj)} {s:aj} {σ:St} {H:Hp} {R:V->V->Hp->Prop} (I:Inv X pins σ H s)
    (h:ta σ H fun x H1=>tb σ H1 fun y H2=>R x y H2) {Q:ae->aj->Prop} {f:ae->ae->Sem ae}
    (hf:∀ v u s2 x y H2,Inv X pins σ H2 s2->RelV x v->RelV y u->R x y H2->aU (aW X.prog X.w) X.A (f v u) Q X.xe s2) :
    aU (aW X.prog X.w) X.A (eW a X.env) (fun v s₁=>aU (aW X.prog X.w) X.A (eW b X.env) (fun u s₂=>aU (aW X.prog X.w) X.A (f v u) Q X.xe s₂) X.xe s₁) X.xe s:=by
  refine thn (ha pins s σ H _ I h) fun v s1 ⟨x,H1,I1,r1,q1⟩=>?_
  refine thn (hb pins s1 σ H1 _ I1 q1) fun u s2 ⟨y,H2,I2,r2,q2⟩=>?_
  exact hf v u s2 x y H2 I2 r1 r2 q2
theorem cP {op:E2} {r:R2} (ho:OpR X (gX op) r) (ha:PE X a ta) (hb:PE X b tb):PE X (.BinOp a op b pos) (tOp r ta tb):=by
  intro pins s σ H Q I h
  exact wpAny_BinOp (Io ha hb I h fun v u s2 x y H2 I2 rx ry q=>ho pins s2 σ H2 x y v u Q I2 rx ry q)
theorem tH {op:UnaryOp} {r:V->Hp->VK->Prop} (ho:UnR X (unaryOp op) r) (ha:PE X a ta):PE X (.UnaryOp op a pos) (tUn r ta):=by
  intro pins s σ H Q I h
  exact UnaryOp_ (thn (ha pins s σ H _ I h) fun v s1 ⟨x,H1,I1,r1,q1⟩=>ho pins s1 σ H1 x v Q I1 r1 q1)
theorem opI {f:ae->ae->Sem ae} {C:Int->Int->Prop} {g:Int->Int->Int}
    (E3:∀ (i j:Int) (t u:Tok) (s:aj) (Q:ae->aj->Prop) (E:ae->aj->Prop),C i j->Q (.int (g i j) s.toks) {s with toks:=s.toks + 1}->aU (aW X.prog X.w) X.A (f (.int i t) (.int j u)) Q E s) :
    OpR X f (rI C fun i j=>.int (g i j)):=by
  intro pins s σ H x y v u Q I rx ry h
  obtain ⟨i,j,rfl,rfl,hc,q⟩:=h
  obtain ⟨t,rfl⟩:=rx
  obtain ⟨t',rfl⟩:=ry
  exact E3 i j t t' s _ _ hc ⟨.int (g i j),H,I.tok _,⟨_,rfl⟩,q⟩
theorem opI0 {f:ae->ae->Sem ae} {g:Int->Int->Int}
    (E3:∀ (i j:Int) (t u:Tok) (s:aj) (Q:ae->aj->Prop) (E:ae->aj->Prop),Q (.int (g i j) s.toks) {s with toks:=s.toks + 1}->aU (aW X.prog X.w) X.A (f (.int i t) (.int j u)) Q E s) :
    OpR X f (rI0 fun i j=>.int (g i j)):=by
  intro pins s σ H x y v u Q I rx ry h
  obtain ⟨i,j,rfl,rfl,q⟩:=h
  obtain ⟨t,rfl⟩:=rx
  obtain ⟨t',rfl⟩:=ry
  exact E3 i j t t' s _ _ ⟨.int (g i j),H,I.tok _,⟨_,rfl⟩,q⟩
theorem E4 {f:ae->ae->Sem ae} {g:Int->Int->Bool}
    (E3:∀ (i j:Int) (t u:Tok) (s:aj) (Q:ae->aj->Prop) (E:ae->aj->Prop),Q (.bool (g i j)) s->aU (aW X.prog X.w) X.A (f (.int i t) (.int j u)) Q E s) :
    OpR X f (rI0 fun i j=>.bl (g i j)):=by
  intro pins s σ H x y v u Q I rx ry h
  obtain ⟨i,j,rfl,rfl,q⟩:=h
  obtain ⟨t,rfl⟩:=rx
  obtain ⟨t',rfl⟩:=ry
  exact E3 i j t t' s _ _ ⟨.bl (g i j),H,I,rfl,q⟩
def CDiv (i j:Int):Prop:=0 < j/\j < 1073741824
def Cg (i j:Int):Prop:=0<=j/\j<=1000000/\i.natAbs < 2 ^ 64
def Iq (i j:Int):Prop:=(-(2 ^ 64) < i/\i < 2 ^ 64)\/(-(2 ^ 64) < j/\j < 2 ^ 64)
theorem Iq.ok {i j:Int} (h:Iq i j):IntMulOk i j:=by
  rcases h with ⟨h1,h2⟩ | ⟨h1,h2⟩
  · exact .of_left (intBits_le_64 h1 h2)
  · exact .of_right (intBits_le_64 h1 h2)
theorem fJ:OpR X (gX .Add) (rI0 fun i j=>.int (i + j)):=opI0 fun _ _ _ _ _ _ _ q=>add_int q
theorem pf:OpR X (gX .Sub) (rI0 fun i j=>.int (i - j)):=opI0 fun _ _ _ _ _ _ _ q=>sub_int q
theorem qQ:OpR X (gX .Mult) (rI Iq fun i j=>.int (i * j)):=opI fun _ _ _ _ _ _ _ hc q=>mul_int q hc.ok
theorem vW:OpR X (gX .FloorDiv) (rI CDiv fun i j=>.int (i / j)):=opI fun i j _ _ _ _ _ hc q=>by
  have h1:(0:Int) < j:=hc.1
  have h2:j < 1073741824:=hc.2
  exact Cj (by omega) (by rw [vX i (by omega)]; exact q) (.inl (PyProof.noPylong_small (by omega)))
theorem lQ:OpR X (gX .Mod) (rI (fun _ j=>0 < j) fun i j=>.int (i % j)):=opI fun i j _ _ _ _ _ hc q=>by
  have h1:(0:Int) < j:=hc
  exact mod_int' (by omega) (by rw [Int.fmod_eq_emod_of_nonneg i (by omega)]; exact q)
theorem E5:OpR X (gX .Mod) (rI (fun _ j=>j≠0) fun i j=>.int (i.fmod j)):=opI fun _ _ _ _ _ _ _ hc q=>mod_int' hc q
theorem vY:OpR X (gX .Pow) (rI Cg fun i j=>.int (i ^ j.toNat)):=opI fun _ _ _ _ _ _ _ hc q=>pow_int_small hc.1 hc.2.1 hc.2.2 q
theorem unI {f:ae->Sem ae} {g:Int->Int}
    (E3:∀ (i:Int) (t:Tok) (s:aj) (Q:ae->aj->Prop) (E:ae->aj->Prop),Q (.int (g i) s.toks) {s with toks:=s.toks + 1}->aU (aW X.prog X.w) X.A (f (.int i t)) Q E s) :
    UnR X f (rU fun i=>.int (g i)):=by
  intro pins s σ H x v Q I rx h
  obtain ⟨i,rfl,q⟩:=h
  obtain ⟨t,rfl⟩:=rx
  exact E3 i t s _ _ ⟨.int (g i),H,I.tok _,⟨_,rfl⟩,q⟩
theorem pj:UnR X (unaryOp .USub) (rU fun i=>.int (-i)):=unI fun _ _ _ _ _ q=>neg_int q
end
def scal:V->V->Bool
  | .non,.non=>true | .non,.int _=>true | .int _,.non=>true | .non,.bl _=>true | .bl _,.non=>true | .non,.str _=>true | .str _,.non=>true
  | .int _,.int _=>true | .bl _,.bl _=>true | .str _,.str _=>true | .byt _,.byt _=>true
  | .int _,.str _=>true | .str _,.int _=>true | .bl _,.str _=>true | .str _,.bl _=>true
  | _,_=>false
def rEq:R2:=fun x y H Q=>scal x y=true/\Q (.bl (decide (x=y))) H
def rNe:R2:=fun x y H Q=>scal x y=true/\Q (.bl (!decide (x=y))) H
theorem zT {i j:Int}:decide (V.int i=V.int j)=(i == j):=by
  rw [ng]
  simp
theorem Ck {i j:Bool}:decide (V.bl i=V.bl j)=(i == j):=by
  rw [ng]
  simp
theorem zU {i j:Str}:decide (V.str i=V.str j)=(i == j):=by
  rw [ng]
  simp
theorem zV {i j:Array UInt8}:decide (V.byt i=V.byt j)=(i.toList == j.toList):=by
  rw [ng]
  cases i
  cases j
  simp
section
variable {X:Cx} {a b c:cX} {ta tb tc:TE} {pos:Pos}
theorem eg {pins:List (aa×Obj)} {σ:St} {H:Hp} {s:aj} {Q:VK} {k k':Bool} (I:Inv X pins σ H s) (q:Q (.bl k) H) (e:k=k'):EP X pins σ Q (.bool k') s:=by
  subst e
  exact ⟨.bl k,H,I,rfl,q⟩
theorem ff:OpR X (cU .Eq) rEq:=by
  intro pins s σ H x y v u Q I rx ry h
  obtain ⟨hs,q⟩:=h
  cases x with
  | non =>
    cases rx
    cases y with
    | non=>cases ry; exact PySem.EqNone.eq_none_none (eg I q (by simp))
    | bl j=>cases ry; exact PySem.EqNone.eq_none_bool (eg I q (by simp))
    | int j=>obtain ⟨t',rfl⟩:=ry; exact PySem.EqNone.eq_none_int (eg I q (by simp))
    | str j=>obtain ⟨t',rfl⟩:=ry; exact PySem.EqNone.eq_none_str (eg I q (by simp))
    | _=>exact absurd (show false=true from hs) bO
  | bl i =>
    cases rx
    cases y with
    | non=>cases ry; exact PySem.EqNone.eq_bool_none (eg I q (by simp))
    | bl j=>cases ry; exact eq_bool (eg I q Ck)
    | str j=>obtain ⟨t',rfl⟩:=ry; exact PySem.EqMixed.eq_bool_str (eg I q (by simp))
    | _=>exact absurd (show false=true from hs) bO
  | int i =>
    obtain ⟨t,rfl⟩:=rx
    cases y with
    | non=>cases ry; exact PySem.EqNone.eq_int_none (eg I q (by simp))
    | int j=>obtain ⟨t',rfl⟩:=ry; exact eq_int (eg I q zT)
    | str j=>obtain ⟨t',rfl⟩:=ry; exact PySem.EqMixed.eq_int_str (eg I q (by simp))
    | _=>exact absurd (show false=true from hs) bO
  | str i =>
    obtain ⟨t,rfl⟩:=rx
    cases y with
    | non=>cases ry; exact PySem.EqNone.eq_str_none (eg I q (by simp))
    | bl j=>cases ry; exact PySem.EqMixed.eq_str_bool (eg I q (by simp))
    | int j=>obtain ⟨t',rfl⟩:=ry; exact PySem.EqMixed.eq_str_int (eg I q (by simp))
    | str j=>obtain ⟨t',rfl⟩:=ry; exact eq_str (eg I q zU)
    | _=>exact absurd (show false=true from hs) bO
  | byt i =>
    obtain ⟨t,rfl⟩:=rx
    cases y with
    | byt j=>obtain ⟨t',rfl⟩:=ry; exact PySem.W.eq_bytes (eg I q zV)
    | _=>exact absurd (show false=true from hs) bO
  | _=>cases y <;> exact absurd (show false=true from hs) bO
theorem Ho:OpR X (cU .NotEq) rNe:=by
  intro pins s σ H x y v u Q I rx ry h
  obtain ⟨hs,q⟩:=h
  cases x with
  | non =>
    cases rx
    cases y with
    | non=>cases ry; exact PySem.EqNone.ne_none_none (eg I q (by simp))
    | bl j=>cases ry; exact PySem.EqNone.ne_none_bool (eg I q (by simp))
    | int j=>obtain ⟨t',rfl⟩:=ry; exact PySem.EqNone.ne_none_int (eg I q (by simp))
    | str j=>obtain ⟨t',rfl⟩:=ry; exact PySem.EqNone.ne_none_str (eg I q (by simp))
    | _=>exact absurd (show false=true from hs) bO
  | bl i =>
    cases rx
    cases y with
    | non=>cases ry; exact PySem.EqNone.ne_bool_none (eg I q (by simp))
    | bl j=>cases ry; exact ne_bool (eg I q (congrArg not Ck))
    | str j=>obtain ⟨t',rfl⟩:=ry; exact PySem.EqMixed.ne_bool_str (eg I q (by simp))
    | _=>exact absurd (show false=true from hs) bO
  | int i =>
    obtain ⟨t,rfl⟩:=rx
    cases y with
    | non=>cases ry; exact PySem.EqNone.ne_int_none (eg I q (by simp))
    | int j=>obtain ⟨t',rfl⟩:=ry; exact ne_int (eg I q (congrArg not zT))
    | str j=>obtain ⟨t',rfl⟩:=ry; exact PySem.EqMixed.ne_int_str (eg I q (by simp))
    | _=>exact absurd (show false=true from hs) bO
  | str i =>
    obtain ⟨t,rfl⟩:=rx
    cases y with
    | non=>cases ry; exact PySem.EqNone.ne_str_none (eg I q (by simp))
    | bl j=>cases ry; exact PySem.EqMixed.ne_str_bool (eg I q (by simp))
    | int j=>obtain ⟨t',rfl⟩:=ry; exact PySem.EqMixed.ne_str_int (eg I q (by simp))
    | str j=>obtain ⟨t',rfl⟩:=ry; exact ne_str (eg I q (congrArg not zU))
    | _=>exact absurd (show false=true from hs) bO
  | byt i =>
    obtain ⟨t,rfl⟩:=rx
    cases y with
    | byt j=>obtain ⟨t',rfl⟩:=ry; exact PySem.W.ne_bytes (eg I q (congrArg not zV))
    | _=>exact absurd (show false=true from hs) bO
  | _=>cases y <;> exact absurd (show false=true from hs) bO
theorem tI:OpR X (cU .Lt) (rI0 fun i j=>.bl (decide (i < j))):=E4 fun _ _ _ _ _ _ _ q=>lt_int q
theorem op_le:OpR X (cU .LtE) (rI0 fun i j=>.bl (decide (i<=j))):=E4 fun _ _ _ _ _ _ _ q=>le_int q
theorem tJ:OpR X (cU .Gt) (rI0 fun i j=>.bl (decide (j < i))):=E4 fun _ _ _ _ _ _ _ q=>gt_int q
theorem op_ge:OpR X (cU .GtE) (rI0 fun i j=>.bl (decide (j<=i))):=E4 fun _ _ _ _ _ _ _ q=>ge_int q
theorem OpR.or {f:ae->ae->Sem ae} {r r':R2} (h:OpR X f r) (h':OpR X f r'):OpR X f (fun x y H Q=>r x y H Q\/r' x y H Q):=by
  intro pins s σ H x y v u Q I rx ry q
  rcases q with q | q
  · exact h pins s σ H x y v u Q I rx ry q
  · exact h' pins s σ H x y v u Q I rx ry q
theorem cE (b:cX) {op:Kl} (h:op≠.In:=by decide) (h2:op≠.NotIn:=by decide):iU op b=false:=by
  have e1:(op == CmpOp.In)=false:=by cases op <;> first | rfl | exact absurd rfl h
  have e2:(op == CmpOp.NotIn)=false:=by cases op <;> first | rfl | exact absurd rfl h2
  cases b <;> simp [iU,e1,e2]
theorem kn {op:Kl} {r:R2} (ho:OpR X (cU op) r) (ha:PE X a ta) (hb:PE X b tb) (hm:iU op b=false):PE X (.Compare a [op] [b] pos) (tOp r ta tb):=by
  intro pins s σ H Q I h
  exact wpAny_Compare1 (Io ha hb I h fun v u s2 x y H2 I2 rx ry q=>ho pins s2 σ H2 x y v u Q I2 rx ry q) hm
def vc (t:TE):TT:=fun σ H Q=>t σ H fun x H'=>∃ k,x=.bl k/\Q k H'
theorem cu {op:Kl} {r:R2} (ho:OpR X (cU op) r) (ha:PE X a ta) (hb:PE X b tb) (hm:iU op b=false):PT X (.Compare a [op] [b] pos) (vc (tOp r ta tb)):=by
  intro pins s σ H Q I h
  refine ES (thn (ha pins s σ H _ I h) fun v s1 ⟨x,H1,I1,r1,q1⟩=>thn (hb pins s1 σ H1 _ I1 q1) fun u s2 ⟨y,H2,I2,r2,q2⟩ =>
    thn (ho pins s2 σ H2 x y v u _ I2 r1 r2 q2) fun c s3 ⟨z,H3,I3,r3,k,e,q3⟩=>?_) hm
  subst e
  cases r3
  exact ie ⟨H3,I3,q3⟩
def TruV (K:af) (x:V) (H:Hp) (k:Bool):Prop:=
  match x with
  | .non=>k=false
  | .bl b=>k=b
  | .int i=>k=(i != 0)
  | .str y=>y.length<=aA/\k=((y.length:Int) != 0)
  | .byt y=>y.size<=aA/\k=((y.size:Int) != 0)
  | .ref p=>(∃ xs,SqL K H p xs/\k=!xs.isEmpty)\/(∃ xs,SqT K H p xs/\k=!xs.isEmpty)\/∃ kvs,H p=some (.dK kvs)/\k=!kvs.isEmpty
  | _=>False
theorem yM {κ:Type} {kvs:List (κ×V)} {vs:List (κ×ae)} (r:KV kvs vs):(!vs.isEmpty)=!kvs.isEmpty:=by
  cases r <;> rfl
theorem tK {xs:List V} {its:List ae} (r:cS xs its):(!its.toArray.isEmpty)=!xs.isEmpty:=by
  cases r <;> simp
theorem qR:(aA:Nat) < 2 ^ 63:=by rw [mZ]; decide
theorem Ir:TruR X (fun x H Q=>∃ k,TruV X.K x H k/\Q k H):=by
  intro pins s σ H x v Q I rx h
  obtain ⟨k,e,q⟩:=h
  have hl:=qR
  have hs:aA=16777216:=mZ
  cases x with
  | non =>
    cases rx
    have e':k=false:=e
    subst e'
    exact truthy_none ⟨H,I,q⟩
  | bl b =>
    cases rx
    have e':k=b:=e
    subst e'
    exact ie ⟨H,I,q⟩
  | int i =>
    obtain ⟨t,rfl⟩:=rx
    have e':k=(i != 0):=e
    subst e'
    exact PySem.P.truthy_int ⟨H,I,q⟩
  | str y =>
    obtain ⟨t,rfl⟩:=rx
    obtain ⟨hy,e'⟩:y.length<=aA/\k=((y.length:Int) != 0):=e
    subst e'
    exact PySem.P.truthy_str (by omega) ⟨H,I.tok _,q⟩
  | byt y =>
    obtain ⟨t,rfl⟩:=rx
    obtain ⟨hy,e'⟩:y.size<=aA/\k=((y.size:Int) != 0):=e
    subst e'
    exact PySem.W.truthy_bytes (by omega) ⟨H,I.tok _,q⟩
  | ref p =>
    cases rx
    have e':(∃ xs,SqL X.K H p xs/\k=!xs.isEmpty)\/(∃ xs,SqT X.K H p xs/\k=!xs.isEmpty)\/∃ kvs,H p=some (.dK kvs)/\k=!kvs.isEmpty:=e
    rcases e' with ⟨xs,hx,e'⟩ | ⟨xs,hx,e'⟩ | ⟨kvs,hx,e'⟩
    · subst e'
      obtain ⟨its,r,pl,hz⟩:=I.list hx
      have hlen:=r.length
      exact wpAny_truthy_list pl.isList (by simp only [av]; omega) ⟨H,I.tok _,by rw [tK r]; exact q⟩
    · subst e'
      obtain ⟨its,r,pl,hz⟩:=I.tuple hx
      have hlen:=r.length
      exact truthy_tuple pl (by simp only [av]; omega) ⟨H,I.tok _,by rw [tK r]; exact q⟩
    · subst e'
      obtain ⟨hz,hS,vs,r,m⟩:kvs.length<=aA/\(p == eO)=false/\∃ vs,KV kvs vs/\s.heap.DictOf (eY X.prog X.w) p vs:=I.hok p _ hx
      have hlen:kvs.length=vs.length:=aT r
      exact wpAny_truthy_dict hS m (by omega) ⟨H,I.tok _,by rw [yM r]; exact q⟩
  | _=>exact (show False from e).elim
theorem tL (ha:PE X a ta) (he:∀ whole,B4 a X.env whole=(do let v <- whole; uH a.pos; o9 [v] (truthy v))) :
    PT X a (fun σ H Q=>ta σ H fun x H'=>∃ k,TruV X.K x H' k/\Q k H'):=by
  intro pins s σ H Q I h
  exact isTrue_plain (thn (ha pins s σ H _ I h) fun v s1 ⟨x,H1,I1,r1,q1⟩=>Ir pins s1 σ H1 x v Q I1 r1 q1) (he _)
theorem yN:OpR X (gX .Add) (fun x y H Q=>∃ i j,x=.str i/\y=.str j/\i.length + j.length<=aA/\Q (.str (i++j)) H):=by
  intro pins s σ H x y v u Q I rx ry h
  obtain ⟨i,j,rfl,rfl,hz,q⟩:=h
  obtain ⟨t,rfl⟩:=rx
  obtain ⟨t',rfl⟩:=ry
  exact add_str (fun t' tk=>⟨.str (i++j),H,I.tok _,⟨_,rfl⟩,q⟩) hz
theorem vals1 {x:V} {us:List ae} (r:cS [x] us):∃ u,us=[u]/\RelV x u:=by
  cases r with
  | cons r1 r2=>cases r2; exact ⟨_,rfl,r1⟩
theorem vals2 {x y:V} {us:List ae} (r:cS [x,y] us):∃ u w',us=[u,w']/\RelV x u/\RelV y w':=by
  cases r with
  | cons r1 r2 =>
    cases r2 with
    | cons r3 r4=>cases r4; exact ⟨_,_,rfl,r1,r3⟩
theorem xH:mC X (.builtin "abs") (fun xs H Q=>∃ i,xs=[.int i]/\Q (.int (if i < 0 then -i else i)) H):=by
  intro pins s σ H xs us Q I r h
  obtain ⟨i,rfl,q⟩:=h
  obtain ⟨u,rfl,t,rfl⟩:=vals1 r
  exact call_abs_int fun u tk=>⟨.int (if i < 0 then -i else i),H,I.tok _,⟨_,rfl⟩,q⟩
theorem vd:mC X (.type "int") (fun xs H Q=>(∃ i,xs=[.int i]/\Q (.int i) H)\/∃ k,xs=[.bl k]/\Q (.int (if k then 1 else 0)) H):=by
  intro pins s σ H xs us Q I r h
  rcases h with ⟨i,rfl,q⟩ | ⟨k,rfl,q⟩
  · obtain ⟨u,rfl,t,rfl⟩:=vals1 r
    exact call_int_int ⟨.int i,H,I,⟨_,rfl⟩,q⟩
  · obtain ⟨u,rfl,r1⟩:=vals1 r
    cases r1
    exact call_int_bool ⟨.int (if k then 1 else 0),H,I.tok _,⟨_,rfl⟩,q⟩
end
end L2
namespace L2
open PySem PySem.Spec PyProof.Rows
structure yO (h:cB) (x dx C:aa) (mA:Str->Option ae):Prop where
  obj:h.get? x=some (gi C dx)
  ns:h.Ns1 dx mA
  ne:dx≠x
theorem A1 {h:cB} {dx:aa} {mA:Str->Option ae} (n:h.Ns1 dx mA):∃ od,h.get? dx=some od/\∀ name,nh name od=some (mA name):=by
  obtain ⟨o,es,ep,ho,hd,hk,_,hm⟩:=n
  refine ⟨o,ho,fun name=>?_⟩
  have e:=hm name
  unfold nsFind findBy at e
  rw [<- Array.find?_toList] at e
  unfold nh
  rw [hd]
  dsimp only
  split
  · rename_i y q
    rw [q] at e
    exact congrArg some e
  · rename_i q
    rw [q] at e
    have a:es.toList.any (·.refKey)=false:=by
      rw [List.any_eq_false]
      intro y hy
      obtain ⟨z,t,hkey⟩:=hk y (Array.mem_toList_iff.mp hy)
      simp [DictEntry.refKey,hkey]
    have a':¬ es.toList.any (·.refKey)=true:=by rw [a]; exact bO
    rw [if_neg a']
    exact congrArg some e
theorem yO.look {h:cB} {x dx C:aa} {mA:Str->Option ae} (I:yO h x dx C mA):∃ od,tM h x (gi C dx) C (some od)/\∀ name,nh name od=some (mA name):=
  let ⟨od,ho,hl⟩:=A1 I.ns
  ⟨od,⟨I.obj,rfl,rfl,ho⟩,hl⟩
section
variable {prog:aM} {w:bH} {A:bP} {E:ae->aj->Prop} {s:aj} {K:af} {x dx C f:aa} {mA:Str->Option ae} {name:Str} {v:ae}
theorem E6 {expr:Bool} {Q:ae->aj->Prop} (X:K.In s.heap) (I:yO s.heap x dx C mA) (hg:kW K C name=true) (hh:p8 K C=true)
    (ha:aV K (.ref C) name=some none) (hv:mA name=some v) (hv':A2 v=true) (h:Q v {s with toks:=s.toks + 1}) :
    aU (aW prog w) A (getAttr (.ref x) name expr) Q E s:=by
  obtain ⟨od,J,hl⟩:=I.look
  exact PySem.W.get_value X J (oS hg).1 (PySem.W.findObj_own hh ha rfl (by rw [hl,hv])) hv' h
theorem Cm {pl:Sem Bool} {Q:ae×List ae->aj->Prop} (X:K.In s.heap) (I:yO s.heap x dx C mA) (hg:kW K C name=true)
    (hf:aV K (.ref C) name=some (some (.ref f))) (ht:lR K (.ref f)=true) (hv:mA name=none) (h:Q (.ref f,[.ref x]) s) :
    aU (aW prog w) A (lN (.ref x) name pl) Q E s:=by
  obtain ⟨od,J,hl⟩:=I.look
  exact PySem.W.method_fn X J (oS hg).1 (oS hg).2 hf (beq_iff_eq.mp ht) (by show (nh name od).map (·.isSome)=some false; rw [hl,hv]; rfl) h
theorem E7 {ns:List Str} {Q:Unit->aj->Prop} (X:K.In s.heap) (I:yO s.heap x dx C mA)
    (hs:aV K (.ref C) "__setattr__"=some (some (.builtin "object.__setattr__"))) (hp:zW K C=true) (ht:r6 K C name=some none) (hh:p8 K C=true)
    (hw:xB mA ns) (hsz:ns.length<=aA)
    (h:∀ h',yO h' x dx C (fun y=>if y=name then some v else mA y)->mX dx s.heap h'->Q () {s with heap:=h',toks:=s.toks + 2}) :
    aU (aW prog w) A (setAttr (.ref x) name v) Q E s:=by
  obtain ⟨od,J,hl⟩:=I.look
  refine PySem.W.set_plain X J hs (PySem.W.osa_open (s:={s with toks:=s.toks + 1}) (r:=none) X J hp ht fun b=>?_)
  obtain ⟨cd,hc,hd'⟩:=PySem.W.any_some hh
  have hx:s.heap.get? x=some ⟨.ref C,some dx,.plain,#[]⟩:=I.obj
  refine ai (aN (ai (ai (wpAny_loadPart hx (ai (PySem.W.Looks.here (s:={s with toks:=s.toks + 1}) (PySem.W.looks_clsIn X hc) ?_))))))
  rw [hd']
  refine aN (a:=some dx) (ai (aN (ai ?_)))
  refine wpAny_nsSet1 (s:={s with toks:=s.toks + 1}) I.ns fun h' hn2 hs2=>?_
  obtain ⟨oD,esD,epD,hoD,hdD,hcD⟩:=hn2.count (PySem.Within.cons name v hw)
  refine ai (wpAny_lookBehind hoD (by rw [hdD]; exact pastItsLine_dict (c8 hcD (by rw [aP]; omega))) ?_)
  exact aN (h _ ⟨(hs2.2 _ (eZ I.ne)).trans I.obj,hn2,I.ne⟩ hs2)
theorem Co {R:Iu->aj->Prop} {vs:List ae} {kw:List (Str×ae)} (X:K.In s.heap) (hm:sf K C=true)
    (hi:aV K (.ref C) "__init__"=some (some (.ref f))) (hf:Cp K (.ref f)=some (.type "function"))
    (h:m5 (aW prog w) (A.under (.builtin "type.__call__" ⟨.ref C :: vs,kw⟩)) (.call (.ref f) ⟨.ref (s.heap.objs.size + 1) :: vs,kw⟩) (PySem.W.InitBack (s.heap.objs.size + 1) R)
      {s with heap:=(s.heap.push eD).push (gi C s.heap.objs.size)}) :
    m5 (aW prog w) A (.call (.ref C) ⟨vs,kw⟩) R s:=by
  obtain ⟨hh,g,d,t,os⟩:=s
  exact PySem.W.make_core (PySem.W.makes_of X hm) (jn X hi) (fun self=>PySem.W.bind_fn X self hf) (.inl rfl) h
end
def dh (f:Str) (v:V):List (Str×V)->List (Str×V)
  | []=>[(f,v)]
  | (g,x) :: r=>if g=f then (g,v) :: r else (g,x) :: dh f v r
theorem rJ (f g:Str) (v:V):∀ fs:List (Str×V),(dh f v fs).lookup g=if g=f then some v else fs.lookup g
  | []=>by
    show jC g [(f,v)]=_
    by_cases h:g=f
    · have hb:(g == f)=true:=beq_iff_eq.mpr h
      simp only [jC,hb,if_pos h]
    · have hb:(g == f)=false:=beq_eq_false_iff_ne.mpr h
      simp only [jC,hb,if_neg h]
  | (k,x) :: r=>by
    have ih:=rJ f g v r
    rw [show dh f v ((k,x) :: r)=(if k=f then (k,v) :: r else (k,x) :: dh f v r) from rfl]
    by_cases hk:k=f
    · rw [if_pos hk]
      by_cases h:g=k
      · have hb:(g == k)=true:=beq_iff_eq.mpr h
        simp only [jC,hb,if_pos (h.trans hk)]
      · have hb:(g == k)=false:=beq_eq_false_iff_ne.mpr h
        simp only [jC,hb,if_neg (fun e:g=f=>h (e.trans hk.symm))]
    · rw [if_neg hk]
      by_cases h:g=k
      · have hb:(g == k)=true:=beq_iff_eq.mpr h
        simp only [jC,hb,if_neg (fun e:g=f=>hk (h.symm.trans e))]
      · have hb:(g == k)=false:=beq_eq_false_iff_ne.mpr h
        simp only [jC,hb]
        exact ih
theorem qS (f:Str) (v:V):∀ fs:List (Str×V),f∈(dh f v fs).map (·.1)/\∀ g,g∈fs.map (·.1)->g∈(dh f v fs).map (·.1)
  | []=>⟨by simp [dh],fun g h=>by simp at h⟩
  | (k,x) :: r=>by
    obtain ⟨i1,i2⟩:=qS f v r
    rw [show dh f v ((k,x) :: r)=(if k=f then (k,v) :: r else (k,x) :: dh f v r) from rfl]
    by_cases hk:k=f
    · rw [if_pos hk]
      subst hk
      exact ⟨by simp,fun g h=>by simpa using h⟩
    · rw [if_neg hk]
      refine ⟨?_,fun g h=>?_⟩
      · rw [bR]
        exact ag _ i1
      · rw [bR] at h |-
        rcases au.mp h with e | e
        · exact au.mpr (.inl e)
        · exact ag _ (i2 g e)
theorem rK (f:Str) (v:V):∀ fs:List (Str×V),(dh f v fs).length<=fs.length + 1
  | []=>by simp [dh]
  | (k,x) :: r=>by
    have ih:=rK f v r
    rw [show dh f v ((k,x) :: r)=(if k=f then (k,v) :: r else (k,x) :: dh f v r) from rfl]
    by_cases hk:k=f
    · rw [if_pos hk,aP,aP]; omega
    · rw [if_neg hk,aP,aP]; omega
theorem oR.some_of {v:V} {o:Option ae} (r:oR (some v) o):∃ u,o=some u/\RelV v u:=by
  cases o with
  | none=>exact (show False from r).elim
  | some u=>exact ⟨u,rfl,r⟩
theorem oR.none_of {o:Option ae} (r:oR none o):o=none:=by
  cases o with
  | none=>rfl
  | some u=>exact (show False from r).elim
theorem A3 {v:V} {u:ae} (r:RelV v u):A2 u=true:=by
  cases v with
  | non=>cases (show u=Value.none from r); rfl
  | bl b=>cases (show u=Value.bool b from r); rfl
  | int i=>obtain ⟨t,e⟩:=(show ∃ t,u=Value.int i t from r); cases e; rfl
  | str x=>obtain ⟨t,e⟩:=(show ∃ t,u=Value.str x t from r); cases e; rfl
  | byt b=>obtain ⟨t,e⟩:=(show ∃ t,u=Value.bytes b t from r); cases e; rfl
  | flt b=>obtain ⟨t,e⟩:=(show ∃ t,u=Value.float b t from r); cases e; rfl
  | ref a=>cases (show u=Value.ref a from r); rfl
  | ty n=>cases (show u=Value.type n from r); rfl
section
variable {P:aM} {w:bH} {H H':Hp} {h h':cB} {a C dx:aa} {fs fs':List (Str×V)}
theorem sL (hok:HOk P w H h) (e:H a=some (.ins C dx fs)):∃ mA,yO h a dx C mA/\(∀ f,oR (fs.lookup f) (mA f))/\xB mA (fs.map (·.1))/\fs.length<=1000/\H dx=some (.own a):=by
  obtain ⟨d,z,ne,ob,mA,n,r,q⟩:=(show d5 P w H h a (.ins C dx fs) from hok a _ e)
  exact ⟨mA,⟨ob,n,ne⟩,r,q,z,d⟩
end
structure Cls (K:af) (C:aa):Prop where
  pg:kW K C Str.empty=true
  hd:p8 K C=true
  po:zW K C=true
  sa:aV K (.ref C) "__setattr__"=some (some (.builtin "object.__setattr__"))
theorem Cls.get {K:af} {C:aa} (c:Cls K C) (f:Str):kW K C f=true:=c.pg
def eE (K:af) (C:aa) (f:Str):Prop:=aV K (.ref C) f=some none
theorem eE.taker {K:af} {C:aa} {f:Str} (n:eE K C f):r6 K C f=some none:=by
  unfold r6
  rw [show aV K (.ref C) f=some none from n]
  rfl
structure vZ (K:af) (C:aa) (m:Str) (f:aa):Prop where
  at_:aV K (.ref C) m=some (some (.ref f))
  fn:lR K (.ref f)=true
  kp:fK K (.ref f)=true
section
variable {X:Cx} {pins:List (aa×Obj)} {σ:St} {H:Hp} {s:aj} {a C dx:aa} {fs:List (Str×V)} {f:Str} {v:V} {A:bP} {E:ae->aj->Prop}
theorem tN {b:Bool} {Q:ae->aj->Prop} (I:Inv X pins σ H s) (e:H a=some (.ins C dx fs)) (c:Cls X.K C) (n:eE X.K C f) (l:fs.lookup f=some v)
    (h:∀ u s',Inv X pins σ H s'->RelV v u->Q u s'):aU (aW X.prog X.w) A (getAttr (.ref a) f b) Q E s:=by
  obtain ⟨mA,O,r,_,_,_⟩:=sL I.hok e
  obtain ⟨u,hu,ru⟩:=oR.some_of (v:=v) (o:=mA f) (by rw [<- l]; exact r f)
  exact E6 I.kIn O (c.get f) c.hd n hu (A3 ru) (h u _ (I.tok _) ru)
theorem pk {m:Str} {g:aa} {pl:Sem Bool} {Q:ae×List ae->aj->Prop} (I:Inv X pins σ H s) (e:H a=some (.ins C dx fs)) (c:Cls X.K C) (k:vZ X.K C m g) (l:fs.lookup m=none)
    (h:Q (.ref g,[.ref a]) s):aU (aW X.prog X.w) A (lN (.ref a) m pl) Q E s:=by
  obtain ⟨mA,O,r,_,_,_⟩:=sL I.hok e
  have hn:mA m=none:=oR.none_of (by rw [<- l]; exact r m)
  exact Cm I.kIn O (c.get m) k.at_ k.fn hn h
theorem tO {y:V} {u:ae} {Q:Unit->aj->Prop} (I:Inv X pins σ H s) (e:H a=some (.ins C dx fs)) (c:Cls X.K C) (n:eE X.K C f) (hl:fs.length < 1000) (ry:RelV y u)
    (h:∀ s',Inv X pins σ (upd H a (.ins C dx (dh f y fs))) s'->Q () s'):aU (aW X.prog X.w) A (setAttr (.ref a) f u) Q E s:=by
  obtain ⟨mA,O,r,wi,_,ho⟩:=sL I.hok e
  have hz:(fs.map (·.1)).length<=aA:=by rw [ar,mZ]; omega
  refine E7 I.kIn O c.sa c.po n.taker c.hd wi hz fun h' O' sb=>h _ ?_
  have hd:∃ o,h'.get? dx=some o:=let ⟨o,_,_,e',_⟩:=O'.ns; ⟨o,e'⟩
  refine I.write (x:=a) (e:=dx) (by rw [e]; exact True.intro) (.inr ho) (fun b q hb z=>(sb.2 b hb).trans z) hd ?_
  refine ⟨by rw [aJ O.ne]; exact ho,?_,O.ne,O'.obj,_,O'.ns,fun g=>?_,fun g hg=>?_⟩
  · have:=rK f y fs; omega
  · show oR ((dh f y fs).lookup g) (if g=f then some u else mA g)
    rw [rJ]
    by_cases q:g=f
    · rw [if_pos q,if_pos q]; exact ry
    · rw [if_neg q,if_neg q]; exact r g
  · by_cases q:g=f
    · rw [q]; exact (qS f y fs).1
    · refine (qS f y fs).2 g (wi g fun z=>hg ?_)
      show (if g=f then some u else mA g)=none
      rw [if_neg q]; exact z
theorem Inv.made (I:Inv X pins σ H s):Inv X pins σ (upd (upd H s.heap.objs.size (.own (s.heap.objs.size + 1))) (s.heap.objs.size + 1) (.ins C s.heap.objs.size []))
    {s with heap:=(s.heap.push eD).push (gi C s.heap.objs.size)}:=by
  have e1:(s.heap.push eD).get? s.heap.objs.size=some eD:=cv s.heap rfl
  have e2:((s.heap.push eD).push (gi C s.heap.objs.size)).get? (s.heap.objs.size + 1)=some (gi C s.heap.objs.size):=by
    have:=cv (s.heap.push eD) (o:=gi C s.heap.objs.size) rfl
    rwa [ve] at this
  have e3:(s.heap.push eD).Ns s.heap.objs.size (fun _=>none):=⟨eD,#[],_,e1,rfl,(fun e he=>absurd he (by simp)),fun _=>rfl⟩
  have I1:=I.laid (a:=s.heap.objs.size) (o:=.own (s.heap.objs.size + 1)) (h':=s.heap.push eD) (t':=s.toks) (fun b u q=>aI _ q) (aC _) ⟨_,e1⟩
  refine I1.laid (a:=s.heap.objs.size + 1) (o:=.ins C s.heap.objs.size []) (t':=s.toks) (fun b u q=>aI _ q) (Nat.le_of_eq (ve _ _)) ?_
  have ne:s.heap.objs.size≠s.heap.objs.size + 1:=aL (tP _)
  refine ⟨by rw [aJ ne,ah],bj _,ne,e2,fun _=>none,(Heap.Ns1.of_empty e3).at fun o q=>aI _ q,fun _=>True.intro,fun y hy=>absurd rfl hy⟩
theorem E8 {prog:aM} {w:bH} {env:Env} {e:cX} {f:Str} {pos:Pos} {s:aj} {Q:ae->aj->Prop} (hb:j0 e f env (eW e env)=eW e env)
    (h:aU (aW prog w) A (eW e env) (fun o s₁=>aU (aW prog w) A (getAttr o f true) Q E s₁) E s):aU (aW prog w) A (eW (.Attribute e f pos) env) Q E s:=
  Attribute_any_ h (by rw [arm_eval_Attribute,hb])
end
def Cq (K:af) (ta:TE) (f:Str):TE:=fun σ H Q=>ta σ H fun x H1=>∃ a C dx fs v,x=.ref a/\H1 a=some (.ins C dx fs)/\Cls K C/\eE K C f/\fs.lookup f=some v/\Q v H1
def sFld (K:af) (ta tv:TE) (f:Str):TS:=fun D σ H=>tv σ H fun y H1=>ta σ H1 fun x H2=>∃ a C dx fs,x=.ref a/\H2 a=some (.ins C dx fs)/\Cls K C/\eE K C f/\fs.length < 1000 /\
  D.nx σ (upd H2 a (.ins C dx (dh f y fs)))
def InOp (X:Cx) (op:E2) (rd:V->V->Hp->VK->Prop):Prop:=
  ∀ (pins:List (aa×Obj)) (s:aj) (σ:St) (H:Hp) (x y:V) (u v:ae) (Q:VK),Inv X pins σ H s->RelV x u->RelV y v->rd x y H Q->aU (aW X.prog X.w) X.A (inplaceOp op u v) (EP X pins σ Q) X.xe s
def E9 (K:af) (ta tv:TE) (rd:V->V->Hp->VK->Prop) (f:Str):TS:=fun D σ H=>ta σ H fun x H1=>∃ a C dx fs v,x=.ref a/\H1 a=some (.ins C dx fs)/\Cls K C/\eE K C f/\fs.lookup f=some v /\
  tv σ H1 fun y H2=>rd v y H2 fun z H3=>∃ dx' fs',H3 a=some (.ins C dx' fs')/\fs'.length < 1000/\D.nx σ (upd H3 a (.ins C dx' (dh f z fs')))
section
variable {X:Cx} {o e value:cX} {f:Str} {pos pos' tpos:Pos} {ta tv:TE}
theorem cN (he:PE X e ta) (hb:j0 e f X.env (eW e X.env)=eW e X.env):PE X (.Attribute e f pos) (Cq X.K ta f):=by
  intro pins s σ H Q I h
  refine E8 hb (thn (he pins s σ H _ I h) fun u s1 ⟨x,H1,I1,rx,a,C,dx,fs,v,ex,ea,c,n,l,q⟩=>?_)
  subst ex
  obtain rfl:u=Value.ref a:=rx
  exact tN I1 ea c n l fun u' s2 I2 ru=>⟨v,H1,I2,ru,q⟩
theorem e9 (ha:PE X o ta) (hv:PE X value tv) (hs:rH value (some (.Attribute o f pos')) pos.line X.env=pure false):PS X (.Assign [.Attribute o f pos'] value pos) (sFld X.K ta tv f):=by
  intro pins s σ H D I h
  refine plainObj_wpAny_Assign_Attribute (thn (hv pins s σ H _ I h) fun u s1 ⟨y,H1,I1,ry,q⟩=>thn (ha pins s1 σ H1 _ I1 q) fun ov s2 ⟨x,H2,I2,rx,a,C,dx,fs,ex,ea,c,n,l,q2⟩=>?_) hs
  subst ex
  obtain rfl:ov=Value.ref a:=rx
  exact tO I2 ea c n l ry fun s3 I3=>⟨σ,_,I3,q2⟩
theorem vg {op:E2} {rd:V->V->Hp->VK->Prop} (ha:PE X o ta) (hv:PE X value tv) (hop:InOp X op rd):PS X (.AugAssign (.Attribute o f tpos) op value pos) (E9 X.K ta tv rd f):=by
  intro pins s σ H D I h
  refine wpAny_AugAssign_AttributeAny (thn (ha pins s σ H _ I h) fun ov s1 ⟨x,H1,I1,rx,a,C,dx,fs,v,ex,ea,c,n,l,q⟩=>?_)
  subst ex
  obtain rfl:ov=Value.ref a:=rx
  refine tN I1 ea c n l fun u s2 I2 ru=>thn (hv pins s2 σ H1 _ I2 q) fun w3 s3 ⟨y,H2,I3,ry,q3⟩=>thn (hop pins s3 σ H2 v y u w3 _ I3 ru ry q3) fun w4 s4 ⟨z,H3,I4,rz,dx',fs',ea',l',q4⟩=>?_
  exact tO I4 ea' c n l' rz fun s5 I5=>⟨σ,_,I5,q4⟩
def rAdd:V->V->Hp->VK->Prop:=fun x y H Q=>∃ i j,x=.int i/\y=.int j/\Q (.int (i + j)) H
theorem Cr:InOp X .Add rAdd:=by
  rintro pins s σ H x y u v Q I rx ry ⟨i,j,rfl,rfl,q⟩
  obtain ⟨t,rfl⟩:=(show ∃ t,u=Value.int i t from rx)
  obtain ⟨t',rfl⟩:=(show ∃ t',v=Value.int j t' from ry)
  exact PyProof.Rows.iadd_int ⟨.int (i + j),H,I.tok _,⟨_,rfl⟩,q⟩
theorem methcall_of {pl:Sem Bool} {m:Str} {apos:Pos} {args:List cX} {pins:List (aa×Obj)} {s:aj} {σ:St} {H:Hp} {Q:ae->aj->Prop} {te:TE} (he:PE X e te) (I:Inv X pins σ H s)
    (h:te σ H fun x H1=>∃ a C dx fs g,x=.ref a/\H1 a=some (.ins C dx fs)/\Cls X.K C/\vZ X.K C m g/\fs.lookup m=none /\
      ∀ s1,Inv X pins σ H1 s1->aU (aW X.prog X.w) X.A (yP pos (.ref g) [.ref a] (iw pos (cH args X.env)) (lS pos (iA [] X.env))) Q X.xe s1)
    (ht:eW (.Call (.Attribute e m apos) args [] pos) X.env=(do
      let ov <- eW e X.env
      uH apos.atName
      let (f,first) <- o9 [ov] (lN ov m pl)
      yP pos f first (iw pos (cH args X.env)) (lS pos (iA [] X.env)))) :
    aU (aW X.prog X.w) X.A (eW (.Call (.Attribute e m apos) args [] pos) X.env) Q X.xe s:=by
  refine iZ (pl:=pl) (thn (he pins s σ H _ I h) fun u s1 ⟨x,H1,I1,rx,a,C,dx,fs,g,ex,ea,c,k,l,q⟩=>?_) ht
  subst ex
  obtain rfl:u=Value.ref a:=rx
  exact pk I1 ea c k l (q s1 I1)
end
section
variable {X:Cx} {pins:List (aa×Obj)} {σ:St} {H:Hp} {s:aj} {A:bP} {E:ae->aj->Prop} {Q:ae->aj->Prop} {c:ae} {b:Bool}
inductive qT (K:af) (H:Hp):V->ae->Prop where
  | non:qT K H .non (.type "NoneType")
  | bl (x:Bool):qT K H (.bl x) (.type "bool")
  | int (i:Int):qT K H (.int i) (.type "int")
  | str (x:Str):qT K H (.str x) (.type "str")
  | flt (x:UInt64):qT K H (.flt x) (.type "float")
  | lst {a:aa} {xs:List V} (e:H a=some (.lst xs)):qT K H (.ref a) (.type "list")
  | frz {a:aa} {o:Obj} {xs:List V} (e:H a=some (.frz o (.lst xs))):qT K H (.ref a) (.type "list")
  | tup {a:aa} {xs:List V} (e:H a=some (.tup xs)):qT K H (.ref a) (.type "tuple")
  | dK {a:aa} {kvs:List (Key×V)} (e:H a=some (.dK kvs)):qT K H (.ref a) (.type "dict")
  | dT {a:aa} {kvs:List (List Key×V)} (e:H a=some (.dT kvs)):qT K H (.ref a) (.type "dict")
  | ins {a C dx:aa} {fs:List (Str×V)} (e:H a=some (.ins C dx fs)) (cl:Cls K C) (ha:aV K (.ref C) "__class__"=some (some (.builtin "object.__class__")))
      (hn:zX K (.builtin "object.__class__") "__get__"=some (some (.builtin "getset_descriptor.__get__"))) (htk:BJ K (.builtin "object.__class__")=some true)
      (hm:uJ K C (.type "object")=some true):qT K H (.ref a) (.ref C)
theorem A4 {x:V} {u t:ae} (I:Inv X pins σ H s) (rx:RelV x u) (ty:qT X.K H x t) (e:eS X.K t c=some b) (h:∀ tk,Q (.bool b) {s with toks:=tk}) :
    aU (aW X.prog X.w) A (vV (.builtin "isinstance") [u,c]) Q E s:=by
  cases ty with
  | non=>cases (show u=Value.none from rx); exact d7 PySem.W.kitx_none I.kIn True.intro e (fun z=>nomatch z) h
  | bl y=>cases (show u=Value.bool y from rx); exact d7 PySem.W.kitx_bool I.kIn True.intro e (fun z=>nomatch z) h
  | int i=>obtain ⟨t,q⟩:=(show ∃ t,u=Value.int i t from rx); cases q; exact d7 PySem.W.kitx_int I.kIn True.intro e (fun z=>nomatch z) h
  | str y=>obtain ⟨t,q⟩:=(show ∃ t,u=Value.str y t from rx); cases q; exact d7 PySem.W.kitx_str I.kIn True.intro e (fun z=>nomatch z) h
  | flt y=>obtain ⟨t,q⟩:=(show ∃ t,u=Value.float y t from rx); cases q; exact d7 PySem.W.kitx_float I.kIn True.intro e (fun z=>nomatch z) h
  | @lst a xs ea =>
    cases (show u=Value.ref a from rx)
    obtain ⟨_,_,n,_,h1⟩:=(show d5 X.prog X.w H s.heap a (.lst xs) from I.hok a _ ea)
    exact d7 zY I.kIn ⟨_,h1,rfl⟩ e (fun z=>nomatch z) h
  | @frz a ob xs ea =>
    cases (show u=Value.ref a from rx)
    obtain ⟨_,_,_,n,_,h1⟩:=(show d5 X.prog X.w H s.heap a (.frz ob (.lst xs)) from I.hok a _ ea)
    exact d7 zY I.kIn ⟨_,h1,rfl⟩ e (fun z=>nomatch z) h
  | @tup a xs ea =>
    cases (show u=Value.ref a from rx)
    obtain ⟨_,_,_,p⟩:=(show d5 X.prog X.w H s.heap a (.tup xs) from I.hok a _ ea)
    obtain ⟨o,h1,h2,_⟩:=p
    exact d7 PySem.W.kitx_tuple I.kIn ⟨o,h1,h2⟩ e (fun z=>nomatch z) h
  | @dK a kvs ea =>
    cases (show u=Value.ref a from rx)
    obtain ⟨_,_,vs,_,p⟩:=(show d5 X.prog X.w H s.heap a (.dK kvs) from I.hok a _ ea)
    obtain ⟨o,es,ep,h1,h2,_⟩:=p
    exact d7 zZ I.kIn ⟨o,h1,h2.1⟩ e (fun z=>nomatch z) h
  | @dT a kvs ea =>
    cases (show u=Value.ref a from rx)
    obtain ⟨_,_,xs,_,o,es,ep,h1,h2,_⟩:=(show d5 X.prog X.w H s.heap a (.dT kvs) from I.hok a _ ea)
    exact d7 zZ I.kIn ⟨o,h1,h2.1⟩ e (fun z=>nomatch z) h
  | @ins a C dx fs ea cl ha hn htk hm =>
    cases (show u=Value.ref a from rx)
    obtain ⟨mA,O,_⟩:=sL I.hok ea
    obtain ⟨od,J,_⟩:=O.look
    exact d7 (PySem.W.kitx_own (cl.get _) cl.hd ha hn htk hm) I.kIn J e (fun z=>nomatch z) h
end
end L2
namespace L2
open PySem PySem.Spec PyProof.Rows
structure dP (k:Nat) (A:bP):Prop where
  hd:A.handled=none
  dp:A.depth + 3 * k + 5 < recursionLimit
  un:A.units + 16 * k + 200 < dM
theorem dP.mono {j k:Nat} {A:bP} (r:dP k A) (h:j<=k):dP j A:=⟨r.hd,by have:=r.dp; omega,by have:=r.un; omega⟩
theorem dP.deeper {k:Nat} {A:bP} (r:dP (k + 1) A) (env:Env):dP k (A.deeper env):=
  ⟨r.hd,by have:=r.dp; show A.depth + 1 + 3 * k + 5 < _; omega,by have:=r.un; show A.units + 3 + 16 * k + 200 < _; omega⟩
theorem yQ {A:bP} {C:aa} {us:List ae} {kw:List (Str×ae)}:(A.under (.builtin "type.__call__" ⟨.ref C :: us,kw⟩)).depth=A.depth + 1:=by
  first | rfl | simp [xm,Code.weight,Code.isCreation,Code.isGuard,Code.isCaller,Code.frames,yv,guardIds]
theorem yR {A:bP} {C:aa} {us:List ae} {kw:List (Str×ae)}:(A.under (.builtin "type.__call__" ⟨.ref C :: us,kw⟩)).units=A.units + 1:=by
  first | rfl | simp [xm,Code.cUnits,Code.frames,yv]
theorem dP.make {k:Nat} {A:bP} (r:dP (k + 1) A) (C:aa) (us:List ae) (kw:List (Str×ae)):dP k (A.under (.builtin "type.__call__" ⟨.ref C :: us,kw⟩)):=
  ⟨r.hd,by have:=r.dp; rw [yQ]; omega,by have:=r.un; rw [yR]; omega⟩
theorem dP.depth {k:Nat} {A:bP} (r:dP k A):A.depth < recursionLimit:=by have:=r.dp; omega
theorem dP.units {k:Nat} {A:bP} (r:dP k A):A.units + 64 < dM:=by have:=r.un; omega
def xI:TA:=fun _ H Q=>Q [] H
def mE (ta:TE) (tr:TA):TA:=fun σ H Q=>ta σ H fun x H1=>tr σ H1 fun xs H2=>Q (x :: xs) H2
section
variable {X:Cx} {e:cX} {es:List cX} {te:TE} {t:TA} {pos:Pos}
theorem ao:PA X [] xI:=fun _ _ _ _ H Q I h=>Calls.spliced_nil ⟨[],H,I,.nil,h⟩
theorem aq (ha:PE X e te) (hr:PA X es t) (hs:cH (e :: es) X.env=(false,eW e X.env) :: cH es X.env:=by rfl):PA X (e :: es) (mE te t):=by
  intro pos pins s σ H Q I h
  rw [hs]
  show aU _ _ (spliced ((false,eW e X.env) :: iw pos (cH es X.env))) _ _ s
  refine Calls.spliced_cons (thn (ha pins s σ H _ I h) fun u s1 ⟨x,H1,I1,r1,q1⟩=>?_)
  exact thn (hr pos pins s1 σ H1 _ I1 q1) fun us s2 ⟨xs,H2,I2,r2,q2⟩=>⟨x :: xs,H2,I2,.cons r1 r2,q2⟩
def tTup (t:TA):TE:=fun σ H Q=>t σ H fun xs H1=>xs.length<=aA/\∀ p,H1 p=none->Q (.ref p) (upd H1 p (.tup xs))
def Iv (t:TA):TE:=fun σ H Q=>t σ H fun xs H1=>xs.length<=aA/\∀ p,H1 p=none->Q (.ref p) (upd H1 p (.lst xs))
theorem cR {x1} (h:PA X es t):PE X (.Tuple es x1 pos) (tTup t):=by
  intro pins s σ H Q I hq
  refine wpAny_Tuple_spliced (thn (h pos pins s σ H _ I hq) fun us s1 ⟨xs,H1,I1,r,z,q⟩=>⟨by rw [<- r.length]; exact z,?_⟩)
  have hf:H1 s1.heap.objs.size=none:=I1.hok.fresh (aC _)
  refine ⟨.ref s1.heap.objs.size,upd H1 s1.heap.objs.size (.tup xs),I1.laid (t':=s1.toks) (fun b u e=>aI _ e) (aC _) ?_,rfl,q _ hf⟩
  exact ⟨z,us,r,⟨_,cv _ rfl,rfl,_,rfl⟩⟩
theorem eT (h:PA X es t):PE X (.List es pos) (Iv t):=by
  intro pins s σ H Q I hq
  refine wpAny_List_spliced (thn (h pos pins s σ H _ I hq) fun us s1 ⟨xs,H1,I1,r,z,q⟩=>⟨by rw [<- r.length]; exact z,?_⟩)
  have hf:H1 s1.heap.objs.size=none:=I1.hok.fresh (aC _)
  refine ⟨.ref s1.heap.objs.size,upd H1 s1.heap.objs.size (.lst xs),I1.laid (t':=s1.toks) (fun b u e=>aI _ e) (aC _) ?_,rfl,q _ hf⟩
  exact ⟨z,us,0,r,cv _ rfl⟩
end
abbrev Sp:=List V->Hp->VK->XK->Prop
abbrev CXT:=List Env->Hp->aj->XK->ae->aj->Prop
structure v9 (P:aM) (w:bH) (K:af) (mg:Str->Option ae) (base:cB) (A:bP) (outer:List Env) (s:aj) (H:Hp):Prop where
  frames:A.frames=some outer
  mod:Mod K mg base
  bs:∀ b o,base.get? b=some o->s.heap.get? b=some o/\H b=none
  bsz:base.objs.size<=s.heap.objs.size
  funs:s.heap.FunFrames base outer
  frf:∀ b∈frs outer,H b=none
  hok:HOk P w H s.heap
  bare:mV s.gens
def CE (outer:List Env) (P:aM) (w:bH) (H:Hp) (s:aj) (Q:VK) (u:ae) (s':aj):Prop:=
  ∃ v H',s'.os=s.os/\mV s'.gens/\Un (frs outer) [] H H' s.heap s'.heap/\HOk P w H' s'.heap/\RelV v u/\Q v H'
def CR (CX:CXT) (outer:List Env) (P:aM) (w:bH) (H:Hp) (s:aj) (Q:VK) (E:XK) (r:Iu) (s':aj):Prop:=
  match r with
  | .ok (.ret u)=>CE outer P w H s Q u s'
  | .ok _=>False
  | .error e=>CX outer H s E e s'
structure bT (P:aM) (w:bH) (K:af) (mg:Str->Option ae) (base:cB) (CX:CXT) (k:Nat) (f:aa) (fd:bY) (ps:List Str) (sp:Sp):Prop where
  len:∀ vs H Q E,sp vs H Q E->vs.length=ps.length
  run:∀ (A:bP) (outer:List Env) (s:aj) (H:Hp) (args:Args) (us:List ae) (vs:List V) (Q:VK) (E:XK),dP k A->v9 P w K mg base A outer s H->rL s fd args (ps.zip us)->cS vs us->sp vs H Q E ->
    m5 (aW P w) A (.call (.ref f) args) (CR CX outer P w H s Q E) s
theorem v9.make {P:aM} {w:bH} {K:af} {mg:Str->Option ae} {base:cB} {A:bP} {outer:List Env} {s:aj} {H:Hp} (e:v9 P w K mg base A outer s H) (C:aa) (us:List ae) (kw:List (Str×ae)) :
    v9 P w K mg base (A.under (.builtin "type.__call__" ⟨.ref C :: us,kw⟩)) outer s H:=⟨by first | exact e.frames | (simpa [xm,Code.envs,yv,pushEnvs] using e.frames),e.mod,e.bs,e.bsz,e.funs,e.frf,e.hok,e.bare⟩
section
variable {X:Cx} {pins:List (aa×Obj)} {σ:St} {H:Hp} {s s':aj}
theorem Inv.env0 (I:Inv X pins σ H s):v9 X.prog X.w X.K X.mg X.base X.A X.stack s H:=
  ⟨I.ok.frames,I.ok.mod,I.bs,c8 I.ok.bsz I.sz,I.stack,I.stkFree,I.hok,I.bare⟩
theorem Inv.after {Q:VK} {u:ae} (I:Inv X pins σ H s) (h:CE X.stack X.prog X.w H s Q u s'):EP X pins σ Q u s':=by
  obtain ⟨v,H',os,bare,un,hok,r,q⟩:=h
  obtain ⟨hh,g,d,t,os'⟩:=s'
  obtain rfl:os'=s.os:=os
  exact ⟨v,H',I.call (h':=hh) (g':=g) (d':=d) (t':=t) (ch:=[]) un hok bare (fun b z=>absurd z (by simp)),r,q⟩
end
def tCall (sp:Sp) (dvs:List V) (E:XK) (t:TA):TE:=fun σ H Q=>t σ H fun vs H1=>sp (vs++dvs) H1 Q E
def Hq (C:aa) (m:Str) (sp:Sp) (dvs:List V) (E:XK) (ta:TE) (t:TA):TE:=fun σ H Q=>ta σ H fun x H1=>∃ a dx fs,x=.ref a/\H1 a=some (.ins C dx fs)/\fs.lookup m=none /\
  t σ H1 fun vs H2=>sp (x :: (vs++dvs)) H2 Q E
def Hr (C:aa) (sp:Sp) (dvs:List V) (E:XK) (t:TA):TE:=fun σ H Q=>t σ H fun vs H1=>∀ x dx,H1 x=none->H1 dx=none->dx≠x ->
  sp (.ref x :: (vs++dvs)) (upd (upd H1 dx (.own x)) x (.ins C dx [])) (fun v H2=>v=.non/\Q (.ref x) H2) E
def Binds (K:af) (fd:bY) (ps:List Str) (ds:List ae):Prop:=
  ∀ (s:aj) (us:List ae),K.In s.heap->(us++ds).length=ps.length->rL s fd ⟨us,[]⟩ (ps.zip (us++ds))
theorem Binds.all {K:af} {fd:bY} {ps:List Str} (h:∀ us:List ae,us.length=ps.length->yS fd ⟨us,[]⟩=pure (ps.zip us)):Binds K fd ps []:=fun s us _ hl=>by
  rw [dC] at hl |-
  exact .of_eq (h us hl)
def kI (CX:CXT) (X:Cx) (E:XK):Prop:=∀ (pins:List (aa×Obj)) (σ:St) (H:Hp) (s:aj) (e:ae) (s':aj),Inv X pins σ H s->CX X.stack H s E e s'->X.xe e s'
section
variable {X:Cx} {CX:CXT} {k:Nat} {f C:aa} {fd:bY} {ps:List Str} {sp:Sp} {dvs:List V} {ds:List ae} {E:XK} {x m:Str} {p pos apos:Pos} {e o:cX} {es:List cX} {ta:TE} {t:TA}
theorem yT {pins:List (aa×Obj)} {σ:St} {H:Hp} {s:aj} {Q:VK} {us:List ae} {vs:List V} (F:bT X.prog X.w X.K X.mg X.base CX k f fd ps sp) (hr:dP k X.A) (hb:Binds X.K fd ps ds) (hd:cS dvs ds) (hx:kI CX X E)
    (I:Inv X pins σ H s) (r:cS vs us) (h:sp (vs++dvs) H Q E):aU (aW X.prog X.w) X.A (vV (.ref f) us) (EP X pins σ Q) X.xe s:=by
  have r2:cS (vs++dvs) (us++ds):=r.append hd
  have hl:(us++ds).length=ps.length:=by rw [<- r2.length]; exact F.len _ _ _ _ h
  refine yU (kX (F.run X.A X.stack s H ⟨us,[]⟩ (us++ds) (vs++dvs) Q E hr I.env0 (hb s us I.kIn hl) r2 h) fun r s' hq=>?_)
  cases r with
  | error e=>exact hx pins σ H s e s' I hq
  | ok fl =>
    cases fl with
    | ret u=>exact I.after hq
    | next=>exact cO hq
    | brk=>exact cO hq
    | cont=>exact cO hq
theorem aS (F:bT X.prog X.w X.K X.mg X.base CX k f fd ps sp) (hr:dP k X.A) (hg:Gl X x) (hm:X.mg x=some (.ref f)) (hk:fK X.K (.ref f)=true) (hb:Binds X.K fd ps ds) (hd:cS dvs ds) (hx:kI CX X E)
    (ha:PA X (e :: es) t) (hdb:(x == ("__debug__":Str))=false:=by decide) (he:cH (e :: es) X.env=(false,eW e X.env) :: cH es X.env:=by rfl) (hpl:(iw pos (cH es X.env)).any (·.1)=false:=by rfl) :
    PE X (.Call (.Name x p) (e :: es) [] pos) (tCall sp dvs E t):=by
  intro pins s σ H Q I h
  refine gP (pX I hg hm ?_ hdb)
  refine jO (h₀:=X.base) I.ok.mod.kin hk (thn (ha pos pins s σ H _ I h) fun us s1 ⟨vs,H1,I1,r,q⟩=>⟨I1.kIn,?_⟩) he hpl
  exact yT F hr hb hd hx I1 r q
theorem gI {pl:Sem Bool} (he:PE X o ta) (c:Cls X.K C) (hm:vZ X.K C m f) (F:bT X.prog X.w X.K X.mg X.base CX k f fd ps sp) (hr:dP k X.A) (hb:Binds X.K fd ps ds) (hd:cS dvs ds) (hx:kI CX X E) (ha:PA X (e :: es) t)
    (hst:cH (e :: es) X.env=(false,eW e X.env) :: cH es X.env:=by rfl) (hpl:(iw pos (cH es X.env)).any (·.1)=false:=by rfl)
    (ht:eW (.Call (.Attribute o m apos) (e :: es) [] pos) X.env=(do
      let ov <- eW o X.env
      uH apos.atName
      let (f,first) <- o9 [ov] (lN ov m pl)
      yP pos f first (iw pos (cH (e :: es) X.env)) (lS pos (iA [] X.env))):=by rfl) :
    PE X (.Call (.Attribute o m apos) (e :: es) [] pos) (Hq C m sp dvs E ta t):=by
  intro pins s σ H Q I h
  refine iZ (pl:=pl) (thn (he pins s σ H _ I h) fun u s1 ⟨x,H1,I1,rx,a,dx,fs,ex,ea,l,q⟩=>?_) ht
  subst ex
  obtain rfl:u=Value.ref a:=rx
  refine pk I1 ea c hm l ?_
  refine jO (first:=[.ref a]) (h₀:=X.base) I.ok.mod.kin hm.kp (thn (ha pos pins s1 σ H1 _ I1 q) fun us s2 ⟨vs,H2,I2,r,q2⟩=>⟨I2.kIn,?_⟩) hst hpl
  exact yT (us:=.ref a :: us) (vs:=.ref a :: vs) F hr hb hd hx I2 (.cons rfl r) q2
theorem p9 {pl:Sem Bool} (he:PE X o ta) (c:Cls X.K C) (hm:vZ X.K C m f) (F:bT X.prog X.w X.K X.mg X.base CX k f fd ps sp) (hr:dP k X.A) (hb:Binds X.K fd ps ds) (hd:cS dvs ds) (hx:kI CX X E)
    (ht:eW (.Call (.Attribute o m apos) [] [] pos) X.env=(do
      let ov <- eW o X.env
      uH apos.atName
      let (f,first) <- o9 [ov] (lN ov m pl)
      yP pos f first (iw pos (cH [] X.env)) (lS pos (iA [] X.env))):=by rfl) :
    PE X (.Call (.Attribute o m apos) [] [] pos) (Hq C m sp dvs E ta xI):=by
  intro pins s σ H Q I h
  refine iZ (pl:=pl) (thn (he pins s σ H _ I h) fun u s1 ⟨x,H1,I1,rx,a,dx,fs,ex,ea,l,q⟩=>?_) ht
  subst ex
  obtain rfl:u=Value.ref a:=rx
  refine pk I1 ea c hm l ?_
  exact yw (first:=[.ref a]) I1.kIn hm.kp (yT (us:=[.ref a]) (vs:=[.ref a]) F hr hb hd hx I1 (.cons rfl .nil) q)
structure Mk (K:af) (C f:aa):Prop where
  makes:sf K C=true
  init:aV K (.ref C) "__init__"=some (some (.ref f))
  fn:lR K (.ref f)=true
  kp:fK K (.ref C)=true
theorem Cs {pins:List (aa×Obj)} {σ:St} {H:Hp} {s:aj} {Q:VK} {us:List ae} {vs:List V} (M:Mk X.K C f) (F:bT X.prog X.w X.K X.mg X.base CX k f fd ps sp) (hr:dP (k + 1) X.A) (hb:Binds X.K fd ps ds) (hd:cS dvs ds)
    (hx:kI CX X E) (I:Inv X pins σ H s) (r:cS vs us)
    (h:∀ x dx,H x=none->H dx=none->dx≠x->sp (.ref x :: (vs++dvs)) (upd (upd H dx (.own x)) x (.ins C dx [])) (fun v H2=>v=.non/\Q (.ref x) H2) E) :
    aU (aW X.prog X.w) X.A (vV (.ref C) us) (EP X pins σ Q) X.xe s:=by
  have hq:=h (s.heap.objs.size + 1) s.heap.objs.size (I.hok.fresh (fb _)) (I.hok.fresh (aC _)) (aL (tP _))
  have I2:=Inv.made (C:=C) I
  have r2:cS (V.ref (s.heap.objs.size + 1) :: (vs++dvs)) (Value.ref (s.heap.objs.size + 1) :: (us++ds)):=.cons rfl (r.append hd)
  have hl:(Value.ref (s.heap.objs.size + 1) :: us++ds).length=ps.length:=by
    have e:=r2.length
    rw [F.len _ _ _ _ hq] at e
    exact e.symm
  refine yU (Co (f:=f) I.kIn M.makes M.init (beq_iff_eq.mp M.fn) (kX (F.run _ X.stack _ _ ⟨Value.ref (s.heap.objs.size + 1) :: us,[]⟩ (Value.ref (s.heap.objs.size + 1) :: (us++ds)) _ _ E (hr.make C us [])
    (I2.env0.make C us []) (hb _ (Value.ref (s.heap.objs.size + 1) :: us) I2.kIn hl) r2 hq) fun r s' hq'=>?_))
  cases r with
  | error e=>exact hx pins σ _ _ e s' I2 hq'
  | ok fl =>
    cases fl with
    | ret u =>
      obtain ⟨v,H',I3,rv,ev,q3⟩:=I2.after hq'
      subst ev
      exact ⟨rv,⟨V.ref (s.heap.objs.size + 1),H',I3,rfl,q3⟩⟩
    | next=>exact cO hq'
    | brk=>exact cO hq'
    | cont=>exact cO hq'
theorem oF (M:Mk X.K C f) (F:bT X.prog X.w X.K X.mg X.base CX k f fd ps sp) (hr:dP (k + 1) X.A) (hg:Gl X x) (hm:X.mg x=some (.ref C)) (hb:Binds X.K fd ps ds) (hd:cS dvs ds) (hx:kI CX X E)
    (ha:PA X (e :: es) t) (hdb:(x == ("__debug__":Str))=false:=by decide) (he:cH (e :: es) X.env=(false,eW e X.env) :: cH es X.env:=by rfl) (hpl:(iw pos (cH es X.env)).any (·.1)=false:=by rfl) :
    PE X (.Call (.Name x p) (e :: es) [] pos) (Hr C sp dvs E t):=by
  intro pins s σ H Q I h
  refine gP (pX I hg hm ?_ hdb)
  refine jO (h₀:=X.base) I.ok.mod.kin M.kp (thn (ha pos pins s σ H _ I h) fun us s1 ⟨vs,H1,I1,r,q⟩=>⟨I1.kIn,?_⟩) he hpl
  exact Cs M F hr hb hd hx I1 r q
end
section
variable {X:Cx} {CX:CXT} {k:Nat} {f C:aa} {fd:bY} {ps ks:List Str} {sp:Sp} {E:XK} {x m:Str} {p pos apos kpos:Pos} {e o:cX} {es:List cX} {kws:List Kn} {te ta:TE} {t tk:TA} {nm:Option Str}
variable {g:List ae->List ae->List ae} {gV:List V->List V->List V}
end
structure bV (N P:List Str) (sc:j5):Prop where
  kind:sc.kind=.function
  co:sc.isCoroutine=false
  gen:sc.isGenerator=false
  nd:N.Nodup
  pre:N.take P.length=P
  par:∀ x∈P,sc.names.lookup x=some .local\/sc.names.lookup x=some .cell
  nofree:∀ y∈sc.names,y.2≠.free
theorem vh {kindOf:Str->Option jx} {x:Str}:∀ {binds:List (Str×ae)} {m:Str->Option ae},(∀ v,(x,v)∉binds)->BK kindOf binds m x=m x
  | [],_,_=>rfl
  | (n,v) :: r,m,h=>by
    unfold BK
    rw [vh fun w hw=>h w (ag _ hw)]
    split
    · have:x≠n:=by rintro rfl; exact h v aw
      simp [this]
    · rfl
theorem vi {kindOf:Str->Option jx} {x:Str}:∀ {binds:List (Str×ae)} {m:Str->Option ae},(∀ v,(x,v)∉binds)->BL kindOf binds m x=m x
  | [],_,_=>rfl
  | (n,v) :: r,m,h=>by
    unfold BL
    rw [vi fun w hw=>h w (ag _ hw)]
    split
    · rfl
    · have:x≠n:=by rintro rfl; exact h v aw
      simp [this]
theorem vj {kindOf:Str->Option jx} {x:Str} {v:ae}:∀ {P:List Str} {vs:List ae} {i:Nat} {m:Str->Option ae},P.Nodup->P[i]?=some x->vs[i]?=some v->kindOf x=some .local ->
    BK kindOf (P.zip vs) m x=some v
  | [],_,_,_,_,h,_,_=>by simp at h
  | _ :: _,[],_,_,_,_,h,_=>by simp at h
  | p :: P,w :: vs,0,m,nd,h1,h2,hk=>by
    simp at h1 h2; subst h1; subst h2
    show BK kindOf ((p,w) :: P.zip vs) m p=_
    unfold BK
    rw [vh fun v hv=>(cK.mp nd).1 (nj hv).1,if_pos hk]
    simp
  | p :: P,w :: vs,i + 1,m,nd,h1,h2,hk=>by
    show BK kindOf ((p,w) :: P.zip vs) m x=_
    unfold BK
    exact vj (i:=i) (cK.mp nd).2 (by simpa using h1) (by simpa using h2) hk
theorem vk {kindOf:Str->Option jx} {x:Str} {v:ae}:∀ {P:List Str} {vs:List ae} {i:Nat} {m:Str->Option ae},P.Nodup->P[i]?=some x->vs[i]?=some v->kindOf x≠some .local ->
    BL kindOf (P.zip vs) m x=some v
  | [],_,_,_,_,h,_,_=>by simp at h
  | _ :: _,[],_,_,_,_,h,_=>by simp at h
  | p :: P,w :: vs,0,m,nd,h1,h2,hk=>by
    simp at h1 h2; subst h1; subst h2
    show BL kindOf ((p,w) :: P.zip vs) m p=_
    unfold BL
    rw [vi fun v hv=>(cK.mp nd).1 (nj hv).1,if_neg hk]
    simp
  | p :: P,w :: vs,i + 1,m,nd,h1,h2,hk=>by
    show BL kindOf ((p,w) :: P.zip vs) m x=_
    unfold BL
    exact vk (i:=i) (cK.mp nd).2 (by simpa using h1) (by simpa using h2) hk
def start (N:List Str) (vs:List V):St:=vs.map some++cC (N.length - vs.length) none
def qU (CX:CXT) (P:aM) (w:bH) (K:af) (mg:Str->Option ae) (base:cB) (N:List Str) (qual:Str) (scope:j5) (f:aa) (cd:ae) (A:bP) (outer:List Env) (s:aj) (H:Hp) (E:XK):Cx where
  prog:=P
  w:=w
  K:=K
  mg:=mg
  base:=base
  A:=A.deeper (qV qual scope s.heap.objs.size f cd)
  N:=N
  s₀:=s
  H₀:=H
  env:=qV qual scope s.heap.objs.size f cd
  outer:=outer
  stack:=qV qual scope s.heap.objs.size f cd :: outer
  ex:=[]
  calm:=true
  fn:=fun _=>true
  pn:=[]
  xe:=fun e s'=>aU (aW P w) (A.deeper (qV qual scope s.heap.objs.size f cd)) (yy (qV qual scope s.heap.objs.size f cd) e) (fun _ s''=>CX outer H s E e s'') (fun e' s''=>CX outer H s E e' s'') s'
theorem xJ {sc:j5} {n:Nat} {x:Str} (h:sc.names.lookup x=some .cell):∃ c,(BM n sc.names []).lookup x=some c:=by
  have q:=lT sc.names n [] (.inl h)
  exact Option.isSome_iff_exists.mp q
theorem vm {CX:CXT} {P:aM} {w:bH} {K:af} {mg:Str->Option ae} {base:cB} {N ps:List Str} {qual:Str} {scope:j5} {f:aa} {cd:ae} {A:bP} {outer:List Env} {s s1:aj} {H:Hp} {E:XK} {us:List ae} {vs:List V}
    (S:bV N ps scope) (hd:A.handled=none) (e0:v9 P w K mg base A outer s H) (hl:vs.length=ps.length) (r:cS vs us)
    (x:InCallC s s.heap.objs.size (BK (qV qual scope s.heap.objs.size f cd).kindOf (ps.zip us) fun _=>none) (BM (s.heap.objs.size + 1) scope.names []) (BL (qV qual scope s.heap.objs.size f cd).kindOf (ps.zip us) fun _=>none) s1) :
    Inv (qU CX P w K mg base N qual scope f cd A outer s H E) [] (start N vs) H s1:=by
  have hpl:ps.length<=N.length:=by have:=congrArg jD S.pre; rw [cG] at this; omega
  obtain ⟨h1,tk,rfl,hk⟩:=x.done
  have noA:∀ b:aa,b∉(qU CX P w K mg base N qual scope f cd A outer s H E).ex:=fun b z=>absurd (show b∈([]:List aa) from z) (by simp)
  refine ⟨⟨e0.mod,S.kind,rfl,rfl,aC _,fun y z c h1 h2=>?_,fun y hy=>?_,fun y c _ h=>?_,fun _=>hd,Around.frames_deeper e0.frames,.inr ⟨rfl,rfl⟩,fun b z=>absurd z (noA b),e0.bs,e0.bsz,fun b _ _=>noA b,fun b z=>absurd z (noA b),e0.funs,e0.frf⟩,
    rfl,e0.bare,Un.kept hk,⟨_,x.toInCall.ns,fun i y v h1 h2 h3=>?_⟩,fun y c h=>⟨_,x.cell y c h⟩,e0.hok.fresh (aC _),fun y c h=>?_,fun p hp=>absurd (show p∈([]:List (aa×Obj)) from hp) (by simp),e0.hok.kept hk,?_⟩
  · exact name_of_addr x.apart (fq h1) (fq h2)
  · have hy:scope.names.lookup y=some .cell\/scope.names.lookup y=some .free:=hy
    rcases hy with hy | hy
    · exact xJ hy
    · exact absurd rfl (S.nofree _ (fq hy))
  · exact j6 (x.above y c (fq h))
  · have hi:i < vs.length:=by
      unfold start at h2
      by_cases hi:i < vs.length
      · exact hi
      · rw [dS (by simpa using hi)] at h2
        rw [mH] at h2
        split at h2 <;> cases h2
    have ha:vs[i]?=some v:=by
      unfold start at h2
      rw [eQ (by simpa using hi),bQ] at h2
      cases e:vs[i]? with
      | none=>rw [e] at h2; cases h2
      | some a=>rw [e] at h2; cases h2; rfl
    obtain ⟨u,hu,rv⟩:=r.get ha
    have hp:ps[i]?=some y:=by
      rw [<- S.pre,xn (by omega)]; exact h1
    have ndP:ps.Nodup:=by rw [<- S.pre]; exact S.nd.sublist (rM _ _)
    refine ⟨u,rv,?_⟩
    rcases S.par y (cw hp) with k | k
    · exact .inl ⟨k,vj ndP hp hu k⟩
    · obtain ⟨c,e⟩:=xJ (n:=s.heap.objs.size + 1) k
      refine .inr ⟨.inl k,c,e,?_⟩
      have q:=x.cell y c e
      rw [vk ndP hp hu (by show scope.names.lookup y≠_; rw [k]; decide)] at q
      exact q
  · exact e0.hok.fresh (j6 (x.above y c (fq h)))
  · unfold start
    show _=N.length
    rw [aE,ar,jo]
    omega
theorem Hs {CX:CXT} {P:aM} {w:bH} {K:af} {mg:Str->Option ae} {base:cB} {k:Nat} {f:aa} {name qual:Str} {params:Arguments} {body:List df} {scope:j5} {dV kV doc pm cdv ct oc:ae} {an od:Option aa}
    {osl:Array (Option ae)} {N ps:List Str} {sp:Sp} (lk:K.lookup f=some ⟨oc,od,.func (eF name qual params body scope dV kV doc pm an cdv ct),osl⟩) (hcd:iM K cdv qual=true) (S:bV N ps scope)
    (len:∀ vs H Q E,sp vs H Q E->vs.length=ps.length)
    (hbody:∀ (A:bP) (outer:List Env) (s:aj) (H:Hp) (vs:List V) (Q:VK) (E:XK),dP k (A.deeper (qV qual scope s.heap.objs.size f cdv))->sp vs H Q E ->
      ∃ t,PSs (qU CX P w K mg base N qual scope f cdv A outer s H E) body t/\t {nx:=fun _ H'=>Q .non H',rt:=Q} (start N vs) H) :
    bT P w K mg base CX (k + 1) f (eF name qual params body scope dV kV doc pm an cdv ct) ps sp:=by
  refine ⟨len,fun A outer s H args us vs Q E hr e0 hb r hsp=>?_⟩
  have hl:=len _ _ _ _ hsp
  have KX:K.In s.heap:=e0.mod.kin.keeps fun b o e=>(e0.bs b o e).1
  have lim:s.heap.NoLimit:=e0.mod.nolimit.keeps fun b o e=>(e0.bs b o e).1
  have hkind:∀ y∈ps.zip us,scope.names.lookup y.1=some .local\/(scope.names.lookup y.1=some .cell/\((BM (s.heap.objs.size + 1) scope.names []).lookup y.1).isSome=true):=fun ⟨n,v⟩ hy=>by
    rcases S.par n (nj hy).1 with q | q
    · exact .inl q
    · exact .inr ⟨q,lT _ _ _ (.inl q)⟩
  refine ET hr.depth (KX _ _ lk) rfl S.co S.gen rfl (yV KX hcd) (hb _ _ _ _ ?_)
  refine yW S.kind hkind fun env he s1 x=>?_
  subst he
  refine ⟨lim.keeps x.toInCall.keep,codeAny_func ?_⟩
  obtain ⟨t,ht,hq⟩:=hbody A outer s H vs Q E (hr.deeper _) hsp
  have I:Inv (qU CX P w K mg base N qual scope f cdv A outer s H E) [] (start N vs) H s1:=vm S hr.hd e0 hl r x
  refine d9 (ht [] s1 (start N vs) H _ I hq) (fun fl s' hs=>?_) fun e s' hs=>hs
  have fin:∀ {σ':St} {H':Hp} {v:V} {u:ae},Inv (qU CX P w K mg base N qual scope f cdv A outer s H E) [] σ' H' s'->RelV v u->Q v H'->CE outer P w H s Q u s':=
    fun {σ' H' v u} J rv q=>⟨v,H',J.os,J.bare,J.base,J.hok,rv,q⟩
  cases fl with
  | ret u =>
    obtain ⟨v,σ',H',J,rv,q⟩:=hs
    exact fin J rv q
  | next =>
    obtain ⟨σ',H',J,q⟩:=hs
    exact fin (v:=V.non) (u:=Value.none) J rfl q
  | brk =>
    obtain ⟨_,_,_,q⟩:=hs
    exact cO q
  | cont =>
    obtain ⟨_,_,_,q⟩:=hs
    exact cO q
end L2
namespace L2
open PySem PySem.Spec PyProof.Rows
section
variable {X:Cx} {x:Str} {p pos:Pos} {e:cX} {es:List cX} {t:TA} {id T:String} {r:List V->Hp->VK->Prop}
def tCB (r:List V->Hp->VK->Prop) (t:TA):TE:=fun σ H Q=>t σ H fun vs H1=>r vs H1 Q
theorem dA (hc:mC X (.builtin id) r) (hg:Gl X x) (hm:X.mg x=none) (hv:eP x=some (.builtin id)) (ha:PA X (e :: es) t) (hn:x≠"__name__":=by decide) (hdb:(x == ("__debug__":Str))=false:=by decide)
    (he:cH (e :: es) X.env=(false,eW e X.env) :: cH es X.env:=by rfl) (hpl:(iw pos (cH es X.env)).any (·.1)=false:=by rfl):PE X (.Call (.Name x p) (e :: es) [] pos) (tCB r t):=by
  intro pins s σ H Q I h
  refine gP (qM I hg hm hv ?_ hn hdb)
  exact PyProof.Rows.callWith_builtin1 (thn (ha pos pins s σ H _ I h) fun us s1 ⟨vs,H1,I1,r1,q1⟩=>hc pins s1 σ H1 vs us Q I1 r1 q1) he hpl
theorem iC (hc:mC X (.type T) r) (hg:Gl X x) (hm:X.mg x=none) (hv:eP x=some (.type T)) (ha:PA X (e :: es) t) (hn:x≠"__name__":=by decide) (hdb:(x == ("__debug__":Str))=false:=by decide)
    (he:cH (e :: es) X.env=(false,eW e X.env) :: cH es X.env:=by rfl) (hpl:(iw pos (cH es X.env)).any (·.1)=false:=by rfl):PE X (.Call (.Name x p) (e :: es) [] pos) (tCB r t):=by
  intro pins s σ H Q I h
  refine gP (qM I hg hm hv ?_ hn hdb)
  exact jg (thn (ha pos pins s σ H _ I h) fun us s1 ⟨vs,H1,I1,r1,q1⟩=>hc pins s1 σ H1 vs us Q I1 r1 q1) he hpl
end
end L2
namespace HT
open PySem PyProof.Rows
def lexLt:List Int->List Int->Bool
  | [],[]=>false
  | [],_ :: _=>true
  | _ :: _,[]=>false
  | x :: xs,y :: ys=>if x=y then lexLt xs ys else decide (x < y)
theorem jP (x y:Int) (xs ys:List Int):lexLt (x :: xs) (y :: ys)=if x=y then lexLt xs ys else decide (x < y):=rfl
theorem o4:lexLt [] []=false:=rfl
theorem nr (y:Int) (ys:List Int):lexLt [] (y :: ys)=true:=rfl
theorem nv (x:Int) (xs:List Int):lexLt (x :: xs) []=false:=rfl
theorem xK (A:bP) (s:aj) (a:Int) (t:Tok) (c:Int) (u:Tok):∃ e,SeqAt.EqAt A s (.int a t) (.int c u) e/\(e=true↔a=c):=
  ⟨(a == c),xo a t c u,by simp⟩
theorem Ct (A:bP) (s:aj) (a:Int) (t:Tok) (c:Int) (u:Tok) (prog:aM) (w:bH) (E:ae->aj->Prop) (Q:ae->aj->Prop) (h:Q (.bool (decide (a < c))) s) :
    aU (aW prog w) A (qW .Lt (.int a t) (.int c u)) Q E s:=
  (PyProof.Rows.lt_int h:aU (aW prog w) A (cU .Lt (.int a t) (.int c u)) Q E s)
section
open PySem.SeqAt
open PySem.AutoSeq1 (wpAny_loadPart')
open PySem.MeetsSeq PySem.MeetsSeq2 PySem.MeetsSeq3
theorem uK (l b:aa) (items items2:Array ae) (n n2:Nat) (dd dd2:Option aa) (sl sl2:Array (Option ae)) (ns ms:List Int) (hi:eV items.toList ns) (hj:eV items2.toList ms) :
    Meets (ig.«tuple.__lt__» ⟨[.ref l,.ref b],[]⟩)
      (fun _ R s=>s.heap.get? l=some {cls:=.type "tuple",dict:=dd,data:=.seq items n,slots:=sl}/\s.heap.get? b=some {cls:=.type "tuple",dict:=dd2,data:=.seq items2 n2,slots:=sl2} /\
        R (.ok (.ret (.bool (lexLt ns ms)))) s):=
  .of_wp fun prog w A R s h=>by
    obtain ⟨hp,g,d,tk,os⟩:=s; obtain ⟨hl,hb,h⟩:=h
    have f2:=ko
    have z1:items.size=ns.length:=by rw [<- hi.length]; simp
    have z2:items2.size=ms.length:=by rw [<- hj.length]; simp
    wp_walk using dH hl,dH hb,oU _ (fun rest b s'=>b.1=none/\s'=⟨hp,g,d,tk,os⟩/\∃ (vs ws:List ae) (ns' ms':List Int),rest=vs.zip ws /\
      eV vs ns'/\eV ws ms'/\ns'.length + items2.size=ms'.length + items.size/\R (.ok (.ret (.bool (lexLt ns' ms')))) ⟨hp,g,d,tk,os⟩) _
    case turn =>
      rintro ⟨y,x⟩ rest b s' ⟨hb',rfl,vs,ws,ns',ms',hz,hvi,hwi,hlen,hR⟩
      cases hvi with
      | nil=>rw [Cu] at hz; cases hz
      | cons a t hvi' =>
        cases hwi with
        | nil=>rw [BN] at hz; cases hz
        | cons c u hwi' =>
          rw [gb] at hz
          injection hz with hyx hrest
          injection hyx with hy hx
          subst hy hx
          rw [jP] at hR
          simp only [aP] at hlen
          obtain ⟨e,he,hiff⟩:=xK A.in1 ⟨hp,g,d,tk,os⟩ a t c u
          refine ai (he prog w _ _ ?_)
          cases e with
          | true =>
            rw [if_pos (hiff.mp rfl)] at hR
            wp_walk
            exact ⟨rfl,rfl,_,_,_,_,hrest,hvi',hwi',by omega,hR⟩
          | false =>
            rw [if_neg (fun q=>absurd (hiff.mpr q) bO)] at hR
            have hri:=Ct A.in1 ⟨hp,g,d,tk,os⟩ a t c u prog w
            wp_walk using hri
            exact ⟨_,rfl,by simpa using hR⟩
    case fin =>
      rintro ⟨b1,b2⟩ s' ⟨hb',rfl,vs,ws,ns',ms',hz,hvi,hwi,hlen,hR⟩
      simp only at hb'
      subst hb'
      have hv:lexLt ns' ms'=decide (items.size < items2.size):=by
        cases hvi with
        | nil =>
          cases hwi with
          | nil =>
            simp only [cM] at hlen
            rw [o4]
            exact (decide_eq_false (by omega)).symm
          | cons c u hw =>
            simp only [cM,aP] at hlen
            rw [nr]
            exact (decide_eq_true (by omega)).symm
        | cons a t hv =>
          cases hwi with
          | nil =>
            simp only [cM,aP] at hlen
            rw [nv]
            exact (decide_eq_false (by omega)).symm
          | cons c u hw =>
            rw [gb] at hz
            cases hz
      rw [hv] at hR
      wp_walk
      exact ⟨_,rfl,by simpa [oG] using hR⟩
    case h =>
      exact ⟨rfl,rfl,items.toList,items2.toList,ns,ms,rfl,hi,hj,by omega,h⟩
end
section
variable {prog:aM} {w:bH} {A:bP} {E:ae->aj->Prop} {s:aj}
theorem lt_tupInts {l b:aa} {items items2:Array ae} {ns ms:List Int} {Q:ae->aj->Prop} (hl:qL s.heap l items) (hb:qL s.heap b items2) (hi:eV items.toList ns) (hj:eV items2.toList ms)
    (hu:A.units < dM) (h:Q (.bool (lexLt ns ms)) s):aU (aW prog w) A (cU .Lt (.ref l) (.ref b)) Q E s:=by
  obtain ⟨⟨cls,dd,data,sl⟩,ho,hc,n,hd⟩:=id hl
  obtain ⟨⟨cls2,dd2,data2,sl2⟩,ho2,hc2,n2,hd2⟩:=id hb
  simp only at hc hd hc2 hd2
  subst hc hd hc2 hd2
  exact pz (op:=.Lt) ⟨_,ho,rfl⟩ ⟨_,ho2,rfl⟩ PySem.F.slot_tuple_lt PySem.F.entry_tuple_lt (PySem.F.args_tuple_lt_2 _ _) (uK l b items items2 n n2 dd dd2 sl sl2 ns ms hi hj)
    ⟨ho,ho2,show Value.bool (lexLt ns ms)≠Value.notImplemented/\Q (.bool (lexLt ns ms)) s from ⟨(fun x=>nomatch x),h⟩⟩ hu
theorem cat_tup {t b:aa} {vs ws:List ae} {Q:ae->aj->Prop} (ht:qL s.heap t vs.toArray) (hb:qL s.heap b ws.toArray) (hv:vs≠[])
    (h1:ws=[]->Q (.ref t) s) (h2:ws≠[]->Q (.ref s.heap.objs.size) {s with heap:=s.heap.push {cls:=.type "tuple",data:=.seq (vs++ws).toArray}})
    (hsz:vs.length + ws.length<=aA):aU (aW prog w) A (gX .Add (.ref t) (.ref b)) Q E s:=by
  obtain ⟨⟨cls,dd,data,sl⟩,ho,hc,n,hd⟩:=id ht
  obtain ⟨⟨cls2,dd2,data2,sl2⟩,ho2,hc2,n2,hd2⟩:=id hb
  simp only at hc hd hc2 hd2
  subst hc hd hc2 hd2
  have e:vs.toArray++ws.toArray=(vs++ws).toArray:=by simp
  by_cases hw:ws=[]
  · exact concat_meets ⟨_,ho,rfl⟩ ⟨_,ho2,rfl⟩ noFill_tuple_add seq_tuple_add wc vn (uL _ _)
      (tuple_addW1 t b vs.toArray ws.toArray n n2 dd dd2 sl sl2 (by simpa using hv) (by simp [hw])) ⟨ho,ho2,h1 hw⟩
  · refine concat_meets ⟨_,ho,rfl⟩ ⟨_,ho2,rfl⟩ noFill_tuple_add seq_tuple_add wc vn (uL _ _)
      (tuple_addW2 t b vs.toArray ws.toArray n n2 dd dd2 sl sl2 (by simpa using hv) (by simpa using hw) (by rw [av,av]; exact hsz)) ⟨ho,ho2,?_⟩
    rw [e]
    exact h2 hw
def sIx (n d:Nat):Option Int->Nat
  | none=>d
  | some v=>if v < 0 then (v + (n:Int)).toNat else min v.toNat n
theorem Iw (n d:Nat) (hd:d<=n) (o:Option Int):sIx n d o<=n:=by
  cases o with
  | none=>exact hd
  | some v =>
    show (if v < 0 then (v + (n:Int)).toNat else min v.toNat n)<=n
    by_cases hv:v < 0
    · rw [if_pos hv]; omega
    · rw [if_neg hv]; exact Nat.min_le_right _ _
theorem z5 (v:Int) (n d:Nat):(if v < 0 then max (v + (n:Int)) 0 else min v (n:Int))=((sIx n d (some v):Nat):Int):=by
  show (if v < 0 then max (v + (n:Int)) 0 else min v (n:Int))=(((if v < 0 then (v + (n:Int)).toNat else min v.toNat n):Nat):Int)
  by_cases hv:v < 0
  · simp only [if_pos hv]; omega
  · simp only [if_neg hv]; omega
theorem yX (lo hi:Option Int) (n:Nat):jy lo hi 1 (n:Int)=(((sIx n 0 lo:Nat):Int),((sIx n n hi:Nat):Int)):=by
  have h1:¬ ((1:Int) < 0):=by omega
  unfold jy
  simp only [h1,if_false]
  refine Prod.ext ?_ ?_
  · cases lo with
    | none=>rfl
    | some v=>exact z5 v n 0
  · cases hi with
    | none=>rfl
    | some v=>exact z5 v n n
theorem yY (i j:Nat):gJ (i:Int) (j:Int) 1=j - i:=by
  unfold gJ
  have h1:(1:Int) > 0:=by omega
  simp only [h1,if_true,Int.ediv_one]
  split <;> omega
theorem tQ {v:ae} {o:Option Int} {Q:Option Int->aj->Prop} (p:wg v o) (h:Q o s):aU (aW prog w) A (Builtin.Slice.slicePartIndex v) Q E s:=by
  cases p with
  | none=>exact slicePart_none h
  | int i t=>exact slicePart_int h
theorem qX {sl:aa} {vl vu:ae} {lo hi:Option Int} {n:Nat} {Q:Int×Int×Nat->aj->Prop} (hs:s.heap.IsSliceOf sl vl vu .none) (pl:wg vl lo) (pu:wg vu hi)
    (h:Q (((sIx n 0 lo:Nat):Int),1,sIx n n hi - sIx n 0 lo) s):aU (aW prog w) A (qb (.ref sl) (pure (n:Int))) Q E s:=by
  obtain ⟨os,hos,hcs,hds⟩:=id hs
  unfold qb Builtin.Slice.sliceFields
  refine ai (ai (j7 hos hds (x:=vl) rfl (ai (j7 hos hds (x:=vu) rfl (ai (j7 hos hds (x:=.none) rfl (aN ?_)))))))
  refine ai (slicePart_none ?_)
  show aU _ _ (if ((1:Int) == 0)=true then _ else _) _ _ s
  rw [if_neg (by decide)]
  refine ai (tQ pl (ai (tQ pu (ai (aN ?_)))))
  show aU _ _ (match jy lo hi 1 (n:Int) with | (lo,hi)=>pure (lo,(1:Int),gJ lo hi 1)) _ _ s
  rw [yX lo hi n]
  show aU _ _ (pure (((sIx n 0 lo:Nat):Int),(1:Int),gJ ((sIx n 0 lo:Nat):Int) ((sIx n n hi:Nat):Int) 1)) _ _ s
  rw [yY]
  exact aN h
theorem Cv (xs:Array ae) (i k:Nat):((hV k).filterMap fun (m:Nat)=>xs[((i:Int) + (m:Int) * 1).toNat]?).toArray=((xs.toList.drop i).take k).toArray:=by
  have e:(fun (m:Nat)=>xs[((i:Int) + (m:Int) * 1).toNat]?)=fun m=>xs[i + m]?:=by
    funext m
    have:((i:Int) + (m:Int) * 1).toNat=i + m:=by omega
    rw [this]
  rw [e]
  have:=pick_run xs i k
  rw [List.filterMap_map] at this
  have e2:((fun x=>xs[x]?) ∘ fun x=>i + x)=fun m=>xs[i + m]?:=rfl
  rw [e2] at this
  rw [this]
theorem getItem_tuple_cut {t sl:aa} {items:Array ae} {vl vu:ae} {lo hi:Option Int} {Q:ae->aj->Prop} (ht:qL s.heap t items) (hs:s.heap.IsSliceOf sl vl vu .none) (pl:wg vl lo) (pu:wg vu hi)
    (hw:¬ (sIx items.size 0 lo=0/\sIx items.size items.size hi=items.size))
    (h:Q (.ref s.heap.objs.size) {s with heap:=s.heap.push {cls:=.type "tuple",data:=.seq ((items.toList.drop (sIx items.size 0 lo)).take (sIx items.size items.size hi - sIx items.size 0 lo)).toArray}})
    (hsz:items.size<=aA):aU (aW prog w) A (rN (.ref t) (.ref sl)) Q E s:=by
  have htake:sizeOk (.seq ((items.toList.drop (sIx items.size 0 lo)).take (sIx items.size items.size hi - sIx items.size 0 lo)).toArray):=by
    show ((items.toList.drop (sIx items.size 0 lo)).take (sIx items.size items.size hi - sIx items.size 0 lo)).toArray.size<=aA
    rw [av,cG,mI,fk]
    omega
  have hj:sIx items.size items.size hi<=items.size:=Iw _ _ (aC _) hi
  obtain ⟨os,hos,hcs,hds⟩:=id hs
  have hTs:s.TypeIs (.ref sl) "slice":=⟨os,hos,hcs⟩
  unfold rN
  try with_reducible refine c7 ?_
  first | refine ai (aN ?_) | skip
  refine ai (wpAny_sequenceKey ht.typeIs (by decide) ?_)
  refine ai (wpAny_callSpecial?_slot (name:=jc "__getitem__") ht.typeIs iD
    (oV iD ht.typeIs entry_tuple_getitem ?_ (args_tuple_getitem _ _)))
  show aU _ _ (Builtin.Tuple.tupleItemsOf (.ref t) >>= _) _ _ s
  refine ai (tupleItemsOf_ ht ?_)
  refine ai (Cw hTs ?_)
  rw [if_pos (by decide)]
  refine ai (qX hs pl pu ?_)
  have hno:¬ ((((sIx items.size 0 lo:Nat):Int) == 0 && (1:Int) == 1 && (sIx items.size items.size hi - sIx items.size 0 lo) == items.size)=true):=by
    intro q
    rw [mJ,mJ] at q
    have q1:((sIx items.size 0 lo:Nat):Int)=0:=eq_of_beq q.1.1
    have q2:sIx items.size items.size hi - sIx items.size 0 lo=items.size:=eq_of_beq q.2
    exact hw ⟨by omega,by omega⟩
  show aU _ _ (if (((sIx items.size 0 lo:Nat):Int) == 0 && (1:Int) == 1 && (sIx items.size items.size hi - sIx items.size 0 lo) == items.size)=true then _ else _) _ _ s
  rw [if_neg hno,Cv]
  first
    | exact ai (m:=gQ _) (ij (aN ⟨_,rfl,aN h⟩) htake)
    | exact ai (m:=gQ _) (ij (ai (aN (aN ⟨_,rfl,aN h⟩))) htake)
    | exact ai (ai (m:=gQ _) (ij (aN (aN ⟨_,rfl,aN h⟩)) htake))
    | exact ai (ai (m:=gQ _) (ij (aN ⟨_,rfl,aN h⟩) htake))
end
end HT
namespace L2
open PySem PySem.Spec PyProof.Rows
abbrev TO:=St->Hp->(Option Int->Hp->Prop)->Prop
def PO (X:Cx) (e:Option cX) (t:TO):Prop:=
  ∀ (pins:List (aa×Obj)) (s:aj) (σ:St) (H:Hp) (Q:Option Int->Hp->Prop),Inv X pins σ H s->t σ H Q ->
    aU (aW X.prog X.w) X.A (evalPart e X.env) (fun u s'=>∃ o H',Inv X pins σ H' s'/\wg u o/\Q o H') X.xe s
def Fb:TO:=fun _ H Q=>Q none H
def tPart (t:TE):TO:=fun σ H Q=>t σ H fun x H1=>∃ i,x=.int i/\Q (some i) H1
theorem intsAre_of {ns:List Int}:∀ {us:List ae},cS (ns.map V.int) us->eV us ns:=by
  induction ns with
  | nil=>intro us r; rw [yz] at r; cases r; exact .nil
  | cons n ns ih =>
    intro us r
    rw [bR] at r
    cases r with
    | cons r1 r2 =>
      obtain ⟨t,e⟩:=r1
      subst e
      exact .cons n t (ih r2)
section
variable {X:Cx} {e:cX} {te:TE} {lo hi:Option cX} {tl th:TO} {pos p2:Pos}
theorem jG:PO X none Fb:=by
  intro pins s σ H Q I h
  rw [evalPart_none]
  exact aN ⟨none,H,I,.none,h⟩
theorem iN (h:PE X e te):PO X (some e) (tPart te):=by
  intro pins s σ H Q I hw
  rw [evalPart_some]
  refine thn (h pins s σ H _ I hw) fun u s1 ⟨x,H1,I1,r1,q1⟩=>?_
  obtain ⟨i,rfl,q⟩:=q1
  obtain ⟨t,rfl⟩:=r1
  exact ⟨some i,H1,I1,.int i t,q⟩
def SlR (X:Cx) (r:V->Option Int->Option Int->Hp->VK->Prop):Prop:=
  ∀ (pins:List (aa×Obj)) (s:aj) (σ:St) (H:Hp) (x:V) (v vl vu:ae) (lo hi:Option Int) (sl:aa) (Q:VK),Inv X pins σ H s->RelV x v->s.heap.IsSliceOf sl vl vu .none->wg vl lo->wg vu hi->r x lo hi H Q ->
    ∃ T id,Iy (.type T) "__getitem__"=pure (some (.builtin id))/\s.TypeIs v T/\aU (aW X.prog X.w) X.A (rN v (.ref sl)) (EP X pins σ Q) X.xe s
def tSl (r:V->Option Int->Option Int->Hp->VK->Prop) (te:TE) (tl th:TO):TE:=fun σ H Q=>te σ H fun x H1=>tl σ H1 fun l H2=>th σ H2 fun u H3=>r x l u H3 Q
theorem ip {r:V->Option Int->Option Int->Hp->VK->Prop} (hr:SlR X r) (he:PE X e te) (hl:PO X lo tl) (hu:PO X hi th):PE X (.Subscript e (.Slice lo hi none p2) pos) (tSl r te tl th):=by
  intro pins s σ H Q I h
  refine Iz (thn (he pins s σ H _ I h) fun v s1 ⟨x,H1,I1,r1,q1⟩=>?_)
  refine wpAny_Slice (thn (hl pins s1 σ H1 _ I1 q1) fun vl s2 ⟨l,H2,I2,pl,q2⟩=>thn (hu pins s2 σ H2 _ I2 q2) fun vu s3 ⟨u,H3,I3,pu,q3⟩=>?_)
  rw [evalPart_none]
  refine aN ?_
  have I4:Inv X pins σ H3 {s3 with heap:=s3.heap.push {cls:=.type "slice",data:=.fields #[vl,vu,.none]}}:=I3.kept (t':=s3.toks) fun b ob q=>aI _ q
  obtain ⟨T,id,hT,ht,hg⟩:=hr pins {s3 with heap:=s3.heap.push {cls:=.type "slice",data:=.fields #[vl,vu,.none]}} σ H3 x v vl vu l u s3.heap.objs.size Q I4 r1 (Ko ..) pl pu q3
  show aU (aW X.prog X.w) X.A (A5 e (.Slice lo hi none p2) v (.ref s3.heap.objs.size)) (EP X pins σ Q) X.xe {s3 with heap:=s3.heap.push {cls:=.type "slice",data:=.fields #[vl,vu,.none]}}
  exact tail_any (ops:=[.ref s3.heap.objs.size,v]) ht hT hg (by with_unfolding_all rfl)
def j8 (xs:List V) (lo hi:Option Int):List V:=(xs.drop (HT.sIx xs.length 0 lo)).take (HT.sIx xs.length xs.length hi - HT.sIx xs.length 0 lo)
theorem nA (xs:List V) (lo hi:Option Int):(j8 xs lo hi).length<=xs.length:=by
  unfold j8
  rw [cG,mI]
  omega
def rSlT (K:af):V->Option Int->Option Int->Hp->VK->Prop:=fun x lo hi H Q=>∃ a xs,x=.ref a/\SqT K H a xs /\
  ¬ (HT.sIx xs.length 0 lo=0/\HT.sIx xs.length xs.length hi=xs.length)/\∀ p,H p=none->Q (.ref p) (upd H p (.tup (j8 xs lo hi)))
theorem tR:SlR X (rSlT X.K):=by
  intro pins s σ H x v vl vu lo hi sl Q I rx hs pl pu h
  obtain ⟨a,xs,rfl,hx,hw,q⟩:=h
  cases rx
  obtain ⟨its,r,ht,hz⟩:=I.tuple hx
  have hlen:its.toArray.size=xs.length:=by rw [av]; exact r.length.symm
  refine ⟨"tuple",_,iD.lookup,ht.typeIs,?_⟩
  refine HT.getItem_tuple_cut ht hs pl pu (by rw [hlen]; exact hw) ?_ (by rw [hlen]; exact hz)
  rw [hlen]
  refine ⟨.ref s.heap.objs.size,_,I.laid (t':=s.toks) (o:=.tup (j8 xs lo hi)) (fun b ob q=>aI _ q) (aC _) ?_,rfl,q _ (I.hok.fresh (aC _))⟩
  exact ⟨c8 (nA xs lo hi) hz,_,(r.drop (HT.sIx xs.length 0 lo)).take (HT.sIx xs.length xs.length hi - HT.sIx xs.length 0 lo),Cy _ _⟩
def rCatT (K:af):R2:=fun x y H Q=>∃ a b xs ys,x=.ref a/\y=.ref b/\SqT K H a xs/\SqT K H b ys/\xs≠[]/\xs.length + ys.length<=aA /\
  (ys=[]->Q (.ref a) H)/\(ys≠[]->∀ p,H p=none->Q (.ref p) (upd H p (.tup (xs++ys))))
theorem cS.nil_iff {xs:List V} {us:List ae} (r:cS xs us):us=[]↔xs=[]:=by
  cases r with
  | nil=>simp
  | cons _ _=>simp
theorem oH:OpR X (gX .Add) (rCatT X.K):=by
  intro pins s σ H x y v u Q I rx ry h
  obtain ⟨a,b,xs,ys,rfl,rfl,ha,hb,hx,hz,q1,q2⟩:=h
  cases rx
  cases ry
  obtain ⟨its,r1,p1,_⟩:=I.tuple ha
  obtain ⟨its2,r2,p2,_⟩:=I.tuple hb
  refine HT.cat_tup p1 p2 (fun z=>hx (r1.nil_iff.mp z)) (fun z=>⟨.ref a,H,I,rfl,q1 (r2.nil_iff.mp z)⟩) (fun z=>?_) (by rw [<- r1.length,<- r2.length]; exact hz)
  refine ⟨.ref s.heap.objs.size,_,I.laid (t':=s.toks) (o:=.tup (xs++ys)) (fun b ob q=>aI _ q) (aC _) ?_,rfl,q2 (fun w=>z (r2.nil_iff.mpr w)) _ (I.hok.fresh (aC _))⟩
  exact ⟨by rw [aE]; exact hz,_,r1.append r2,Cy _ _⟩
end
end L2
namespace L2
open PySem PySem.Spec PyProof.Rows
def ixN (n:Nat) (i:Int):Option Nat:=if 0<=i then (if i < n then some i.toNat else none) else if -(n:Int)<=i then some (i + n).toNat else none
def atI {α:Type} (xs:List α) (i:Int):Option α:=(ixN xs.length i).bind fun j=>xs[j]?
theorem wj {n:Nat} {i:Int} {j:Nat} (h:ixN n i=some j):seqIndex? i n=some j/\j < n/\-(n:Int)<=i/\i < n:=by
  unfold ixN at h
  by_cases h0:0<=i
  · rw [if_pos h0] at h
    by_cases h1:i < n
    · rw [if_pos h1] at h
      have e:i.toNat=j:=cW h
      exact ⟨by rw [Fc h0 h1,e],by omega,by omega,h1⟩
    · rw [if_neg h1] at h; cases h
  · rw [if_neg h0] at h
    by_cases h1:-(n:Int)<=i
    · rw [if_pos h1] at h
      have e:(i + n).toNat=j:=cW h
      exact ⟨by rw [Cz (by omega) h1,e],by omega,h1,by omega⟩
    · rw [if_neg h1] at h; cases h
theorem wx {α:Type} {xs:List α} {i:Int} {v:α} (h:atI xs i=some v):∃ j,seqIndex? i xs.length=some j/\xs[j]?=some v/\j < xs.length/\-(xs.length:Int)<=i/\i < xs.length:=by
  unfold atI at h
  cases e:ixN xs.length i with
  | none=>rw [e] at h; cases h
  | some j =>
    rw [e] at h
    obtain ⟨h1,h2,h3,h4⟩:=wj e
    exact ⟨j,h1,h,h2,h3,h4⟩
theorem jh {α:Type} {xs:List α} {j:Nat} {v:α} (h:xs[j]?=some v):atI xs (j:Int)=some v:=by
  have hj:j < xs.length:=(aB.mp h).1
  have e:ixN xs.length (j:Int)=some j:=by
    unfold ixN
    rw [if_pos (by omega),if_pos (by omega)]; simp
  unfold atI; rw [e]; exact h
def Fd (b:cX):Prop:=∀ o i,xp b false o i=operate [o,i] (rN o i)
def IxR (X:Cx) (r:R2):Prop:=
  ∀ (value slice:cX) (pins:List (aa×Obj)) (s:aj) (σ:St) (H:Hp) (x y:V) (v u:ae) (Q:VK),Inv X pins σ H s->RelV x v->RelV y u->r x y H Q ->
    xp slice false v u=operate [v,u] (rN v u)->aU (aW X.prog X.w) X.A (A5 value slice v u) (EP X pins σ Q) X.xe s
def MtR (X:Cx) (id:String) (r:V->List V->Hp->VK->Prop):Prop:=
  ∀ (pins:List (aa×Obj)) (s:aj) (σ:St) (H:Hp) (x:V) (xs:List V) (v:ae) (us:List ae) (Q:VK),Inv X pins σ H s->RelV x v->cS xs us->r x xs H Q ->
    aU (aW X.prog X.w) X.A (vV (.builtin id) (v :: us)) (EP X pins σ Q) X.xe s
section
variable {X:Cx} {a b:cX} {ta tb:TE} {pos:Pos}
theorem bZ {r:R2} (hr:IxR X r) (ha:PE X a ta) (hb:PE X b tb) (hs:Fd b):PE X (.Subscript a b pos) (tOp r ta tb):=by
  intro pins s σ H Q I h
  exact Iz (Io ha hb I h fun v u s2 x y H2 I2 rx ry q=>hr a b pins s2 σ H2 x y v u Q I2 rx ry q (hs _ _))
def IA (K:af):R2:=fun x y H Q=>∃ p xs i v,x=.ref p/\y=.int i/\SqL K H p xs/\atI xs i=some v/\Q v H
def IB (K:af):R2:=fun x y H Q=>∃ p xs i v,x=.ref p/\y=.int i/\SqT K H p xs/\atI xs i=some v/\Q v H
def rIxS:R2:=fun x y H Q=>∃ z i c,x=.str z/\y=.int i/\z.length<=aA/\atI z.cps.toList i=some c/\Q (.str ⟨#[c]⟩) H
theorem dZ:IxR X (IA X.K):=by
  intro value slice pins s σ H x y v u Q I rx ry h hs
  obtain ⟨p,xs,i,z,rfl,rfl,hq,he,q⟩:=h
  cases rx
  obtain ⟨t,rfl⟩:=ry
  obtain ⟨its,r,pl,hz⟩:=I.list hq
  obtain ⟨j,h1,h2,h3,h4,h5⟩:=wx he
  obtain ⟨w,ew,rw'⟩:=r.get h2
  have hl:=r.length
  have hn:=qR
  have fin:EP X pins σ Q w s:=⟨z,H,I,rw',q⟩
  by_cases h0:0<=i
  · have hj:i.toNat=j:=by
      rw [Fc h0 h5] at h1
      exact cW h1
    exact item_listR pl.isList h0 (by omega) (by rw [hj]; simpa using ew) fin hs
  · have hj:(i + (its.toArray.size:Int)).toNat=j:=by
      rw [Cz (by omega) h4] at h1
      rw [av,<- hl]
      exact cW h1
    exact CA (x:=w) pl.isList.typeIs Kq.lookup
      (wpAny_getItem_list_neg (Q:=fun r s'=>r=w/\EP X pins σ Q r s') pl.isList (by omega) (by rw [av] <;> omega) (by omega) (by rw [hj]; simpa using ew) ⟨rfl,fin⟩) hs
theorem cF:IxR X (IB X.K):=by
  intro value slice pins s σ H x y v u Q I rx ry h hs
  obtain ⟨p,xs,i,z,rfl,rfl,hq,he,q⟩:=h
  cases rx
  obtain ⟨t,rfl⟩:=ry
  obtain ⟨its,r,pl,hz⟩:=I.tuple hq
  obtain ⟨j,h1,h2,h3,h4,h5⟩:=wx he
  obtain ⟨w,ew,rw'⟩:=r.get h2
  have hl:=r.length
  have hn:=qR
  have fin:EP X pins σ Q w s:=⟨z,H,I,rw',q⟩
  exact CA (x:=w) pl.typeIs slot_tuple_getitem.lookup
    (getItem_tuple (j:=j) (Q:=fun r s'=>r=w/\EP X pins σ Q r s') pl (by omega) (by omega) (by rw [av,<- hl]; exact h1) (by simpa using ew) ⟨rfl,fin⟩) hs
theorem CH:IxR X rIxS:=by
  intro value slice pins s σ H x y v u Q I rx ry h hs
  obtain ⟨z,i,c,rfl,rfl,hz,he,q⟩:=h
  obtain ⟨t,rfl⟩:=rx
  obtain ⟨t',rfl⟩:=ry
  obtain ⟨j,h1,h2,h3,h4,h5⟩:=wx he
  have hl:z.cps.toList.length=z.length:=by simp [Str.length]
  rw [hl] at h1 h4 h5
  have hn:=qR
  exact tail_any (typeIs_str s z t) slot_str_getitem.lookup (getItem_str (c:=c) (by
    have e1:decide (i < -(2 ^ 63:Int))=false:=decide_eq_false (by omega)
    have e2:decide (i ≥ 2 ^ 63)=false:=decide_eq_false (by omega)
    rw [e1,e2,Bool.or_false]) (by rw [h1]; simpa using h2) ⟨.str ⟨#[c]⟩,H,I.tok _,⟨_,rfl⟩,q⟩) hs
theorem yZ (its:List ae) (n j:Nat) (u:ae):cV (·.setIfInBounds j u) {cls:=.type "list",data:=.seq its.toArray n}={cls:=.type "list",data:=.seq (its.set j u).toArray n}:=by
  simp [cV]
theorem Inv.lst {pins:List (aa×Obj)} {σ:St} {H:Hp} {s:aj} {p:aa} {xs:List V} (I:Inv X pins σ H s) (h:H p=some (.lst xs)) :
    ∃ (its:List ae) (n:Nat),cS xs its/\s.heap.get? p=some {cls:=.type "list",data:=.seq its.toArray n}/\xs.length<=aA:=by
  obtain ⟨z,its,n,r,e⟩:=I.hok p _ h
  exact ⟨its,n,r,e,z⟩
theorem Inv.lstUpd {pins:List (aa×Obj)} {σ:St} {H:Hp} {s:aj} {p:aa} {xs ys:List V} {its its':List ae} {n n':Nat} {f:Obj->Obj} (I:Inv X pins σ H s) (h:H p=some (.lst xs))
    (ho:s.heap.get? p=some {cls:=.type "list",data:=.seq its.toArray n}) (hf:f {cls:=.type "list",data:=.seq its.toArray n}={cls:=.type "list",data:=.seq its'.toArray n'}) (r:cS ys its') (hz:ys.length<=aA) (t:Nat) :
    Inv X pins σ (upd H p (.lst ys)) {s with heap:=s.heap.update p f,toks:=t}:=by
  have e:(s.heap.update p f).get? p=some {cls:=.type "list",data:=.seq its'.toArray n'}:=by
    rw [oI f ho (by rw [hf] <;> rfl),hf]
  refine I.write (x:=p) (e:=p) (by rw [h]; trivial) (.inl rfl) (fun b u hb q=>(eN _ _ (eZ hb)).trans q) ⟨_,e⟩ ?_
  exact ⟨hz,its',n',r,e⟩
def rSetL:V->V->V->Hp->(Hp->Prop)->Prop:=fun o i v H Q=>∃ p xs k j,o=.ref p/\i=.int k/\H p=some (.lst xs)/\ixN xs.length k=some j/\Q (upd H p (.lst (xs.set j v)))
theorem tS:PSet X rSetL:=by
  intro pins s σ H o i v ov iv u Q I ro ri rv h
  obtain ⟨p,xs,k,j,rfl,rfl,hp,hj,q⟩:=h
  cases ro
  obtain ⟨t,rfl⟩:=ri
  obtain ⟨its,n,r,ho,hz⟩:=I.lst hp
  obtain ⟨h1,h2,h3,h4⟩:=wj hj
  have hl:=r.length
  have hn:=qR
  have I':Inv X pins σ (upd H p (.lst (xs.set j v))) {s with heap:=s.heap.update p (cV (·.setIfInBounds j u))}:=
    I.lstUpd hp ho (yZ its n j u) (r.set rv j) (by rw [Fe]; exact hz) s.toks
  by_cases h0:0<=k
  · have hk:k.toNat=j:=by
      rw [Fc h0 h4] at h1
      exact cW h1
    exact PySem.W.ki_setAt ho h0 (by omega) (by rw [av,<- hl]; exact h4) (by rw [hk]; exact ⟨_,I',q⟩)
  · have hk:(k + (its.toArray.size:Int)).toNat=j:=by
      rw [Cz (by omega) h3] at h1
      rw [av,<- hl]
      exact cW h1
    exact PySem.W.ki_setBack ho (by omega) (by rw [av,<- hl]; exact h3) (by omega) (by rw [hk]; exact ⟨_,I',q⟩)
theorem wy (lo hi:Option Int) (n:Nat):(j9 lo hi none n).1=((HT.sIx n 0 lo:Nat):Int)/\(j9 lo hi none n).2.1=((HT.sIx n n hi:Nat):Int)/\(j9 lo hi none n).2.2=1:=by
  refine ⟨?_,?_,rfl⟩
  · cases lo with
    | none=>simp [j9,HT.sIx]
    | some i =>
      simp only [j9,HT.sIx,BO,show (1:Int) > 0 by decide,if_true]
      by_cases h:i < 0
      · simp only [h,if_true] <;> omega
      · simp only [h,if_false] <;> omega
  · cases hi with
    | none=>simp [j9,HT.sIx]
    | some i =>
      simp only [j9,HT.sIx,BO,show (1:Int) > 0 by decide,if_true]
      by_cases h:i < 0
      · simp only [h,if_true] <;> omega
      · simp only [h,if_false] <;> omega
theorem uM (its:List ae) (lo hi:Option Int):slicePick its.toArray lo hi none=((its.drop (HT.sIx its.length 0 lo)).take (HT.sIx its.length its.length hi - HT.sIx its.length 0 lo)).toArray:=by
  obtain ⟨h1,h2,h3⟩:=wy lo hi its.toArray.size
  unfold slicePick
  rw [h1,h2,h3]
  simp only [sliceRange_one,pick_run,av] <;> rfl
def rSlL (K:af):V->Option Int->Option Int->Hp->VK->Prop:=fun x lo hi H Q=>∃ a xs,x=.ref a/\SqL K H a xs/\∀ p,H p=none->Q (.ref p) (upd H p (.lst (j8 xs lo hi)))
theorem qc:SlR X (rSlL X.K):=by
  intro pins s σ H x v vl vu lo hi sl Q I rx hs pl pu h
  obtain ⟨a,xs,rfl,hx,q⟩:=h
  cases rx
  obtain ⟨its,r,ht,hz⟩:=I.list hx
  have hlen:=r.length
  refine ⟨"list",_,Kq.lookup,ht.isList.typeIs,?_⟩
  refine wpAny_getItem_list_slice ht.isList hs pl pu .none (by simp) ?_ (by rw [av] <;> omega)
  rw [uM,<- hlen]
  refine ⟨.ref s.heap.objs.size,_,I.laid (t':=s.toks) (o:=.lst (j8 xs lo hi)) (fun b ob q=>aI _ q) (aC _) ?_,rfl,q _ (I.hok.fresh (aC _))⟩
  exact ⟨c8 (nA xs lo hi) hz,_,0,(r.drop (HT.sIx xs.length 0 lo)).take (HT.sIx xs.length xs.length hi - HT.sIx xs.length 0 lo),cv _ rfl⟩
theorem gY:mC X (.builtin "len") (fun xs H Q=>∃ p ys,xs=[.ref p]/\(SqL X.K H p ys\/SqT X.K H p ys)/\Q (.int ys.length) H):=by
  intro pins s σ H xs us Q I r h
  obtain ⟨p,ys,rfl,hq,q⟩:=h
  obtain ⟨u,rfl,rx⟩:=vals1 r
  cases rx
  have hn:=qR
  rcases hq with hq | hq
  · obtain ⟨its,r',pl,hz⟩:=I.list hq
    have hlen:=r'.length
    exact Calls.call_len_list pl.isList (by simp only [av] <;> omega) ⟨.int ys.length,H,I.tok _,⟨s.toks + 1,by rw [av,hlen]⟩,q⟩
  · obtain ⟨its,r',pl,hz⟩:=I.tuple hq
    have hlen:=r'.length
    exact len_tuple pl (by simp only [av] <;> omega) ⟨.int ys.length,H,I.tok _,⟨s.toks + 1,by rw [av,hlen]⟩,q⟩
theorem lU:mC X (.type "list") (fun xs H Q=>∃ p ys,xs=[.ref p]/\(SqL X.K H p ys\/SqT X.K H p ys)/\∀ l,H l=none->Q (.ref l) (upd H l (.lst ys))):=by
  intro pins s σ H xs us Q I r h
  obtain ⟨p,ys,rfl,hq,q⟩:=h
  obtain ⟨u,rfl,rx⟩:=vals1 r
  cases rx
  have fin:∀ (its:List ae),cS ys its->ys.length<=aA->∀ (h':cB) (c':Nat),(∀ b o',s.heap.get? b=some o'->h'.get? b=some o') ->
      h'.get? s.heap.objs.size=some {cls:=.type "list",dict:=none,data:=.seq its.toArray c',slots:=#[]}->EP X pins σ Q (.ref s.heap.objs.size) {s with heap:=h'}:=fun its r' hz h' c' kp e =>
    ⟨.ref s.heap.objs.size,_,I.laid (t':=s.toks) kp (aC _) (show d5 X.prog X.w _ h' _ (.lst ys) from ⟨hz,its,c',r',e⟩),rfl,q _ (I.hok.fresh (aC _))⟩
  rcases hq with hq | hq
  · obtain ⟨its,r',pl,hz⟩:=I.list hq
    have hlen:=r'.length
    obtain ⟨o,ho,hc,n,hd⟩:=pl.isList
    exact call_list_seq p (.inl rfl) ho hc hd (fun h' c' kp e=>fin its r' hz h' c' kp e) (by simp only [av] <;> omega)
  · obtain ⟨its,r',pl,hz⟩:=I.tuple hq
    have hlen:=r'.length
    obtain ⟨o,ho,hc,n,hd⟩:=pl
    exact call_list_seq p (.inr rfl) ho hc hd (fun h' c' kp e=>fin its r' hz h' c' kp e) (by simp only [av] <;> omega)
theorem uN:mC X (.type "tuple") (fun xs H Q=>∃ p ys,xs=[.ref p]/\((SqL X.K H p ys/\∀ l,H l=none->Q (.ref l) (upd H l (.tup ys)))\/(SqT X.K H p ys/\Q (.ref p) H))):=by
  intro pins s σ H xs us Q I r h
  obtain ⟨p,ys,rfl,h⟩:=h
  obtain ⟨u,rfl,rx⟩:=vals1 r
  cases rx
  rcases h with ⟨hq,q⟩ | ⟨hq,q⟩
  · obtain ⟨its,r',pl,hz⟩:=I.list hq
    have hlen:=r'.length
    refine call_tuple_list pl.isList (fun h' kp=>?_) (by simp only [av] <;> omega)
    have I1:Inv X pins σ H {s with heap:=h'}:=I.kept (t':=s.toks) kp
    have I2:Inv X pins σ (upd H h'.objs.size (.tup ys)) {s with heap:=h'.push {cls:=.type "tuple",data:=.seq its.toArray}}:=
      I1.laid (t':=s.toks) (fun b o e=>aI _ e) (aC _) (show d5 X.prog X.w _ _ _ (.tup ys) from ⟨hz,its,r',Cy _ _⟩)
    exact ⟨.ref h'.objs.size,_,I2,rfl,q _ (I1.hok.fresh (aC _))⟩
  · obtain ⟨its,r',pl,hz⟩:=I.tuple hq
    exact call_tuple_same pl ⟨.ref p,H,I,rfl,q⟩
def tyV (K:af) (T:String) (x:V) (H:Hp):Prop:=match x with
  | .str _=>T="str"
  | .int _=>T="int"
  | .ref p=>(T="list"/\∃ xs,SqL K H p xs)\/(T="tuple"/\∃ o,K.lookup p=some o/\o.cls=.type "tuple"/\o.dict=none) \/
      (T="dict"/\((∃ kvs,H p=some (.dK kvs))\/∃ kvs,H p=some (.dT kvs)))\/(T="set"/\∃ S n,H p=some (.set S n))
  | _=>False
theorem CI {pins:List (aa×Obj)} {σ:St} {H:Hp} {s:aj} {T:String} {x:V} {v:ae} (I:Inv X pins σ H s) (r:RelV x v) (ty:tyV X.K T x H) :
    s.TypeIs v T/\∀ a,v=.ref a->∃ ob,s.heap.get? a=some ob/\ob.dict=none:=by
  cases x with
  | str z =>
    obtain ⟨t,rfl⟩:=r
    cases (show T="str" from ty)
    exact ⟨typeIs_str s z t,fun _ e=>nomatch e⟩
  | int i =>
    obtain ⟨t,rfl⟩:=r
    cases (show T="int" from ty)
    exact ⟨typeIs_int s i t,fun _ e=>nomatch e⟩
  | ref p =>
    cases r
    rcases ty with ⟨rfl,xs,hq⟩ | ⟨rfl,o,hk,hc,hd⟩ | ⟨rfl,hk⟩ | ⟨rfl,S,n,hk⟩
    · obtain ⟨its,_,pl,_⟩:=I.list hq
      refine ⟨pl.isList.typeIs,fun a e=>?_⟩
      cases e
      obtain ⟨o,n,e,c,hd,_⟩:=pl
      exact ⟨o,e,hd⟩
    · refine ⟨⟨o,I.kIn p o hk,hc⟩,fun a e=>?_⟩
      cases e
      exact ⟨o,I.kIn _ o hk,hd⟩
    · have z:∃ o,s.heap.get? p=some o/\o.ExactDict:=by
        rcases hk with ⟨kvs,hk⟩ | ⟨kvs,hk⟩
        · obtain ⟨_,_,_,_,o,_,_,e,ex,_⟩:=I.hok p _ hk
          exact ⟨o,e,ex⟩
        · obtain ⟨_,_,_,_,o,_,_,e,ex,_⟩:=I.hok p _ hk
          exact ⟨o,e,ex⟩
      obtain ⟨o,e,ex⟩:=z
      refine ⟨⟨o,e,ex.1⟩,fun a e2=>?_⟩
      cases e2
      exact ⟨o,e,ex.2.1⟩
    · obtain ⟨o,_,_,_,e,ex,_⟩:=I.hok p _ hk
      refine ⟨⟨o,e,ex.1⟩,fun a e2=>?_⟩
      cases e2
      exact ⟨o,e,ex.2.1⟩
  | _=>exact cO ty
def tBM0 (K:af) (T:String) (r:V->List V->Hp->VK->Prop) (to:TE):TE:=fun σ H Q=>to σ H fun x H1=>tyV K T x H1/\r x [] H1 Q
def tBM (K:af) (T:String) (r:V->List V->Hp->VK->Prop) (to:TE) (t:TA):TE:=fun σ H Q=>to σ H fun x H1=>tyV K T x H1/\t σ H1 fun xs H2=>r x xs H2 Q
variable {o e:cX} {es:List cX} {to:TE} {t:TA} {name:Str} {apos cpos:Pos} {T id:String} {r:V->List V->Hp->VK->Prop}
theorem IC (pa:PlainAttrs T) (slot:Slot T name id) (hty:typeOf (.builtin id)=pure (.type "method_descriptor")) (hm:MtR X id r) (ho:PE X o to)
    (hbase:j0 o name X.env (eW o X.env)=eW o X.env:=by rfl) (hline:(apos.endLine == cpos.line)=true:=by rfl):PE X (.Call (.Attribute o name apos) [] [] cpos) (tBM0 X.K T r to):=by
  intro pins s σ H Q I h
  refine BP hbase hline (thn (ho pins s σ H _ I h) fun v s1 ⟨x,H1,I1,r1,ty,q1⟩=>?_)
  obtain ⟨h1,h2⟩:=CI I1 r1 ty
  exact ⟨T,id,pa,slot,hty,h1,h2,mR rfl (z6 (hm pins s1 σ H1 x [] v [] Q I1 r1 .nil q1))⟩
theorem jr (pa:PlainAttrs T) (slot:Slot T name id) (hty:typeOf (.builtin id)=pure (.type "method_descriptor")) (hm:MtR X id r) (ho:PE X o to) (ha:PA X (e :: es) t)
    (hbase:j0 o name X.env (eW o X.env)=eW o X.env:=by rfl)
    (hfew:((iw cpos (cH (e :: es) X.env)).all (fun x=>!x.1) && (lS cpos (iA [] X.env)).all (fun x=>x.1.isSome)
      && decide ((e :: es).length + ([]:List Kn).length + (if ([]:List Kn).isEmpty then 0 else 1) < 30))=true:=by rfl)
    (hline:(apos.endLine == cpos.line)=true:=by rfl) (hs:cH (e :: es) X.env=(false,eW e X.env) :: cH es X.env:=by rfl) (hplain:(iw cpos (cH es X.env)).any (·.1)=false:=by rfl) :
    PE X (.Call (.Attribute o name apos) (e :: es) [] cpos) (tBM X.K T r to t):=by
  intro pins s σ H Q I h
  refine wpAny_Call_method_late hbase hfew hline rfl (thn (ho pins s σ H _ I h) fun v s1 ⟨x,H1,I1,r1,ty,q1⟩=>?_)
  obtain ⟨h1,h2⟩:=CI I1 r1 ty
  refine ⟨T,id,pa,slot,hty,h1,h2,?_⟩
  have hA:=ha cpos pins s1 σ H1 _ I1 q1
  rw [hs] at hA |-
  refine mR (by show (false || (iw cpos (cH es X.env)).any (·.1))=false; rw [hplain] <;> rfl) (y7 ?_)
  exact thn hA fun us s2 ⟨vs,H2,I2,r2,q2⟩=>hm pins s2 σ H2 x vs v us Q I2 r1 r2 q2
end
end L2
namespace L2
open PySem PySem.Spec PyProof.Rows
def MtM (X:Cx) (id:String) (r:V->List V->Hp->VK->Prop):Prop:=
  ∀ (pins:List (aa×Obj)) (s:aj) (σ:St) (H:Hp) (x:V) (xs:List V) (v:ae) (us:List ae) (Q:VK),Inv X pins σ H s->RelV x v->cS xs us->r x xs H Q ->
    aU (aW X.prog X.w) X.A (vV (.builtin id) (v :: us)) (EP X pins σ Q) X.xe s
theorem cS.one:∀ {x:V} {us:List ae},cS [x] us->∃ u,us=[u]/\RelV x u
  | _,_,.cons r .nil=>⟨_,rfl,r⟩
theorem cS.two:∀ {x y:V} {us:List ae},cS [x,y] us->∃ u v,us=[u,v]/\RelV x u/\RelV y v
  | _,_,_,.cons r (.cons q .nil)=>⟨_,_,rfl,r,q⟩
theorem cS.zero:∀ {us:List ae},cS [] us->us=[]
  | _,.nil=>rfl
theorem cS.dropLast {xs:List V} {us:List ae} (h:cS xs us):cS xs.dropLast us.dropLast:=by
  induction h with
  | nil=>exact .nil
  | cons r t ih =>
    cases t with
    | nil=>exact .nil
    | cons q t'=>exact .cons r ih
theorem cS.eraseIdx:∀ {xs:List V} {us:List ae} (i:Nat),cS xs us->cS (xs.eraseIdx i) (us.eraseIdx i)
  | _,_,_,.nil=>.nil
  | _,_,0,.cons _ t=>t
  | _,_,i + 1,.cons r t=>.cons r (cS.eraseIdx i t)
theorem cS.reverse {xs:List V} {us:List ae} (h:cS xs us):cS xs.reverse us.reverse:=by
  induction h with
  | nil=>exact .nil
  | cons r t ih=>rw [CJ,CJ]; exact cS.append ih (.cons r .nil)
theorem y8 {α:Type} (l:List α):l.eraseIdx (l.length - 1)=l.dropLast:=by
  induction l with
  | nil=>rfl
  | cons a r ih =>
    cases r with
    | nil=>rfl
    | cons b r =>
      have e:(a :: b :: r).length - 1=((b :: r).length - 1) + 1:=by
        have h1:(a :: b :: r).length=r.length + 2:=rfl
        have h2:(b :: r).length=r.length + 1:=rfl
        omega
      rw [e,List.eraseIdx_cons_succ,ih]
      all_goals rfl
theorem vp {α:Type}:∀ (l:List α) (i:Nat),(l.eraseIdx i).length<=l.length
  | [],_=>aC _
  | _ :: _,0=>fb _
  | _ :: r,i + 1=>Nat.succ_le_succ (vp r i)
section
variable {X:Cx} {pins:List (aa×Obj)} {σ:St} {H:Hp} {s:aj} {l b:aa} {xs ys zs:List V}
theorem Inv.lset {its its':List ae} {n:Nat} {f:Array ae->Array ae} {t':Nat} (I:Inv X pins σ H s) (hH:H l=some (.lst xs))
    (e:s.heap.get? l=some {cls:=.type "list",data:=.seq its.toArray n}) (hf:f its.toArray=its'.toArray) (hv:cS ys its') (hz:ys.length<=aA) :
    Inv X pins σ (upd H l (.lst ys)) {s with heap:=s.heap.update l (cV f),toks:=t'}:=by
  have q:=PySem.IsL.update e f
  rw [hf] at q
  refine I.write (x:=l) (e:=l) (by rw [hH]; exact trivial) (.inl rfl) (fun b' u hb hu=>(eN s.heap (cV f) (eZ hb)).trans hu) ⟨_,q⟩ ?_
  exact ⟨hz,its',_,hv,q⟩
theorem Inv.lnew {its:List ae} {t':Nat} (I:Inv X pins σ H s) (hv:cS ys its) (hz:ys.length<=aA) :
    Inv X pins σ (upd H s.heap.objs.size (.lst ys)) {s with heap:=s.heap.push {cls:=.type "list",data:=.seq its.toArray},toks:=t'}:=
  I.laid (fun _ _ q=>aI _ q) (aC _) ⟨hz,its,0,hv,cv _ rfl⟩
theorem Inv.fresh (I:Inv X pins σ H s):H s.heap.objs.size=none:=I.hok.fresh (aC _)
theorem Inv.lstM (I:Inv X pins σ H s) (hH:H l=some (.lst xs)):xs.length<=aA/\∃ (its:List ae) (n:Nat),cS xs its/\xs.length=its.length/\s.heap.get? l=some {cls:=.type "list",data:=.seq its.toArray n}:=by
  obtain ⟨z,its,n,r,e⟩:=I.hok l _ hH
  exact ⟨z,its,n,r,r.length,e⟩
theorem CK {n:Nat} (h:n<=aA):jL n=false:=by
  unfold jL
  exact decide_eq_false (by omega)
end
section
variable {X:Cx}
def qe:V->List V->Hp->VK->Prop:=fun x vs H Q=>∃ l xs y,x=.ref l/\vs=[y]/\H l=some (.lst xs)/\xs.length < aA/\Q .non (upd H l (.lst (xs++[y])))
theorem e7:MtM X "list.append" qe:=by
  intro pins s σ H x vs v us Q I rx rv h
  obtain ⟨l,xs,y,rfl,rfl,hH,hz,q⟩:=h
  cases rx
  obtain ⟨u,rfl,ru⟩:=rv.one
  obtain ⟨z,its,n,r,hl,e⟩:=I.lstM hH
  refine pA F.slot_list_append ⟨_,e,rfl⟩ F.entry_list_append (F.args_list_append_2 _ _) (PySem.list_append l its.toArray n u (by rw [av]; omega)) ⟨e,?_⟩
  refine ⟨.non,_,I.lset (its':=its++[u]) hH e (by simp) (r.append (.cons ru .nil)) ?_,rfl,q⟩
  rw [aE,y9]
  omega
def Ff:V->List V->Hp->VK->Prop:=fun x vs H Q=>∃ l b xs zs,x=.ref l/\vs=[.ref b]/\H l=some (.lst xs)/\H b=some (.lst zs)/\xs.length + zs.length<=aA/\Q .non (upd H l (.lst (xs++zs)))
theorem mt_extend:MtM X "list.extend" Ff:=by
  intro pins s σ H x vs v us Q I rx rv h
  obtain ⟨l,b,xs,zs,rfl,rfl,hH,hB,hz,q⟩:=h
  cases rx
  obtain ⟨u,rfl,ru⟩:=rv.one
  cases ru
  obtain ⟨z,its,n,r,hl,e⟩:=I.lstM hH
  obtain ⟨z2,its2,n2,r2,hl2,e2⟩:=I.lstM hB
  have hsz:its.toArray.size + its2.toArray.size<=aA:=by rw [av,av]; omega
  have hlong:¬ (!its.toArray.isEmpty && jL (its.toArray.size + its2.toArray.size))=true:=by
    rw [CK hsz,Bool.and_false]
    exact bO
  refine pA F.slot_list_extend ⟨_,e,rfl⟩ F.entry_list_extend (F.args_list_extend_2 _ _)
    (AutoSeq1.list_extend_list_list_0 l its.toArray n b its2.toArray n2 hlong (by rw [av]; omega) (by omega)) ⟨e,e2,?_⟩
  refine ⟨.non,_,I.lset (its':=its++its2) hH e (by simp) (r.append r2) ?_,rfl,q⟩
  rw [aE]
  omega
def rPop:V->List V->Hp->VK->Prop:=fun x vs H Q=>∃ l xs y,x=.ref l/\vs=[]/\H l=some (.lst xs)/\xs[xs.length - 1]?=some y/\Q y (upd H l (.lst xs.dropLast))
theorem ID:MtM X "list.pop" rPop:=by
  intro pins s σ H x vs v us Q I rx rv h
  obtain ⟨l,xs,y,rfl,rfl,hH,hy,q⟩:=h
  cases rx
  have hus:=rv.zero
  subst hus
  obtain ⟨z,its,n,r,hl,e⟩:=I.lstM hH
  obtain ⟨u,hu,ru⟩:=r.get hy
  have hy':its.toArray[its.toArray.size - 1]?=some u:=by
    show its.toArray[its.length - 1]?=some u
    rw [<- yA,<- hl]
    exact hu
  refine pA F.slot_list_pop ⟨_,e,rfl⟩ F.entry_list_pop (F.args_list_pop_1 _) (MeetsSeq.list_pop_last l its.toArray n u hy' (by rw [av]; omega)) ⟨e,?_⟩
  refine ⟨y,_,I.lset (its':=its.dropLast) hH e ?_ r.dropLast ?_,ru,q⟩
  · show its.toArray.eraseIdxIfInBounds (its.toArray.size - 1)=its.dropLast.toArray
    rw [av,sh,y8]
  · rw [jE]
    omega
def IE:V->List V->Hp->VK->Prop:=fun x vs H Q=>∃ l xs i k y,x=.ref l/\vs=[.int i]/\H l=some (.lst xs)/\-(2 ^ 63)<=i/\i < 2 ^ 63/\seqIndex? i xs.length=some k/\xs[k]?=some y/\Q y (upd H l (.lst (xs.eraseIdx k)))
theorem CO:MtM X "list.pop" IE:=by
  intro pins s σ H x vs v us Q I rx rv h
  obtain ⟨l,xs,i,k,y,rfl,rfl,hH,h1,h2,hk,hy,q⟩:=h
  cases rx
  obtain ⟨u,rfl,ru⟩:=rv.one
  obtain ⟨t,rfl⟩:=ru
  obtain ⟨z,its,n,r,hl,e⟩:=I.lstM hH
  obtain ⟨w,hw,rw'⟩:=r.get hy
  refine pA F.slot_list_pop ⟨_,e,rfl⟩ F.entry_list_pop (F.args_list_pop_2 _ _)
    (MeetsSeq.list_pop_at l its.toArray n i t k w (fitsIndex_both h1 h2) (by rw [av,<- hl]; exact hk) (by rw [<- yA]; exact hw) (by rw [av]; omega)) ⟨e,?_⟩
  refine ⟨y,_,I.lset (its':=its.eraseIdx k) hH e ?_ (r.eraseIdx k) ?_,rw',q⟩
  · show its.toArray.eraseIdxIfInBounds k=(its.eraseIdx k).toArray
    rw [sh]
  · have:=vp xs k
    omega
def rCat:R2:=fun x y H Q=>∃ l b xs zs,x=.ref l/\y=.ref b/\H l=some (.lst xs)/\H b=some (.lst zs)/\xs.length + zs.length<=aA/\∀ p,H p=none->Q (.ref p) (upd H p (.lst (xs++zs)))
theorem CQ:OpR X (gX .Add) rCat:=by
  intro pins s σ H x y v u Q I rx ry h
  obtain ⟨l,b,xs,zs,rfl,rfl,hH,hB,hz,q⟩:=h
  cases rx
  cases ry
  obtain ⟨z,its,n,r,hl,e⟩:=I.lstM hH
  obtain ⟨z2,its2,n2,r2,hl2,e2⟩:=I.lstM hB
  refine PySem.P.add_list e e2 ?_ (by rw [av,av]; omega)
  have ea:its.toArray++its2.toArray=(its++its2).toArray:=by simp
  rw [ea]
  exact ⟨.ref _,_,I.lnew (t':=s.toks) (r.append r2) (by rw [aE]; omega),rfl,q _ I.fresh⟩
end
section
variable {prog:aM} {w:bH} {A:bP} {E:ae->aj->Prop} {s:aj}
end
section
variable {X:Cx}
end
end L2
namespace Att
open PySem PySem.W PySem.Calls PyProof.Rows
theorem ints_of_wellAll {P:Params} {h:cB}:∀ (ns:List Int) (vs:List ae),WellAll P h vs (ns.map WData.int)->eV vs ns:=by
  intro ns
  induction ns with
  | nil =>
    intro vs w
    rw [yz] at w
    cases w
    exact .nil
  | cons n ns ih =>
    intro vs w
    rw [bR] at w
    cases w with
    | cons a b =>
      cases a
      exact .cons _ _ (ih _ b)
theorem script_of {l:OpenLaw} {n:Nat} (hn:l.most=some n) {P:Params} {h:cB} {args:List WData} {vals:List ae}
    (hpre:l.row.toRowW.claim.pre args=true) (hwl:WellAll P h vals args) :
    ∃ a vs ns,vals=[Value.ref a]/\args=[WData.list (ns.map WData.int)]/\h.get? a=some {cls:=.type "list",data:=.seq vs.toArray}/\eV vs ns/\ns.length<=n:=by
  have hsh:WShape.hasAll [] args [.list .int]=true:=(pre_splitW hpre).1
  have hc:l.pre.holds [] {args:=args}=true:=(pre_splitW hpre).2
  obtain ⟨d,r,rfl,h1,h2⟩:=hasAllW_cons hsh
  obtain rfl:=hasAllW_nil h2
  obtain ⟨xs,rfl,h3⟩:=hasW_list h1
  obtain ⟨ns,rfl⟩:=items_int h3
  have hlen:ns.length<=n:=by
    unfold OpenLaw.pre at hc
    have h4:(WTm.not (.lt (.lit (.int (n:Int))) (.len (.arg 0)))).holds [] {args:=[.list (ns.map .int)]}=true:=by
      have h4:=(holds_andW hc).1
      rw [hn] at h4
      exact h4
    have h5:=condW_of h4 (w_not (w_lt w_lit (w_len_list (w_arg rfl))))
    rw [ar] at h5
    refine Nat.le_of_not_lt fun q=>?_
    have q':(n:Int) < ((ns.length:Nat):Int):=by omega
    first
      | (rw [decide_eq_true q'] at h5; exact absurd h5 (by decide))
      | (simp at h5; omega)
  cases hwl with
  | cons w1 w2 =>
    cases w2
    cases w1 with
    | list ho hall=>exact ⟨_,_,ns,rfl,rfl,ho,ints_of_wellAll ns _ hall,hlen⟩
theorem post_true (l:OpenLaw) (args:List WData):l.row.toRowW.claim.post args (.bool true) args=true:=
  postW_of (r:=l.row.toRowW) (X:=(true == true))
    (show Kr [] (.bool true) .bool=true by first | rfl | decide | simp [Kr,WShape.arms,WShape.armsAll])
    (show (WTm.eq .res (.lit (.bool true))).value [] {args:=args,res:=some (.bool true),after:=args}=some (.bool (true == true)) from w_eq_bool (w_res rfl) w_lit) rfl
section
variable {prog:aM} {w:bH} {A:bP} {E:ae->aj->Prop} {s:aj} {K:Frag}
end
end Att
namespace L2
open PySem PySem.Spec PyProof.Rows
theorem vt:∀ {vs:List ae} {ns:List Int},eV vs ns->cS (ns.map V.int) vs
  | _,_,.nil=>.nil
  | _,_,.cons n t h=>.cons ⟨t,rfl⟩ (vt h)
def Only (H:Hp):Prop:=∀ b,H b=none\/∃ o xs,H b=some (.frz o (.lst xs))
theorem CT {P:aM} {w:bH} {K:af} {mg mb:Str->Option ae} {CX:CXT} {k:Nat} {fa a:aa} {fd:bY} {x:Str} {sp:Sp} {s₁:aj} {vs:List ae} {ns:List Int}
    (KX:K.In s₁.heap) (hns:s₁.heap.Ns bL mg) (hb:s₁.heap.Ns Ie mb) (hbb:∀ x:Str,x≠"__name__"->mb x=eP x) (hlim:s₁.heap.NoLimit) (hg:s₁.gens=#[])
    (ha:s₁.heap.get? a=some {cls:=.type "list",data:=.seq vs.toArray}) (hi:eV vs ns) (hl:ns.length<=aA) (hr:dP k uO)
    (F:∀ base:cB,K.In base->base.Ns bL mg->bT P w K mg base CX k fa fd [x] sp) (hbind:∀ (s:aj) (u:ae),rL s fd ⟨[u],[]⟩ [(x,u)])
    (hsp:∀ H:Hp,Only H->SqL K H a (ns.map V.int)->sp [.ref a] H (fun v _=>v=.bl true) fun _ _ _=>False)
    (hCX:∀ H e s',CX [] H s₁ (fun _ _ _=>False) e s'->False) :
    m5 (aW P w) uO (.call (.ref fa) ⟨[.ref a],[]⟩) (fun r s'=>r=.ok (.ret (.bool true))/\OldK s₁.heap s'.heap/\s'.os=s₁.os/\mV s'.gens) s₁:=by
  have rv:=vt hi
  have lenV:=hi.length
  -- from an abstract heap in which nothing but the script may be tracked
  have core:∀ H:Hp,Only H->SqL K H a (ns.map V.int)->HOk P w H s₁.heap->(∀ b,H b≠none->b=a)->(H a≠none->K.lookup a=none) ->
      m5 (aW P w) uO (.call (.ref fa) ⟨[.ref a],[]⟩) (fun r s'=>r=.ok (.ret (.bool true))/\OldK s₁.heap s'.heap/\s'.os=s₁.os/\mV s'.gens) s₁:=by
    intro H hO hS hok hA hK
    have base_of:∀ {b:aa} {o:Obj},s₁.heap.get? b=some o->H b=none->(vR s₁.heap H).get? b=some o:=fun e n=>B1 e n
    have noA:∀ {b:aa} {o:Obj} {es:Array DictEntry} {ep:Nat},s₁.heap.get? b=some o->o.data=.dict es ep->H b=none:=fun {b o es ep} e d=>by
      cases q:H b with
      | none=>rfl
      | some u =>
        have e':b=a:=hA b (by rw [q]; simp)
        subst e'
        rw [ha] at e; cases e
        have d':Data.seq vs.toArray _=Data.dict es ep:=d
        cases d'
    have nsK:∀ {b:aa} {m:Str->Option ae},s₁.heap.Ns b m->(vR s₁.heap H).Ns b m:=fun {b m} ⟨o,es,ep,e,d,r⟩=>⟨o,es,ep,base_of e (noA e d),d,r⟩
    have hKb:K.In (vR s₁.heap H):=fun b o e=>base_of (KX b o e) (by
      cases q:H b with
      | none=>rfl
      | some u =>
        have e':b=a:=hA b (by rw [q]; simp)
        subst e'
        rw [hK (by rw [q]; simp)] at e; cases e)
    have hM:Mod K mg (vR s₁.heap H):=⟨hKb,nsK hns,⟨mb,nsK hb,hbb⟩,let ⟨mc,h1,h2⟩:=hlim; ⟨mc,nsK h1,h2⟩⟩
    have e0:v9 P w K mg (vR s₁.heap H) uO [] s₁ H:=⟨rfl,hM,fun b o e=>EZ e,Nat.le_of_eq (AV _ _),trivial,fun b hb=>absurd (show b∈([]:List aa) from hb) (by simp),hok,.of_eq hg⟩
    refine kX ((F _ hKb (nsK hns)).run uO [] s₁ H ⟨[.ref a],[]⟩ [.ref a] [.ref a] _ _ hr e0 (hbind s₁ (.ref a)) (.cons rfl .nil) (hsp H hO hS)) fun r s' h=>?_
    cases r with
    | error e=>exact (hCX H e s' h).elim
    | ok fl =>
      cases fl with
      | next=>exact cO h
      | brk=>exact cO h
      | cont=>exact cO h
      | ret u =>
        obtain ⟨v,H',os,bare,un,hok',r',q⟩:=h
        have q':v=.bl true:=q
        subst q'
        obtain rfl:u=Value.bool true:=r'
        refine ⟨rfl,OldK.of_keep fun b o e=>?_,os,bare⟩
        cases q:H b with
        | none=>exact un.keep b o e q (by intro z; exact absurd (show b∈([]:List aa) from z) (by simp)) (by simp)
        | some u =>
          rcases hO b with z | ⟨ob,xs,z⟩
          · rw [q] at z; cases z
          · have z2:=un.frzs b ob _ z
            obtain ⟨e1,_⟩:=hok b _ z
            obtain ⟨e2,_⟩:=hok' b _ z2
            rw [e] at e1; cases e1
            exact e2
  cases hk:K.lookup a with
  | some o =>
    -- the script is one of the module's own objects
    have e:=KX a o hk
    rw [ha] at e
    cases e
    refine core (fun _=>none) (fun _=>.inl rfl) (.inr ⟨_,vs.toArray,_,hk,rfl,rfl,rfl,by rw [av,lenV]; exact hl,by simpa using rv⟩) (fun b u z=>by have z':(none:Option HO)=some u:=z; cases z') (fun b z=>absurd rfl z) fun z=>absurd rfl z
  | none =>
    refine core (fun b=>if b=a then some (.frz {cls:=.type "list",data:=.seq vs.toArray} (.lst (ns.map V.int))) else none) (fun b=>?_) (.inl (.inr ⟨{cls:=.type "list",data:=.seq vs.toArray},if_pos rfl⟩)) (fun b u z=>?_) (fun b z=>?_) fun _=>hk
    · by_cases hb:b=a
      · exact .inr ⟨_,_,if_pos hb⟩
      · exact .inl (if_neg hb)
    · by_cases hb:b=a
      · have z':=(if_pos hb).symm.trans z
        cases z'
        subst hb
        exact ⟨ha,by rw [ar]; exact hl,vs,_,rv,ha⟩
      · have z':=(if_neg hb).symm.trans z
        cases z'
    · by_cases hb:b=a
      · exact hb
      · exact absurd (if_neg hb) z
end L2
namespace L2
open PySem PySem.Spec PyProof.Rows
end L2
namespace L2
open PySem PySem.Spec PyProof.Rows
def fY (s:df) (j:Nat):df:=match s with
  | .ClassDef _ _ _ body _ _ _ _ _ _ _=>body.getD j (.Pass ⟨0,0,0,0⟩)
  | _=>.Pass ⟨0,0,0,0⟩
def jH (s:df):Arguments:=match s with
  | .FunctionDef _ a _ _ _ _ _ _ _ _=>a
  | _=>{posonlyargs:=[],args:=[],vararg:=none,kwonlyargs:=[],kw_defaults:=[],kwarg:=none,defaults:=[]}
def iq (s:df):List df:=match s with
  | .FunctionDef _ _ b _ _ _ _ _ _ _=>b
  | _=>[]
def aQ (s:df):j5:=match s with
  | .FunctionDef _ _ _ _ _ _ sc _ _ _=>sc
  | _=>{kind:=.function,names:=[],isGenerator:=false,isCoroutine:=false}
abbrev CX0:CXT:=fun _ _ _ _ _ _=>False
abbrev E0:XK:=fun _ _ _=>False
theorem cm {X:Cx}:kI CX0 X E0:=fun _ _ _ _ _ _ _ h=>h.elim
structure Fun (K:af) (x qual:Str) (st:df) (f:aa) (fd:bY):Prop where
  ex:∃ (oc:ae) (od:Option aa) (kV doc pm:ae) (an:Option aa) (cdv ct:ae) (osl:Array (Option ae)),
    fd=eF x qual (jH st) (iq st) (aQ st) .none kV doc pm an cdv ct/\K.lookup f=some ⟨oc,od,.func fd,osl⟩/\iM K cdv qual=true
  kp:fK K (.ref f)=true
section
variable {P:aM} {w:bH} {K:af} {mg:Str->Option ae} {base:cB}
theorem Fun.ok {x qual:Str} {st:df} {f:aa} {fd:bY} {N ps:List Str} {k:Nat} {sp:Sp} (F:Fun K x qual st f fd) (S:bV N ps (aQ st)) (len:∀ vs H Q E,sp vs H Q E->vs.length=ps.length)
    (hbody:∀ (cdv:ae) (A:bP) (outer:List Env) (s:aj) (H:Hp) (vs:List V) (Q:VK) (E:XK),dP k (A.deeper (qV qual (aQ st) s.heap.objs.size f cdv))->sp vs H Q E ->
      ∃ t,PSs (qU CX0 P w K mg base N qual (aQ st) f cdv A outer s H E).nox (iq st) t/\t {nx:=fun _ H'=>Q .non H',rt:=Q} (start N vs) H):bT P w K mg base CX0 (k + 1) f fd ps sp:=by
  obtain ⟨oc,od,kV,doc,pm,an,cdv,ct,osl,rfl,lk,hcd⟩:=F.ex
  refine Hs lk hcd S len fun A outer s H vs Q E hr hsp=>?_
  obtain ⟨t,h,q⟩:=hbody cdv A outer s H vs Q E hr hsp
  exact ⟨t,h.nox,q⟩
theorem Fun.binds {x qual:Str} {st:df} {f:aa} {fd:bY} {ps:List Str} (F:Fun K x qual st f fd)
    (h:∀ (kV doc pm:ae) (an:Option aa) (cdv ct:ae) (us:List ae),us.length=ps.length->yS (eF x qual (jH st) (iq st) (aQ st) .none kV doc pm an cdv ct) ⟨us,[]⟩=pure (ps.zip us)):Binds K fd ps []:=by
  obtain ⟨oc,od,kV,doc,pm,an,cdv,ct,osl,rfl,lk,hcd⟩:=F.ex
  exact .all (h kV doc pm an cdv ct)
theorem CV {x qual:Str} {st:df} {f:aa} {oc:ae} {od an:Option aa} {osl:Array (Option ae)} {kV doc pm cdv ct:ae} (l:K.lookup f=some ⟨oc,od,.func (eF x qual (jH st) (iq st) (aQ st) .none kV doc pm an cdv ct),osl⟩)
    (c:iM K cdv qual=true) (k:fK K (.ref f)=true):Fun K x qual st f (eF x qual (jH st) (iq st) (aQ st) .none kV doc pm an cdv ct):=⟨⟨oc,od,kV,doc,pm,an,cdv,ct,osl,rfl,l,c⟩,k⟩
end
theorem o5 {A:bP} {k:Nat} (hr:dP k A):A.units + 1 < dM:=iO (BQ (by decide:1<=64) _) hr.units
section
variable {X:Cx}
theorem pv (i:Nat) {x:Str} {pos:Pos} (hN:X.N[i]?=some x:=by rfl) (hv:Vis X.env.scope x:=by first | exact Or.inl rfl | exact Or.inr (Or.inl rfl) | exact Or.inr (Or.inr rfl)) (hd:(x == ("__debug__":Str))=false:=by decide)
    (hcd:(x == ("__classdict__":Str))=false:=by decide):PE X (.Name x pos) (tE i):=Ig hN hv hd hcd
end
theorem fV {A B:Prop} (h:B):if false=true then A else B:=by
  rw [if_neg bO]
  exact h
theorem gF {A B:Prop} (h:A):if true=true then A else B:=by
  rw [if_pos rfl]
  exact h
theorem jt {c A B:Prop} [Decidable c] (h1:c->A) (h2:¬ c->B):if c then A else B:=by
  by_cases h:c
  · rw [if_pos h]
    exact h1 h
  · rw [if_neg h]
    exact h2 h
def bM (H H':Hp):Prop:=∀ b o,H b=some o->H' b=some o
theorem bM.refl (H:Hp):bM H H:=fun _ _ h=>h
theorem bM.trans {H H1 H2:Hp} (a:bM H H1) (b:bM H1 H2):bM H H2:=fun c o h=>b c o (a c o h)
theorem bM.free {H H':Hp} (e:bM H H') {l:aa} (h:H' l=Option.none):H l=Option.none:=by
  cases q:H l with
  | none=>rfl
  | some o =>
    rw [e l o q] at h
    cases h
end L2
namespace L2
open PySem PySem.Spec PyProof.Rows
section
variable {κ:Type} [DecidableEq κ]
def kf (kvs:List (κ×V)) (k:κ):Option V:=(kvs.find? fun kv=>decide (kv.1=k)).map (·.2)
def iV (kvs:List (κ×V)) (k:κ) (v:V):List (κ×V):=
  if (kvs.any fun kv=>decide (kv.1=k))=true then kvs.map (fun kv=>if kv.1=k then (kv.1,v) else kv) else kvs++[(k,v)]
theorem nC {p:κ×V} {r:List (κ×V)} {k:κ} (e:p.1=k):kf (p :: r) k=some p.2:=by simp [kf,iI,e]
theorem nF {p:κ×V} {r:List (κ×V)} {k:κ} (e:¬ p.1=k):kf (p :: r) k=kf r k:=by simp [kf,iI,e]
theorem jQ (k:κ):∀ kvs:List (κ×V),(kvs.any fun kv=>decide (kv.1=k))=(kf kvs k).isSome
  | []=>rfl
  | p :: r=>by
    rw [xq]
    by_cases e:p.1=k
    · simp only [nC e,decide_eq_true e,Bool.true_or,Option.isSome_some]
    · rw [nF e,decide_eq_false e,Bool.false_or]; exact jQ k r
theorem nG (kvs:List (κ×V)) (k:κ) (v:V):(iV kvs k v).length<=kvs.length + 1:=by
  unfold iV
  split
  · rw [ar]; omega
  · rw [aE,aP,cM]; omega
theorem CW {kvs:List (κ×V)} {k:κ} (v:V) (h:kf kvs k=none):iV kvs k v=kvs++[(k,v)]:=by
  unfold iV
  rw [jQ,h]
  exact if_neg (by decide)
theorem oR.isSome_eq {o:Option V} {u:Option ae} (r:oR o u):o.isSome=u.isSome:=by
  cases o with
  | none=>cases u with
    | none=>rfl
    | some _=>exact (show False from r).elim
  | some _=>cases u with
    | none=>exact (show False from r).elim
    | some _=>rfl
theorem KV.val {kvs:List (κ×V)} {vs:List (κ×ae)} (r:KV kvs vs) (k:κ):oR (kf kvs k) (m6 vs k):=by
  unfold KV at r
  induction r with
  | nil=>exact True.intro
  | @cons p q ps qs h t ih =>
    obtain ⟨h1,h2⟩:=h
    by_cases e:p.1=k
    · have e':q.1=k:=h1.symm.trans e
      have b:m6 (q :: qs) k=some q.2:=by simp [m6,iI,e']
      rw [nC e,b]; exact h2
    · have e':¬ q.1=k:=fun z=>e (h1.trans z)
      have b:m6 (q :: qs) k=m6 qs k:=by simp [m6,iI,e']
      rw [nF e,b]; exact ih
theorem KV.any {kvs:List (κ×V)} {vs:List (κ×ae)} (r:KV kvs vs) (k:κ):(kvs.any fun kv=>decide (kv.1=k))=vs.any fun kv=>decide (kv.1=k):=by
  unfold KV at r
  induction r with
  | nil=>rfl
  | cons h t ih=>rw [xq,xq,ih,h.1]
theorem KV.repl {kvs:List (κ×V)} {vs:List (κ×ae)} (r:KV kvs vs) (k:κ) {y:V} {u:ae} (ry:RelV y u) :
    KV (kvs.map fun kv=>if kv.1=k then (kv.1,y) else kv) (vs.map fun kv=>if kv.1=k then (kv.1,u) else kv):=by
  unfold KV at r |-
  induction r with
  | nil=>exact .nil
  | @cons p q ps qs h t ih =>
    rw [bR,bR]
    refine .cons ?_ ih
    obtain ⟨h1,h2⟩:=h
    by_cases e:p.1=k
    · rw [if_pos e,if_pos (h1.symm.trans e)]; exact ⟨h1,ry⟩
    · rw [if_neg e,if_neg (fun z=>e (h1.trans z))]; exact ⟨h1,h2⟩
theorem KV.put {kvs:List (κ×V)} {vs:List (κ×ae)} (r:KV kvs vs) (k:κ) {y:V} {u:ae} (ry:RelV y u):KV (iV kvs k y) (wz vs k u):=by
  unfold iV wz
  rw [r.any k]
  by_cases e:(vs.any fun kv=>decide (kv.1=k))=true
  · rw [if_pos e,if_pos e]; exact r.repl k ry
  · rw [if_neg e,if_neg e]; exact dR r ⟨rfl,ry⟩
theorem KV.length {kvs:List (κ×V)} {vs:List (κ×ae)} (r:KV kvs vs):kvs.length=vs.length:=aT r
end
theorem xM {P:aM} {w:bH} {k:Key} {u:ae} (r:RelV (kV k) u):(eY P w).is k u=true:=by
  cases k with
  | inl i=>obtain ⟨t,e⟩:=(show ∃ t,u=Value.int i t from r); subst e; exact xy P w i t
  | inr x=>obtain ⟨t,e⟩:=(show ∃ t,u=Value.str x t from r); subst e; exact xA P w x t
theorem vv {P:aM} {w:bH}:∀ {ks:List Key} {us:List ae},cS (ks.map kV) us->ItemsAre (eY P w) ks us
  | [],_,r=>by rw [yz] at r; cases r; exact .nil
  | k :: ks,_,r=>by
    rw [bR] at r
    cases r with
    | cons h t=>exact .cons (xM h) (vv t)
abbrev KT (H:Hp):List (List Key×V)->List (List Key×aa×ae)->Prop:=aO fun p q=>p.1=q.1/\H q.2.1=some (.tup (p.1.map kV))/\RelV p.2 q.2.2
theorem KT.val {H:Hp} {kvs:List (List Key×V)} {xs:List (List Key×aa×ae)} (r:KT H kvs xs) (k:List Key):oR (kf kvs k) ((za xs k).map (·.2)):=by
  induction r with
  | nil=>exact True.intro
  | @cons p q ps qs h t ih =>
    obtain ⟨h1,_,h2⟩:=h
    by_cases e:p.1=k
    · have e':q.1=k:=h1.symm.trans e
      have b:za (q :: qs) k=some q.2:=by simp [za,iI,e']
      rw [nC e,b]; exact h2
    · have e':¬ q.1=k:=fun z=>e (h1.trans z)
      have b:za (q :: qs) k=za qs k:=by simp [za,iI,e']
      rw [nF e,b]; exact ih
theorem KT.repl {H:Hp} {kvs:List (List Key×V)} {xs:List (List Key×aa×ae)} (r:KT H kvs xs) (k:List Key) {y:V} {u:ae} (ry:RelV y u) :
    KT H (kvs.map fun kv=>if kv.1=k then (kv.1,y) else kv) (xs.map (putAt k u)):=by
  induction r with
  | nil=>exact .nil
  | @cons p q ps qs h t ih =>
    rw [bR,bR]
    refine .cons ?_ ih
    obtain ⟨h1,h2,h3⟩:=h
    unfold putAt
    by_cases e:p.1=k
    · rw [if_pos e,if_pos (h1.symm.trans e)]; exact ⟨h1,h2,ry⟩
    · rw [if_neg e,if_neg (fun z=>e (h1.trans z))]; exact ⟨h1,h2,h3⟩
theorem KT.put {H:Hp} {kvs:List (List Key×V)} {xs:List (List Key×aa×ae)} (r:KT H kvs xs) (k:List Key) {b:aa} {y:V} {u:ae} (hb:H b=some (.tup (k.map kV))) (ry:RelV y u) :
    KT H (iV kvs k y) (storedH xs k b u):=by
  have e:(kvs.any fun kv=>decide (kv.1=k))=(za xs k).isSome:=by
    rw [jQ,(r.val k).isSome_eq,qI]
  unfold iV storedH
  rw [e]
  by_cases q:(za xs k).isSome=true
  · rw [if_pos q,if_pos q]; exact r.repl k ry
  · rw [if_neg q,if_neg q]; exact dR r ⟨rfl,hb,ry⟩
theorem KT.keeps {H H':Hp} {kvs:List (List Key×V)} {xs:List (List Key×aa×ae)} (r:KT H kvs xs) (ht:∀ b ys,H b=some (.tup ys)->H' b=some (.tup ys)):KT H' kvs xs:=
  Paired.mapP r fun _ _ z=>⟨z.1,ht _ _ z.2.1,z.2.2⟩
section
variable {P:aM} {w:bH} {H:Hp} {h:cB} {a:aa}
theorem Ht {u:HO} (ok:HOk P w H h) (e:Rd H a u):d5 P w H h a u:=e.ok ok
theorem z7 {kvs:List (Key×V)} (ok:HOk P w H h) (e:Rd H a (.dK kvs)):kvs.length<=aA/\(a == eO)=false/\∃ vs,KV kvs vs/\h.DictOf (eY P w) a vs:=
  show d5 P w H h a (.dK kvs) from Ht ok e
theorem dk_of {kvs:List (Key×V)} (ok:HOk P w H h) (e:H a=some (.dK kvs)):kvs.length<=aA/\(a == eO)=false/\∃ vs,KV kvs vs/\h.DictOf (eY P w) a vs:=z7 ok (.inl e)
theorem wA {ks:List Key} (ok:HOk P w H h) (e:H a=some (.tup (ks.map kV))):(vQ (eY P w)).is h ks a:=by
  obtain ⟨_,its,r,o,h1,h2,n,h3⟩:=(show d5 P w H h a (.tup (ks.map kV)) from ok a _ e)
  exact ⟨o,its.toArray,n,h1,h2,h3,by simpa using vv r⟩
theorem z8 {kvs:List (List Key×V)} (ok:HOk P w H h) (e:Rd H a (.dT kvs)):kvs.length<=aA/\(a == eO)=false /\
    ∃ xs,KT H kvs xs/\h.DictOfH (vQ (eY P w)) a xs:=by
  obtain ⟨z,y,xs,r,o,es,ep,h1,h2,h3,h4,h5⟩:=(show d5 P w H h a (.dT kvs) from Ht ok e)
  refine ⟨z,y,xs,r,o,es,ep,h1,h2,h3,h4,fun x hx=>?_,h5⟩
  have all:∀ {l:List (List Key×V)} {m:List (List Key×aa×ae)},KT H l m->∀ x∈m,(vQ (eY P w)).is h x.1 x.2.1:=by
    intro l m q
    induction q with
    | nil=>intro x hx; exact nomatch hx
    | @cons p q ps qs hq t ih =>
      intro x hx
      rcases au.mp hx with e | hx
      · subst e
        exact wA ok (by rw [<- hq.1]; exact hq.2.1)
      · exact ih x hx
  exact all r x hx
theorem dt_of {kvs:List (List Key×V)} (ok:HOk P w H h) (e:H a=some (.dT kvs)):kvs.length<=aA/\(a == eO)=false /\
    ∃ xs,KT H kvs xs/\h.DictOfH (vQ (eY P w)) a xs:=z8 ok (.inl e)
end
def qf (H:Hp) (a:aa) (y:V) (r:Option V):Prop:=
  (∃ kvs k,Rd H a (.dK kvs)/\y=kV k/\r=kf kvs k)\/∃ kvs k b,Rd H a (.dT kvs)/\y=.ref b/\H b=some (.tup (k.map kV))/\r=kf kvs k
def sj (H:Hp) (a:aa) (y v:V) (H':Hp):Prop:=
  (∃ kvs k,H a=some (.dK kvs)/\y=kV k/\kvs.length < aA/\H'=upd H a (.dK (iV kvs k v))) \/
  ∃ kvs k b,H a=some (.dT kvs)/\y=.ref b/\H b=some (.tup (k.map kV))/\kvs.length < aA/\H'=upd H a (.dT (iV kvs k v))
theorem qf.k {H:Hp} {a:aa} {kvs:List (Key×V)} {k:Key} (e:H a=some (.dK kvs)):qf H a (kV k) (kf kvs k):=.inl ⟨kvs,k,.inl e,rfl,rfl⟩
theorem sj.k {H:Hp} {a:aa} {kvs:List (Key×V)} {k:Key} {v:V} (e:H a=some (.dK kvs)) (hl:kvs.length < aA):sj H a (kV k) v (upd H a (.dK (iV kvs k v))):=.inl ⟨kvs,k,e,rfl,hl,rfl⟩
section
variable {X:Cx} {pins:List (aa×Obj)} {σ:St} {H:Hp} {s:aj} {a:aa} {y v:V} {u r:ae} {o:Option V} {A:bP} {E:ae->aj->Prop}
theorem Inv.big (I:Inv X pins σ H s):eO < s.heap.objs.size:=by
  have h:bL < s.heap.objs.size:=(I.mod.glob.keeps I.bk).lt
  exact nI (by decide) h
theorem A6 {Q:ae->aj->Prop} (hu:A.units + 1 < dM) (I:Inv X pins σ H s) (g:qf H a y (some v)) (ry:RelV y u) (h:∀ w' s',Inv X pins σ H s'->RelV v w'->Q w' s') :
    aU (aW X.prog X.w) A (rN (.ref a) u) Q E s:=by
  rcases g with ⟨kvs,k,e,ey,l⟩ | ⟨kvs,k,b,e,ey,eb,l⟩
  · subst ey
    obtain ⟨z,hd,vs,rel,dd⟩:=z7 I.hok e
    obtain ⟨w',hw,rw'⟩:=oR.some_of (v:=v) (o:=m6 vs k) (by rw [l]; exact rel.val k)
    exact wpAny_getItem_of (xM ry) dd.mapOf hw (h w' _ (I.tok _) rw')
  · subst ey
    cases (show u=Value.ref b from ry)
    obtain ⟨z,hd,xs,rel,dd⟩:=z8 I.hok e
    obtain ⟨w',hw,rw'⟩:=oR.some_of (v:=v) (o:=(za xs k).map (·.2)) (by rw [l]; exact rel.val k)
    obtain ⟨p,hp,hp2⟩:=Option.map_eq_some_iff.mp hw
    refine wpAny_getItem_heap (tT hu) (wA I.hok eb) dd hp ?_
    rw [hp2]
    exact h w' _ (I.tok _) rw'
theorem d_in {Q:ae->aj->Prop} (hu:A.units + 1 < dM) (I:Inv X pins σ H s) (g:qf H a y o) (ry:RelV y u) (h:∀ s',Inv X pins σ H s'->Q (.bool o.isSome) s') :
    aU (aW X.prog X.w) A (cU .In u (.ref a)) Q E s:=by
  rcases g with ⟨kvs,k,e,ey,l⟩ | ⟨kvs,k,b,e,ey,eb,l⟩
  · subst ey
    obtain ⟨z,hd,vs,rel,dd⟩:=z7 I.hok e
    refine wpAny_in_of (xM ry) hd dd.mapOf ?_
    rw [<- (rel.val k).isSome_eq,<- l]
    exact h _ (I.tok _)
  · subst ey
    cases (show u=Value.ref b from ry)
    obtain ⟨z,hd,xs,rel,dd⟩:=z8 I.hok e
    refine wpAny_in_heap (tT hu) (wA I.hok eb) hd dd ?_
    have q:=(rel.val k).isSome_eq
    rw [qI] at q
    rw [<- q,<- l]
    exact h _ (I.tok _)
theorem z9 {h':cB} {t':Nat} {ob:HO} (I:Inv X pins σ H s) (mu:Mut (H a)) (hs:mX a s.heap h') (he:∃ q,h'.get? a=some q) (new:d5 X.prog X.w (upd H a ob) h' a ob) :
    Inv X pins σ (upd H a ob) {s with heap:=h',toks:=t'}:=
  I.write (x:=a) (e:=a) mu (.inl rfl) (fun b q hb z=>(hs.2 b hb).trans z) he new
theorem zb {P:aM} {w:bH} {H':Hp} {h':cB} {kvs:List (Key×V)} {vs:List (Key×ae)} (z:kvs.length<=aA) (hd:(a == eO)=false) (rel:KV kvs vs) (dd:h'.DictOf (eY P w) a vs) :
    d5 P w H' h' a (.dK kvs):=⟨z,hd,vs,rel,dd⟩
theorem A7 {H':Hp} {Q:Unit->aj->Prop} (hu:A.units + 1 < dM) (I:Inv X pins σ H s) (g:sj H a y v H') (ry:RelV y u) (rv:RelV v r) (h:∀ s',Inv X pins σ H' s'->Q () s') :
    aU (aW X.prog X.w) A (setItem (.ref a) u r) Q E s:=by
  rcases g with ⟨kvs,k,e,ey,l,eH⟩ | ⟨kvs,k,b,e,ey,eb,l,eH⟩
  · subst ey eH
    obtain ⟨z,hd,vs,rel,dd⟩:=dk_of I.hok e
    have hz:vs.length<=aA:=by rw [<- rel.length]; exact z
    have hl:(iV kvs k v).length<=aA:=by have:=nG kvs k v; omega
    refine wpAny_setItem_pairs (hsz:=hz) (xM ry) dd fun h' dd' hs=>h _ ?_
    have he:∃ q,h'.get? a=some q:=let ⟨q,_,_,hq,_⟩:=dd'; ⟨q,hq⟩
    exact z9 I (by rw [e]; exact True.intro) hs he (zb hl hd (rel.put k rv) dd')
  · subst ey eH
    cases (show u=Value.ref b from ry)
    obtain ⟨z,hd,xs,rel,dd⟩:=dt_of I.hok e
    have hz:xs.length<=aA:=by rw [<- aT rel]; exact z
    have hl:(iV kvs k v).length<=aA:=by have:=nG kvs k v; omega
    refine wpAny_setItem_heap (hsz:=hz) (tT hu) (wA I.hok eb) dd fun h' dd' hs=>h _ ?_
    obtain ⟨q,es,ep,hq,h2,h3,h4,_,h5⟩:=dd'
    refine z9 I (by rw [e]; exact True.intro) hs ⟨q,hq⟩ ⟨hl,hd,_,(rel.put k eb rv).keeps fun c ys ec=>?_,q,es,ep,hq,h2,h3,h4,h5⟩
    rw [aJ (kT ec e (fun z=>nomatch z))]
    exact ec
end
section
variable {X:Cx} {pins:List (aa×Obj)} {σ:St} {H:Hp} {s:aj} {a:aa} {kvs:List (Key×V)} {k:Key} {u:ae} {A:bP} {E:ae->aj->Prop}
end
def NoSl (i:cX):Prop:=∀ ov iv,xp i false ov iv=operate [ov,iv] (rN ov iv)
theorem Fg {prog:aM} {w:bH} {A:bP} {E:ae->aj->Prop} {s:aj} {env:Env} {value slice:cX} {pos:Pos} {T id:String} {Q:ae->aj->Prop}
    (hl:Iy (.type T) "__getitem__"=pure (some (.builtin id))) (hs:NoSl slice)
    (h:aU (aW prog w) A (eW value env) (fun o s₁=>aU (aW prog w) A (eW slice env) (fun i s₂=>s₂.TypeIs o T/\aU (aW prog w) A (rN o i) Q E s₂) E s₁) E s) :
    aU (aW prog w) A (eW (.Subscript value slice pos) env) Q E s:=by
  refine Iz (d9 h (fun o s₁ h₁=>d9 h₁ (fun i s₂ h₂=>?_) fun _ _ x=>x) fun _ _ x=>x)
  obtain ⟨hT,h₂⟩:=h₂
  unfold A5
  refine ai ?_
  rw [getitemInPython_of_ne hT.not_modules]
  refine ai (wpAny_specialOf hT hl ?_)
  have fin:aU (aW prog w) A (xp slice false o i) (fun r s₃=>aU (aW prog w) A (letTemporaryGo value o r >>= fun _=>pure r) Q E s₃) E s₂:=by
    rw [hs o i]
    exact wpAny_operating (d9 h₂ (fun r s₃ h₃=>ai (wpAny_letTemporaryGo (aN h₃))) fun _ _ x=>x)
  first
    | exact aN (ai fin)
    | exact ai (aN (ai fin))
    | exact ai fin
theorem xO {X:Cx} {pins:List (aa×Obj)} {σ:St} {H:Hp} {s:aj} {a:aa} {y:V} {o:Option V} (I:Inv X pins σ H s) (g:qf H a y o):s.TypeIs (.ref a) "dict":=by
  rcases g with ⟨kvs,k,e,_,_⟩ | ⟨kvs,k,b,e,_,_,_⟩
  · obtain ⟨_,_,vs,_,dd⟩:=z7 I.hok e
    exact dd.typeIs
  · obtain ⟨_,_,xs,_,dd⟩:=z8 I.hok e
    exact dd.typeIs
def tDGet (td ty:TE):TE:=fun σ H Q=>td σ H fun x H1=>ty σ H1 fun y H2=>∃ a v,x=.ref a/\qf H2 a y (some v)/\Q v H2
def tDIn (ty td:TE):TE:=fun σ H Q=>ty σ H fun y H1=>td σ H1 fun x H2=>∃ a o,x=.ref a/\qf H2 a y o/\Q (.bl o.isSome) H2
def sDPut (td ty tv:TE):TS:=fun D σ H=>tv σ H fun v H1=>td σ H1 fun x H2=>ty σ H2 fun y H3=>∃ a H4,x=.ref a/\sj H3 a y v H4/\D.nx σ H4
section
variable {X:Cx} {o i e value:cX} {pos pos' tpos:Pos} {td ty tv:TE}
theorem qg (hu:X.A.units + 1 < dM) (ho:PE X o td) (hi:PE X i ty) (hs:NoSl i):PE X (.Subscript o i pos) (tDGet td ty):=by
  intro pins s σ H Q I h
  refine Fg PySem.F.slot_dict_getitem.lookup hs (thn (ho pins s σ H _ I h) fun u s1 ⟨x,H1,I1,rx,q1⟩=>thn (hi pins s1 σ H1 _ I1 q1) fun iv s2 ⟨y,H2,I2,ry,a,v,ex,g,q2⟩=>?_)
  subst ex
  obtain rfl:u=Value.ref a:=rx
  exact ⟨xO I2 g,A6 hu I2 g ry fun w' s3 I3 rw'=>⟨v,H2,I3,rw',q2⟩⟩
theorem CZ (hu:X.A.units + 1 < dM) (hi:PE X i ty) (ho:PE X o td):PC X .In i o (tDIn ty td):=by
  intro pins s σ H Q I h
  refine thn (hi pins s σ H _ I h) fun iv s1 ⟨y,H1,I1,ry,q1⟩=>thn (ho pins s1 σ H1 _ I1 q1) fun u s2 ⟨x,H2,I2,rx,a,ov,ex,g,q2⟩=>?_
  subst ex
  obtain rfl:u=Value.ref a:=rx
  exact d_in hu I2 g ry fun s3 I3=>⟨.bl ov.isSome,H2,I3,rfl,q2⟩
theorem lV (hu:X.A.units + 1 < dM) (ho:PE X o td) (hi:PE X i ty) (hv:PE X value tv) (hs:rH value (some (.Subscript o i pos')) pos.line X.env=pure false) :
    PS X (.Assign [.Subscript o i pos'] value pos) (sDPut td ty tv):=by
  intro pins s σ H D I h
  refine wpAny_Assign_Subscript (thn (hv pins s σ H _ I h) fun r s1 ⟨v,H1,I1,rv,q1⟩=>thn (ho pins s1 σ H1 _ I1 q1) fun u s2 ⟨x,H2,I2,rx,q2⟩=>thn (hi pins s2 σ H2 _ I2 q2) fun iv s3 ⟨y,H3,I3,ry,a,H4,ex,g,q3⟩=>?_) hs
  subst ex
  obtain rfl:u=Value.ref a:=rx
  exact A7 hu I3 g ry rv fun s4 I4=>⟨σ,H4,I4,q3⟩
end
theorem C0 {P:aM} {w:bH} {H:Hp} (h:cB) (hb:eO < h.objs.size):d5 P w H (h.push {cls:=.type "dict",data:=.dict #[]}) h.objs.size (.dK []):=
  ⟨bj _,beq_eq_false_iff_ne.mpr (eZ (aL hb)),[],.nil,yB h⟩
def IF:TE:=fun _ H Q=>∀ p,H p=none->Q (.ref p) (upd H p (.dK []))
section
variable {X:Cx} {pos:Pos}
theorem qh:PE X (.Dict [] [] pos) IF:=fun pins s σ H Q I h =>
  wpAny_Dict_empty ⟨.ref s.heap.objs.size,_,I.laid (a:=s.heap.objs.size) (o:=.dK []) (t':=s.toks) (fun _ _ q=>aI _ q) (aC _) (C0 s.heap I.big),rfl,h _ (I.hok.fresh (aC _))⟩
end
section
variable {X:Cx} {pins:List (aa×Obj)} {σ:St} {H:Hp} {s:aj} {a:aa} {y d:V} {u r:ae} {o:Option V} {A:bP} {E:ae->aj->Prop}
end
section
variable {X:Cx} {o e f:cX} {apos cpos:Pos} {td ty tx:TE}
end
section
variable {X:Cx} {pins:List (aa×Obj)} {σ:St} {H:Hp} {s:aj} {a:aa} {kvs:List (Key×V)} {A:bP} {E:ae->aj->Prop}
end
section
variable {X:Cx} {pins:List (aa×Obj)} {σ:St} {H:Hp} {s:aj} {a:aa} {y:V} {u:ae} {A:bP} {E:ae->aj->Prop}
end
end L2
namespace L2
open PySem PySem.Spec PyProof.Rows
section
variable {X:Cx}
end
section
variable {κ:Type} [DecidableEq κ]
theorem Fh {kvs:List (κ×V)} {k:κ} {v:V} (h:kf kvs k=some v):k∈kvs.map (·.1):=by
  have q:(kvs.any fun kv=>decide (kv.1=k))=true:=by
    rw [jQ,h]
    all_goals rfl
  obtain ⟨p,hp,e⟩:=List.any_eq_true.mp q
  exact cL.mpr ⟨p,hp,of_decide_eq_true e⟩
theorem Aa:∀ {l:List κ} {k:κ},l.Nodup->¬ k∈l->(l++[k]).Nodup
  | [],k,_,_=>by simp
  | a :: r,k,h,hk=>by
    obtain ⟨h1,h2⟩:=cK.mp h
    show (a :: (r++[k])).Nodup
    refine cK.mpr ⟨fun m=>?_,Aa h2 fun m=>hk (au.mpr (Or.inr m))⟩
    rcases cq.mp m with q | q
    · exact h1 q
    · exact hk (au.mpr (Or.inl (aH.mp q).symm))
end
end L2
set_option maxHeartbeats 4000000
namespace L2
open PySem PySem.Spec PyProof.Rows
theorem d5.has {P:aM} {w:bH} {H:Hp} {h:cB} {a:aa} {o:HO} (x:d5 P w H h a o):∃ ob,h.get? a=some ob:=by
  cases o with
  | lst xs=>obtain ⟨_,_,_,_,e⟩:=x; exact ⟨_,e⟩
  | tup xs=>obtain ⟨_,_,_,ob,e,_⟩:=x; exact ⟨_,e⟩
  | dK kvs=>obtain ⟨_,_,_,_,o,_,_,e,_⟩:=x; exact ⟨_,e⟩
  | dT kvs=>obtain ⟨_,_,_,_,o,_,_,e,_⟩:=x; exact ⟨_,e⟩
  | set S n=>obtain ⟨o,_,_,_,e,_⟩:=x; exact ⟨_,e⟩
  | ins C dx fs=>obtain ⟨_,_,_,e,_⟩:=x; exact ⟨_,e⟩
  | own y=>exact x
  | xd fs=>obtain ⟨_,⟨_,_,_,e,_⟩,_⟩:=x; exact ⟨_,e⟩
  | rng lo hi=>obtain ⟨_,_,_,e⟩:=x; exact ⟨_,e⟩
  | frz ob u=>obtain ⟨e,_⟩:=x; exact ⟨_,e⟩
  | tbl ps=>exact ⟨_,(show h.get? a=some _ from x)⟩
  | met f y=>exact ⟨_,(show h.get? a=some _ from x)⟩
  | ext φ=>obtain ⟨_,e,_⟩:=x; exact e
theorem HOk.has {P:aM} {w:bH} {H:Hp} {h:cB} (x:HOk P w H h) {b:aa} (n:H b≠none):∃ ob,h.get? b=some ob:=by
  cases z:H b with
  | none=>exact absurd z n
  | some u=>exact (x b u z).has
def FlD (B:cB) (l:List Env) (e:aa) (cls fl:ae) (h:cB):Prop:=
  B.StaysIn h/\B.get? e=none/\h.FunFrames B l/\∃ oe vs T oT ts,h.get? e=some oe/\oe.cls=cls/\oe.dict=none/\oe.data=.fields vs/\vs[1]?=some (.ref T)/\B.get? T=none/\T≠e/\h.get? T=some oT/\oT.data=.fields ts/\ts[3]?=some fl
theorem A8 (o:Obj) (f:Array ae->Array ae):(o.mapFields f).dict=o.dict:=by
  obtain ⟨c,d,dt,sl⟩:=o
  cases dt <;> rfl
section
variable {M:E1} {A:bP} {E:ae->aj->Prop} {s:aj} {B:cB} {env:Env} {outer l:List Env} {L e:aa} {cls fl:ae} {Q:Unit->aj->Prop}
theorem xP {oe:Obj} {vs:Array ae} {head:ae} {nx:Bool} (hfr:A.frames=some (env :: outer)) (hl:s.heap.FunFrames B (env :: outer)) (hf:env.frame=some L) (he:s.heap.get? e=some oe) (hB:B.StaysIn s.heap) (hn:B.get? e=none)
    (hd:oe.data=.fields vs) (hz:1 < vs.size) (hdc:oe.dict=none) (k:∀ h',FlD B (env :: outer) e oe.cls (qO L) h'->s.heap.UpToSlots h'->Q () {s with heap:=h'}) :
    aU M A (do let a <- frameOf env; let pl <- entryPlaceOf L nx; let b <- wB head a .none (qO L) .none pl; setField (.ref e) 1 b) Q E s:=by
  have ef:e∉(env :: outer).filterMap (·.frame):=fun hm=>by
    obtain ⟨_,o,ho,q⟩:=hl.mem hm
    rw [he] at ho
    cases ho
    exact q vs hd
  refine ai (wpAny_frameOf_fun hfr hl hf fun h1 g1=>ai (wpAny_entryPlaceOf fun pl hpl=>?_))
  unfold wB newFields
  refine ai (ij ?_ (hpl.sizeOk5 _ _ _ _ _))
  have e1:h1.get? e=some oe:=(g1.2.1 e ef).trans he
  have b1:B.StaysIn h1:=fun b o z=>(g1.2.1 b fun hm=>by rw [(hl.mem hm).1] at z; cases z).trans (hB b o z)
  have ne:h1.objs.size≠e:=m9 (aK e1)
  generalize hob:({cls:=.type "traceback",dict:=none,data:=.fields ([head,.ref L,.none,qO L,.none]++(if pl.isEmpty then cC 6 Value.none else pl)).toArray}:Obj)=ob
  have e2:(h1.push ob).get? e=some oe:=aI _ e1
  have t2:(h1.push ob).get? h1.objs.size=some ob:=cv h1 (by rw [<- hob]; rfl)
  refine zc e2 hd hz (k _ ?_ ?_)
  · have d3:=qY hd (·.setIfInBounds 1 (Value.ref h1.objs.size))
    have keep:∀ b o,b≠e->h1.get? b=some o->((h1.push ob).update e (qJ (·.setIfInBounds 1 (Value.ref h1.objs.size)))).get? b=some o:=fun b o q z=>by
      rw [eN _ _ (eZ q)]
      exact aI _ z
    refine ⟨fun b o z=>keep b o (fun q=>by rw [q,hn] at z; cases z) (b1 b o z),hn,hl.of_keeps fun b o z q=>?_,_,_,h1.objs.size,ob,_,oI _ e2 (Ab d3),Obj.cls_mapFields _ _,(A8 _ _).trans hdc,d3,by simp [hz],b1.fresh,ne,?_,by rw [<- hob],?_⟩
    · obtain ⟨sl,w⟩:=g1.2.2 b o z
      exact ⟨_,keep b _ (fun y=>by rw [y,he] at z; cases z; exact q vs hd) w,rfl⟩
    · rw [eN _ _ (eZ ne)]
      exact t2
    · first | (simp; done) | (rcases hpl with rfl | ⟨_,_,_,_,_,_,_,rfl⟩ <;> simp)
  · intro b o z q
    obtain ⟨sl,w⟩:=g1.2.2 b o z
    refine ⟨sl,?_⟩
    rw [eN _ _ (fun y=>by rw [<- y,he] at z; cases z; exact q vs hd)]
    exact aI _ w
theorem sM {T:aa} {oT:Obj} {ts:Array ae} {h:cB} (hT:h.get? T=some oT) (hdT:oT.data=.fields ts) {b:aa} {o:Obj} (hb:h.get? b=some o) (q:∀ vs,o.data≠.fields vs):b≠T:=fun y=>by
  rw [y,hT] at hb
  cases hb
  exact q ts hdT
theorem Ac (hfr:A.frames=some (env :: outer)) (hf:env.frame=some L) (x:FlD B (env :: outer) e cls .none s.heap) (k:∀ h',FlD B (env :: outer) e cls (qO L) h'->s.heap.UpToSlots h'->Q () {s with heap:=h'}) :
    aU M A (BR (.ref e) env) Q E s:=by
  obtain ⟨hB,hn,hl,oe,vs,T,oT,ts,he,rfl,hdc,hd,h1,nT,Te,hT,dT,h3⟩:=x
  unfold BR
  simp only [hf]
  refine ai (j7 he hd h1 ?_)
  rw [if_pos (show (Value.ref T != Value.none)=true from by simp)]
  refine ai (j7 hT dT h3 ?_)
  rw [if_neg (show ¬ ((Value.none == qO L)=true) from by simp [qO])]
  refine ai (zc hT dT (kg.mp h3).1 ?_)
  have ot:∀ b,b≠T->(s.heap.update T (qJ (·.setIfInBounds 3 Value.none))).get? b=s.heap.get? b:=fun b hb=>eN _ _ (eZ hb)
  refine xP (s:={s with heap:=s.heap.update T (qJ (·.setIfInBounds 3 Value.none))}) hfr (hl.of_keeps fun b o z q=>⟨o,(ot b (sM hT dT z q)).trans z,rfl⟩) hf ((ot e (eZ Te)).trans he)
    (fun b o z=>(ot b fun y=>by rw [y,nT] at z; cases z).trans (hB b o z)) hn hd (kg.mp h1).1 hdc fun h' y1 y2=>k h' y1 fun b o z q=>y2 b o ((ot b (sM hT dT z q)).trans z) q
theorem qi (x:FlD B l e cls fl s.heap) (k:∀ h',FlD B l e cls .none h'->s.heap.UpToSlots h'->Q () {s with heap:=h'}):aU M A (setFlight (.ref e) none) Q E s:=by
  obtain ⟨hB,hn,hl,oe,vs,T,oT,ts,he,hc,hdc,hd,h1,nT,Te,hT,dT,h3⟩:=x
  have z3:3 < ts.size:=(kg.mp h3).1
  have ot:∀ b,b≠T->(s.heap.update T (qJ (·.setIfInBounds 3 ((none:Option aa).elim Value.none fun f=>qO f)))).get? b=s.heap.get? b:=fun b hb=>eN _ _ (eZ hb)
  unfold setFlight
  refine ai (j7 he hd h1 ?_)
  rw [if_pos (show (Value.ref T != Value.none)=true from by simp)]
  refine zc hT dT z3 (k _ ⟨fun b o z=>(ot b fun y=>by rw [y,nT] at z; cases z).trans (hB b o z),hn,hl.of_keeps fun b o z q=>⟨o,(ot b (sM hT dT z q)).trans z,rfl⟩,oe,vs,T,_,_,(ot e (eZ Te)).trans he,hc,hdc,hd,h1,nT,Te,oI _ hT (Ab (qY dT _)),qY dT _,by simp [z3]⟩
    fun b o z q=>⟨o.slots,(ot b (sM hT dT z q)).trans z⟩)
theorem FlD.tail (x:FlD B (env :: outer) e cls fl s.heap):FlD B outer e cls fl s.heap:=by
  obtain ⟨a,b,⟨_,_,c⟩,d⟩:=x
  exact ⟨a,b,c,d⟩
theorem FlD.there {h:cB} (x:FlD B l e cls fl h):∃ ob,h.get? e=some ob/\ob.cls=cls:=by
  obtain ⟨_,_,_,oe,_,_,_,_,he,hc,_⟩:=x
  exact ⟨oe,he,hc⟩
theorem A9 (hfr:A.frames=some (env :: outer)) (hf:env.frame=some L) (x:FlD B (env :: outer) e cls .none s.heap) (k:∀ h',FlD B outer e cls .none h'->s.heap.UpToSlots h'->Q () {s with heap:=h'}):aU M A (yy env (.ref e)) Q E s:=by
  unfold yy
  refine ai (Ac hfr hf x fun h1 x1 u1=>qi (s:={s with heap:=h1}) x1 fun h2 x2 u2=>k h2 (FlD.tail (s:={s with heap:=h2}) x2) (u1.trans u2))
theorem Fi {h:cB} {args:List ae} (hfr:A.frames=some (env :: outer)) (hf:env.frame=some L) (hB:B.StaysIn h) (hl:h.FunFrames B (env :: outer)) (x:Hu h s.heap e cls args)
    (k:∀ h',FlD B outer e cls .none h'->s.heap.UpToSlots h'->Q () {s with heap:=h'}):aU M A (yy env (.ref e)) Q E s:=by
  obtain ⟨t,he,htn,ht⟩:=x.there
  have en:B.get? e=none:=by
    cases q:B.get? e with
    | none=>rfl
    | some o=>have z:=hB e o q; rw [x.new] at z; cases z
  unfold yy BR
  simp only [hf]
  refine ai (ai (j7 (x:=Value.none) he rfl rfl ?_))
  rw [if_neg (show ¬ ((Value.none != Value.none)=true) by decide)]
  exact xP hfr (hl.of_keeps fun b o z _=>⟨o,x.keeps b o z,rfl⟩) hf he (fun b o z=>x.keeps b o (hB b o z)) en rfl (show 1 < 6 by decide) rfl fun h1 x1 u1=>qi (s:={s with heap:=h1}) x1 fun h2 x2 u2=>k h2 (FlD.tail (s:={s with heap:=h2}) x2) (u1.trans u2)
end
def Fly (B:cB) (stk:List Env) (ea C:aa) (h:cB):Prop:=FlD B stk ea (.ref C) .none h
def CXo (P:aM) (w:bH):CXT:=fun outer H s E e s' =>
  ∃ (ea C:aa) (H':Hp) (B:cB),e=.ref ea/\E (.ref C) none H'/\s'.os=s.os/\mV s'.gens/\Un (frs outer) [] H H' s.heap s'.heap/\HOk P w H' s'.heap/\Fly B outer ea C s'.heap /\
    ∀ b o,(H' b≠none\/∃ o',s.heap.get? b=some o')->b∉frs outer->s'.heap.get? b=some o->B.get? b=some o
theorem Un.left {fs stk:List aa} {H₀ H:Hp} {h₀ h h' B:cB} (u:Un fs [] H₀ H h₀ h) (hB:B.StaysIn h') (cov:∀ b o,(H b≠none\/∃ o',h₀.get? b=some o')->b∉stk->h.get? b=some o->B.get? b=some o)
    (hst:∀ b o,h₀.get? b=some o->b∈stk->b∈fs) (sl:∀ b∈fs,∀ o,h.get? b=some o->∃ sl,h'.get? b=some {o with slots:=sl}):Un fs [] H₀ H h₀ h' where
  keep:=fun b o e n hb hx=>hB b o (cov b o (.inr ⟨o,e⟩) (fun z=>hb (hst b o e z)) (u.keep b o e n hb hx))
  slot:=fun b o e n hb hx=>by
    obtain ⟨s1,e1⟩:=u.slot b o e n hb hx
    obtain ⟨s2,e2⟩:=sl b hb _ e1
    exact ⟨s2,e2⟩
  free:=u.free
  there:=fun b o e hx=>by
    obtain ⟨o',e'⟩:=u.there b o e hx
    by_cases hb:b∈stk
    · obtain ⟨s2,e2⟩:=sl b (hst b o e hb) _ e'
      exact ⟨_,e2⟩
    · exact ⟨o',hB b o' (cov b o' (.inr ⟨o,e⟩) hb e')⟩
  tups:=u.tups
  frzs:=u.frzs
  tbls:=u.tbls
theorem HOk.left {P:aM} {w:bH} {H:Hp} {h h' B:cB} (ok:HOk P w H h) (hB:B.StaysIn h') (cov:∀ b o,H b≠none->h.get? b=some o->B.get? b=some o):HOk P w H h':=fun a o e =>
  (ok a o e).stay (fun b u hb q=>hB b u (cov b u (by
    rcases hb with z | z
    · rw [z,e]; simp
    · rw [z]; simp) q)) (fun _ q=>q) (fun _ _ q=>q)
section
variable {X:Cx} {pins:List (aa×Obj)} {σ:St} {H:Hp} {s:aj} {E E':XK}
theorem Inv.oldfs (I:Inv X pins σ H s):∀ b o,X.s₀.heap.get? b=some o->b∈frs X.stack->b∈X.fs:=fun b o e hb=>by
  rcases au.mp (I.stkSub b hb) with z | z
  · exact absurd (aY (aK e) I.ok.above) (by rw [z]; exact gy _)
  · exact z
theorem Inv.ntr (I:Inv X pins σ H s):∀ b,H b≠none->b∉frs X.stack:=fun b hn z=>hn (I.stkFree b z)
theorem Inv.slotsOf (I:Inv X pins σ H s) {h':cB} (sm:s.heap.UpToSlots h'):∀ b∈X.fs,∀ o,s.heap.get? b=some o->∃ sl,h'.get? b=some {o with slots:=sl}:=fun b hb o e=>by
  obtain ⟨_,o',ho',hd⟩:=I.funs.mem hb
  rw [e] at ho'
  cases ho'
  exact sm b o e hd
structure rO (X:Cx) (E:XK):Prop where
  stk:X.stack=X.env :: X.outer
  fr:X.env.frame=some X.env.locals
  ex:X.ex=[]
  xe:X.xe=fun e s'=>aU (aW X.prog X.w) X.A (yy X.env e) (fun _ s''=>CXo X.prog X.w X.outer X.H₀ X.s₀ E e s'') (fun e' s''=>CXo X.prog X.w X.outer X.H₀ X.s₀ E e' s'') s'
theorem dN {P:aM} {w:bH} {K:af} {mg:Str->Option ae} {base:cB} {N:List Str} {qual:Str} {scope:j5} {f:aa} {cd:ae} {A:bP} {outer:List Env} :
    rO (qU (CXo P w) P w K mg base N qual scope f cd A outer s H E) E:=⟨rfl,rfl,rfl,rfl⟩
theorem rO.raises (hb:rO X E) (I:Inv X pins σ H s) {h':cB} {e C:aa} {vs:List ae} (hx:Hu s.heap h' e (.ref C) vs) (q:E (.ref C) none H):X.xe (.ref e) {s with heap:=h'}:=by
  rw [hb.xe]
  have hfr:X.A.frames=some (X.env :: X.outer):=by rw [I.ok.frames,hb.stk]
  have hin:∀ env∈X.stack,∀ a,env.frame=some a->a∈frs X.stack:=fun env he a ha=>qH.mpr ⟨env,he,ha⟩
  have fl:s.heap.FunFrames (mB s.heap (frs X.stack)) (X.env :: X.outer):=by
    have z:=PySem.W.funFrames_hide I.stack hin
    rw [hb.stk] at z |-
    exact z
  have ub:Un X.fs [] X.H₀ H X.s₀.heap s.heap:=by
    have z:=I.base
    rw [hb.ex] at z
    exact z
  have keepB:∀ b o,b∉frs X.stack->s.heap.get? b=some o->(mB s.heap (frs X.stack)).get? b=some o:=fun b o n e=>yu _ e n
  refine Fi (B:=mB s.heap (frs X.stack)) (h:=s.heap) hfr hb.fr (fun b o z=>yG _ z) fl hx fun h'' x1 x4=>?_
  have sm:s.heap.UpToSlots h'':=(Ks hx.keeps).trans x4
  refine ⟨e,C,H,_,rfl,q,I.os,I.bare,ub.left (stk:=frs X.stack) x1.1 (fun b o _ n e=>keepB b o n e) I.oldfs (I.slotsOf sm),I.hok.left x1.1 (fun b o n e=>keepB b o (I.ntr b n) e),x1,?_⟩
  intro b o c n e1
  have nb:b∉frs X.stack:=by
    rcases c with c | ⟨o',c⟩
    · exact I.ntr b c
    · exact fun z=>n (I.oldfs b o' c z)
  obtain ⟨o1,e2⟩:∃ o1,s.heap.get? b=some o1:=by
    rcases c with c | ⟨o',c⟩
    · exact I.hok.has c
    · exact ub.there b o' c (by simp)
  have e3:h''.get? b=some o1:=x1.1 b o1 (keepB b o1 nb e2)
  have e4:h''.get? b=some o:=e1
  rw [e3] at e4
  cases e4
  exact keepB b _ nb e2
theorem rO.passes (hb:rO X E) (hE:∀ c d H,E' c d H->E c d H):kI (CXo X.prog X.w) X E':=fun pins σ H s e s' I h=>by
  obtain ⟨ea,C,H',B,rfl,q,os,bare,un,hok,fl,cov⟩:=h
  have J:Inv X pins σ H' s':=I.call' (ch:=[]) os un hok bare (fun b z=>absurd z (by simp))
  rw [hb.xe]
  have hfr:X.A.frames=some (X.env :: X.outer):=by rw [I.ok.frames,hb.stk]
  have ub:Un X.fs [] X.H₀ H' X.s₀.heap s'.heap:=by
    have z:=J.base
    rw [hb.ex] at z
    exact z
  have ui:Un X.fs [] X.H₀ H X.s₀.heap s.heap:=by
    have z:=I.base
    rw [hb.ex] at z
    exact z
  have cov1:∀ b o,(H' b≠none\/∃ o',X.s₀.heap.get? b=some o')->b∉frs X.stack->s'.heap.get? b=some o->B.get? b=some o:=fun b o c n e =>
    cov b o (c.imp_right fun ⟨o',z⟩=>ui.there b o' z (by simp)) n e
  have fl':FlD B (X.env :: X.outer) ea (.ref C) .none s'.heap:=by
    rw [<- hb.stk]
    exact fl
  refine A9 hfr hb.fr fl' fun h'' x1 x2=>?_
  refine ⟨ea,C,H',B,rfl,hE _ _ _ q,J.os,J.bare,ub.left (stk:=frs X.stack) x1.1 cov1 J.oldfs (J.slotsOf x2),J.hok.left x1.1 (fun b o n e=>cov1 b o (.inl n) (J.ntr b n) e),x1,?_⟩
  intro b o c n e1
  have nb:b∉frs X.stack:=by
    rcases c with c | ⟨o',c⟩
    · exact J.ntr b c
    · exact fun z=>n (J.oldfs b o' c z)
  obtain ⟨o1,e2⟩:∃ o1,s'.heap.get? b=some o1:=by
    rcases c with c | ⟨o',c⟩
    · exact J.hok.has c
    · exact ub.there b o' c (by simp)
  have e3:h''.get? b=some o1:=x1.1 b o1 (cov1 b o1 c nb e2)
  have e4:h''.get? b=some o:=e1
  rw [e3] at e4
  cases e4
  exact cov1 b _ c nb e2
end
section
variable {X:Cx} {E:XK} {x:Str} {C:aa} {np cpos pos:Pos} {e₀:cX} {rest:List cX} {ta:TA} {K:af} {h:cB}
theorem Fj {bmB:List ae} {newId:String} (X:K.In h) (q:dD K C bmB newId=true) :
    ∃ bm N nm q bs hdct sn sub ab col dd k0 k1 k2 k3 k5 mN,h.get? C=some (excClassObj nm q C N bs bm hdct sn sub ab col dd k0 k1 k2 k3 k5 newId)/\h.Ns N mN/\mN "__init__"=none/\OwnTail h bmB bm:=by
  unfold dD at q
  split at q
  · rename_i dd cd sl ho
    split at q
    · rename_i C' bm k0 k1 k2 k3 n k5 hm hs
      simp only [mJ,beq_iff_eq,Bool.not_eq_true'] at q
      obtain ⟨⟨⟨⟨⟨rfl,rfl⟩,hdel⟩,ht⟩,hok⟩,hni⟩:=q
      obtain ⟨nm,bs,mro,ns,qn,hd,sn,sub,ab,col,del⟩:=cd
      dsimp only at hm hdel hok hni
      subst hm hdel
      have e:sl=#[k0,k1,k2,k3,some (.builtin n),k5]:=by
        obtain ⟨l⟩:=sl
        have hs':l=[k0,k1,k2,k3,some (.builtin n),k5]:=hs
        rw [hs']
      subst e
      exact ⟨bm,ns,nm,qn,bs,hd,sn,sub,ab,col,dd,k0,k1,k2,k3,k5,_,X _ _ ho,.of_isNs (PySem.W.isNs_of_in X hok),PySem.W.nsMap_none_of_in X hok hni,PySem.W.tail_of_in X ht⟩
    · cases q
  · cases q
def pB:List ae:=[.type "ValueError",.type "Exception",.type "BaseException",.type "object"]
def IG (C:aa) (E:XK) (ta:TA):TS:=fun _ σ H=>ta σ H fun vs H1=>vs.length<=aA/\E (.ref C) none H1
theorem jR (hb:rO X E) (hc:X.calm=true) (hg:Gl X x) (hm:X.mg x=some (.ref C)) (hx:dD X.K C pB "ValueError.__new__"=true) (ha:PA X (e₀ :: rest) ta)
    (hd:(x == ("__debug__":Str))=false:=by decide) (he:cH (e₀ :: rest) X.env=(false,eW e₀ X.env) :: cH rest X.env:=by rfl) (hpl:(iw cpos (cH rest X.env)).any (·.1)=false:=by rfl) :
    PS X (.Raise (some (.Call (.Name x np) (e₀ :: rest) [] cpos)) none pos) (IG C E ta):=by
  intro pins s σ H D I h
  obtain ⟨bm,N,nm,q,bs,hdct,sn,sub,ab,col,dd,k0,k1,k2,k3,k5,mN,hC,hN,hni,T⟩:=Fj I.ok.mod.kin hx
  have base:pB.contains (.type "BaseException")=true:=F.excBase_ValueError.hasBase
  refine wpAny_Raise_call_subT (C:=C) (nm:=nm) (q:=q) (N:=N) (bs:=bs) (bm:=bm) (hdct:=hdct) (sn:=sn) (sub:=sub) (ab:=ab) (col:=col) (dd:=dd) (k0:=k0) (k1:=k1) (k2:=k2) (k3:=k3) (k5:=k5)
    F.excBase_ValueError (mN:=mN) (T.hasType base) (I.ok.hd hc) (by rw [he]; show (false || (iw cpos (cH rest X.env)).any (·.1))=false; rw [hpl]; rfl) hni (pX I hg hm ⟨rfl,?_⟩ hd)
  have h1:=ha cpos pins s σ H _ I h
  rw [he] at h1 |-
  refine y7 (d9 h1 (fun us s2 z=>?_) fun _ _ y=>y)
  obtain ⟨vs,H1,I1,r,hl,q1⟩:=z
  exact ⟨rfl,by rw [<- r.length]; exact hl,I1.bk _ _ hC,hN.keeps I1.bk,T.keeps I1.bk,fun h' e hm=>hb.raises I1 hm q1⟩
end
section
variable {X:Cx} {pins:List (aa×Obj)} {σ:St} {H:Hp} {s:aj} {T:aa->St->Hp->Prop}
def wC (X:Cx) (pins:List (aa×Obj)) (H:Hp) (B h:cB):Prop:=
  ∀ b o,(H b≠none\/(b∉X.ex/\∃ o',X.s₀.heap.get? b=some o')\/∃ p∈X.pn++pins,p.1=b)->b∉frs X.stack->h.get? b=some o->B.get? b=some o
def tryW (X:Cx) (pins:List (aa×Obj)) (T:aa->St->Hp->Prop):ae->aj->Prop:=fun e s' =>
  ∃ ea C B σ H,e=.ref ea/\Inv X pins σ H s'/\Fly B X.stack ea C s'.heap/\wC X pins H B s'.heap/\T C σ H
abbrev Cx.tr (X:Cx) (pins:List (aa×Obj)) (T:aa->St->Hp->Prop):Cx:={X with xe:=tryW X pins T,pn:=X.pn++pins}
theorem Inv.tr (I:Inv X pins σ H s) (T:aa->St->Hp->Prop):Inv (X.tr pins T) [] σ H s:=
  ⟨⟨I.ok.mod,I.ok.kind,I.ok.glob,I.ok.blt,I.ok.above,I.ok.inj,I.ok.has,I.ok.cab,I.ok.hd,I.ok.frames,I.ok.stk,I.ok.exf,I.ok.bs,I.ok.bsz,I.ok.noex,I.ok.exfs,I.ok.funs,I.ok.frf⟩,I.os,I.bare,I.base,I.loc,I.cell,I.free,I.freeC,
    fun p hp=>I.pin p (by simpa using hp),I.hok,I.len⟩
theorem Inv.untr {pins':List (aa×Obj)} (I:Inv (X.tr pins T) pins' σ H s):Inv X pins σ H s:=
  ⟨⟨I.ok.mod,I.ok.kind,I.ok.glob,I.ok.blt,I.ok.above,I.ok.inj,I.ok.has,I.ok.cab,I.ok.hd,I.ok.frames,I.ok.stk,I.ok.exf,I.ok.bs,I.ok.bsz,I.ok.noex,I.ok.exfs,I.ok.funs,I.ok.frf⟩,I.os,I.bare,I.base,I.loc,I.cell,I.free,I.freeC,
    fun p hp=>I.pin p (gu _ hp),I.hok,I.len⟩
theorem Ad {h h':cB} {c:aa} {v:Option ae} (x:h.IsCell c v) (sm:h.UpToSlots h'):h'.IsCell c v:=by
  obtain ⟨o,ho,hd⟩:=x
  obtain ⟨sl,e⟩:=sm c o ho (fun vs q=>by rw [hd] at q; cases q)
  exact ⟨_,e,hd⟩
theorem Inv.landed {B h':cB} (I:Inv X pins σ H s) (hB:B.StaysIn h') (cov:wC X pins H B s.heap) (sm:s.heap.UpToSlots h'):Inv X pins σ H {s with heap:=h'}:=by
  refine ⟨I.ok,I.os,I.bare,⟨fun b o e n hb hx=>?_,fun b o e n hb hx=>?_,I.base.free,fun b o e hx=>?_,I.base.tups,I.base.frzs,I.base.tbls⟩,?_,fun x c e=>?_,I.free,I.freeC,fun p hp=>?_,I.hok.left hB (fun b o n e=>cov b o (.inl n) (I.ntr b n) e),I.len⟩
  · exact hB b o (cov b o (.inr (.inl ⟨hx,o,e⟩)) (fun z=>hb (I.oldfs b o e z)) (I.base.keep b o e n hb hx))
  · obtain ⟨s1,e1⟩:=I.base.slot b o e n hb hx
    obtain ⟨s2,e2⟩:=I.slotsOf sm b hb _ e1
    exact ⟨s2,e2⟩
  · obtain ⟨o',e'⟩:=I.base.there b o e hx
    by_cases hb:b∈frs X.stack
    · obtain ⟨s2,e2⟩:=I.slotsOf sm b (I.oldfs b o e hb) _ e'
      exact ⟨_,e2⟩
    · exact ⟨o',hB b o' (cov b o' (.inr (.inl ⟨hx,o,e⟩)) hb e')⟩
  · obtain ⟨m,hn,hl⟩:=I.loc
    refine ⟨m,sm.ns hn,fun i x v e1 e2 e3=>?_⟩
    obtain ⟨u,r,l⟩:=hl i x v e1 e2 e3
    refine ⟨u,r,?_⟩
    rcases l with l | ⟨k,c,e,l⟩
    · exact .inl l
    · exact .inr ⟨k,c,e,Ad l sm⟩
  · obtain ⟨v,q⟩:=I.cell x c e
    exact ⟨v,Ad q sm⟩
  · obtain ⟨e,n,l,f,d⟩:=I.pin p hp
    exact ⟨hB _ _ (cov p.1 p.2 (.inr (.inr ⟨p,hp,rfl⟩)) (fun z=>(au.mp (I.stkSub _ z)).elim l f) e),n,l,f,d⟩
theorem wC.land {B h':cB} (I:Inv X pins σ H s) (hB:B.StaysIn h') (cov:wC X pins H B s.heap):wC X pins H B h':=fun b o c n e=>by
  obtain ⟨o1,e1⟩:∃ o1,s.heap.get? b=some o1:=by
    rcases c with c | ⟨hx,o',c⟩ | ⟨p,hp,rfl⟩
    · exact I.hok.has c
    · exact I.base.there b o' c hx
    · exact ⟨_,(I.pin p hp).1⟩
  have e2:=hB b o1 (cov b o1 c n e1)
  rw [e] at e2
  cases e2
  exact cov b _ c n e1
abbrev Cx.hdl (X:Cx) (ea:aa):Cx:={X with A:=X.A.mark (some (.ref ea)),calm:=false,xe:=fun _ _=>False}
theorem Inv.hdl (I:Inv X pins σ H s) (ea:aa):Inv (X.hdl ea) pins σ H s:=
  ⟨⟨I.ok.mod,I.ok.kind,I.ok.glob,I.ok.blt,I.ok.above,I.ok.inj,I.ok.has,I.ok.cab,fun z=>sN z,I.ok.frames,I.ok.stk,I.ok.exf,I.ok.bs,I.ok.bsz,I.ok.noex,I.ok.exfs,I.ok.funs,I.ok.frf⟩,I.os,I.bare,I.base,I.loc,I.cell,I.free,I.freeC,
    I.pin,I.hok,I.len⟩
theorem Inv.unhdl {ea:aa} (ok:X.Ok) (I:Inv (X.hdl ea) pins σ H s):Inv X pins σ H s:=⟨ok,I.os,I.bare,I.base,I.loc,I.cell,I.free,I.freeC,I.pin,I.hok,I.len⟩
abbrev TH:=aa->TS
def PHs (X:Cx) (hs:List sO) (th:TH):Prop:=
  ∀ (pins:List (aa×Obj)) (s:aj) (σ:St) (H:Hp) (D:jM) (ea C:aa) (B:cB),Inv X pins σ H s->Fly B X.stack ea C s.heap->wC X pins H B s.heap->th C D σ H ->
    aU (aW X.prog X.w) X.A (handleBy (.ref ea) X.env hs) (SP X pins D) X.xe s
def thNil:TH:=fun _ _ _ _=>False
theorem Fk:PHs X [] thNil:=fun _ _ _ _ _ _ _ _ _ _ _ h=>h.elim
def Ae (CX:CXT) (X:Cx) (E:St->XK):Prop:=∀ (pins:List (aa×Obj)) (σ:St) (H:Hp) (s:aj) (e:ae) (s':aj),Inv X pins σ H s->CX X.stack H s (E σ) e s'->X.xe e s'
def tryE (T:aa->St->Hp->Prop):St->XK:=fun σ c _ H=>∃ C,c=.ref C/\T C σ H
theorem zd:Ae (CXo X.prog X.w) (X.tr pins T) (tryE T):=fun pins' σ H s e s' I h=>by
  obtain ⟨ea,C,H',B,rfl,⟨C',hC,q⟩,os,bare,un,hok,fl,cov⟩:=h
  cases hC
  have J:Inv (X.tr pins T) pins' σ H' s':=I.call' (ch:=[]) os un hok bare (fun b z=>absurd z (by simp))
  refine ⟨ea,C,B,σ,H',rfl,J.untr,fl,fun b o c n e=>cov b o ?_ n e,q⟩
  rcases c with c | ⟨c1,o',c2⟩ | ⟨p,hp,rfl⟩
  · exact .inl c
  · exact .inr (I.base.there b o' c2 c1)
  · exact .inr ⟨_,(I.pin p (gu _ hp)).1⟩
def IH (sp:Sp) (E:St->XK) (t:TA):TE:=fun σ H Q=>t σ H fun vs H1=>sp vs H1 Q (E σ)
variable {CX:CXT} {k:Nat} {f:aa} {fd:bY} {ps:List Str} {sp:Sp} {E:St->XK} {x:Str} {p pos:Pos} {e:cX} {es:List cX} {t:TA}
theorem C1 (F:bT X.prog X.w X.K X.mg X.base CX k f fd ps sp) (hr:dP k X.A) (hg:Gl X x) (hm:X.mg x=some (.ref f)) (hk:fK X.K (.ref f)=true) (hb:Binds X.K fd ps []) (hx:Ae CX X E) (ha:PA X (e :: es) t)
    (hdb:(x == ("__debug__":Str))=false:=by decide) (he:cH (e :: es) X.env=(false,eW e X.env) :: cH es X.env:=by rfl) (hpl:(iw pos (cH es X.env)).any (·.1)=false:=by rfl) :
    PE X (.Call (.Name x p) (e :: es) [] pos) (IH sp E t):=by
  intro pins s σ H Q I h
  refine gP (pX I hg hm ?_ hdb)
  refine jO (h₀:=X.base) I.ok.mod.kin hk (thn (ha pos pins s σ H _ I h) fun us s1 z=>?_) he hpl
  obtain ⟨vs,H1,I1,r,q⟩:=z
  refine ⟨I1.kIn,?_⟩
  have hl:(us++[]).length=ps.length:=by
    rw [dC,<- r.length]
    exact F.len _ _ _ _ q
  have hb1:=hb s1 us I1.kIn hl
  rw [dC] at hb1
  refine yU (kX (F.run X.A X.stack s1 H1 ⟨us,[]⟩ us vs Q (E σ) hr I1.env0 hb1 r q) fun r s' hq=>?_)
  cases r with
  | error e=>exact hx pins σ H1 s1 e s' I1 hq
  | ok fl =>
    cases fl with
    | ret u=>exact I1.after hq
    | next=>exact cO hq
    | brk=>exact cO hq
    | cont=>exact cO hq
end
theorem Fun.okX {P:aM} {w:bH} {K:af} {mg:Str->Option ae} {base:cB} {x qual:Str} {st:df} {f:aa} {fd:bY} {N ps:List Str} {k:Nat} {sp:Sp} (F:Fun K x qual st f fd) (S:bV N ps (aQ st)) (len:∀ vs H Q E,sp vs H Q E->vs.length=ps.length)
    (hbody:∀ (cdv:ae) (A:bP) (outer:List Env) (s:aj) (H:Hp) (vs:List V) (Q:VK) (E:XK),dP k (A.deeper (qV qual (aQ st) s.heap.objs.size f cdv))->sp vs H Q E ->
      ∃ t,PSs (qU (CXo P w) P w K mg base N qual (aQ st) f cdv A outer s H E) (iq st) t/\t {nx:=fun _ H'=>Q .non H',rt:=Q} (start N vs) H):bT P w K mg base (CXo P w) (k + 1) f fd ps sp:=by
  obtain ⟨oc,od,kV,doc,pm,an,cdv,ct,osl,rfl,lk,hcd⟩:=F.ex
  exact Hs lk hcd S len fun A outer s H vs Q E hr hsp=>hbody cdv A outer s H vs Q E hr hsp
end L2
namespace L2
open PySem PySem.Spec PyProof.Rows
theorem wD {prog:aM} {w:bH} {A:bP} {R:Iu->aj->Prop} {s:aj} {elt target iter:cX} {ifs:List cX} {scope:j5} {pos:Pos} {it acc:ae} {env:Env} (J:Nat->aj->Prop)
    (turn:∀ n s,J n s->aU (aW prog w) A (pyNext it) (fun r s1=>match r with
      | none=>R (.ok .next) s1
      | some v=>aU (aW prog w) A (pO target it v) (fun _ s2=>aU (aW prog w) A (vT target env v) (fun _ s3 =>
          aU (aW prog w) A (forIn ifs true fun c r=>if r=true then do let ok <- B4 c env (eW c env); pure (ForInStep.yield ok) else pure (ForInStep.yield r)) (fun ok s4 =>
            if ok=true then aU (aW prog w) A (eW elt env) (fun x s5=>aU (aW prog w) A (vV (.builtin "list.append") [acc,x]) (fun _ s6=>∃ m,m < n/\J m s6) (fun _ _=>False) s5) (fun _ _=>False) s4
            else ∃ m,m < n/\J m s4) (fun _ _=>False) s3) (fun _ _=>False) s2) (fun _ _=>False) s1) (fun _ _=>False) s)
    (n:Nat) (h:J n s):m5 (aW prog w) A (.compLoop (.ListComp elt [⟨target,iter,ifs,0⟩] scope pos) 0 it acc env) R s:=by
  refine codeAny_loop rfl J (fun n s hI=>?_) n h
  show aU _ A ((compTurn (.ListComp elt [⟨target,iter,ifs,0⟩] scope pos) 0 it acc env).onRaise
    (fun x=>do BR x env; theTreesLotGoes x)) _ _ s
  refine wpAny_noted ?_
  rw [compTurn_list]
  refine ai (sJ (ai (d9 (turn n s hI) (fun r s1 h1=>?_) fun _ _ z=>z.elim)))
  cases r with
  | none=>exact aN h1
  | some v =>
    refine ai (d9 h1 (fun _ s2 h2=>?_) fun _ _ z=>z.elim)
    refine ai (d9 h2 (fun _ s3 h3=>?_) fun _ _ z=>z.elim)
    refine ai (d9 h3 (fun ok s4 h4=>?_) fun _ _ z=>z.elim)
    cases ok with
    | false=>exact aN ⟨rfl,h4⟩
    | true =>
      refine ai (ai (d9 h4 (fun x s5 h5=>?_) fun _ _ z=>z.elim))
      exact ai (d9 h5 (fun _ s6 h6=>aN (aN ⟨rfl,h6⟩)) fun _ _ z=>z.elim)
theorem xQ {env:Env}:∀ {names:List (Str×jx)} {x:Str},
    (names.map fun (n,k)=>if (k == NameKind.free && env.scope.kind == .function && env.kindOf n == some .cell) then (n,NameKind.cell) else (n,k)).lookup x=some .local->names.lookup x=some .local
  | [],_,h=>by simp at h
  | (n,k) :: r,x,h=>by
    have ih:=@xQ env r x
    rw [bR] at h
    dsimp only at h
    by_cases hc:(k == NameKind.free && env.scope.kind == .function && env.kindOf n == some .cell)=true
    · rw [if_pos hc] at h
      cases hx:x == n with
      | true=>simp [cD,hx] at h
      | false =>
        simp only [cD,hx] at h |-
        exact ih h
    · rw [if_neg hc] at h
      cases hx:x == n with
      | true =>
        simp only [cD,hx] at h |-
        exact h
      | false =>
        simp only [cD,hx] at h |-
        exact ih h
theorem wF {env:Env}:∀ {names:List (Str×jx)} {x:Str},
    ((names.map fun (n,k)=>if (k == NameKind.free && env.scope.kind == .function && env.kindOf n == some .cell) then (n,NameKind.cell) else (n,k)).lookup x=some .cell \/
     (names.map fun (n,k)=>if (k == NameKind.free && env.scope.kind == .function && env.kindOf n == some .cell) then (n,NameKind.cell) else (n,k)).lookup x=some .free)->names.lookup x=some .cell\/names.lookup x=some .free
  | [],_,h=>by simp at h
  | (n,k) :: r,x,h=>by
    have ih:=@wF env r x
    rw [bR] at h
    dsimp only at h
    by_cases hc:(k == NameKind.free && env.scope.kind == .function && env.kindOf n == some .cell)=true
    · rw [if_pos hc] at h
      have hk:k=.free:=by
        have z:=(o6.mp (o6.mp hc).1).1
        exact eq_of_beq z
      cases hx:x == n with
      | true =>
        simp only [cD,hx]
        rw [hk]
        exact .inr rfl
      | false =>
        simp only [cD,hx] at h |-
        exact ih h
    · rw [if_neg hc] at h
      cases hx:x == n with
      | true =>
        simp only [cD,hx] at h |-
        exact h
      | false =>
        simp only [cD,hx] at h |-
        exact ih h
def nJ (env:Env):List (Str×jx)->List (Str×aa)->List (Str×aa)
  | [],cs=>cs
  | (n,k) :: r,cs=>nJ env r (if k=.free then (match env.cells.lookup n with | some c=>(n,c) :: cs | none=>cs) else cs)
theorem xR {env:Env}:∀ (names:List (Str×jx)) (cs:List (Str×aa)),(∀ y∈names,y.2=.free->∃ c,env.cells.lookup y.1=some c) ->
    (forIn names cs fun x r=>(do
      if (x.2 == NameKind.free)=true then do
        let c <- cellOf env x.1
        pure (ForInStep.yield ((x.1,c) :: r))
      else pure (ForInStep.yield r):Sem (ForInStep (List (Str×aa)))))=(pure (nJ env names cs):Sem (List (Str×aa)))
  | [],cs,_=>rfl
  | (n,k) :: r,cs,h=>by
    have ih:=fun cs'=>xR r cs' (fun y hy=>h y (ag _ hy))
    rw [List.forIn_cons]
    by_cases hk:k=.free
    · subst hk
      obtain ⟨c,hc⟩:=h _ aw rfl
      have e1:cellOf env n=pure c:=by
        unfold cellOf
        rw [show env.cells.lookup n=some c from hc]
      have e2:nJ env ((n,.free) :: r) cs=nJ env r ((n,c) :: cs):=by
        show nJ env r (if NameKind.free=.free then (match env.cells.lookup n with | some c=>(n,c) :: cs | none=>cs) else cs)=_
        rw [if_pos rfl,show env.cells.lookup n=some c from hc]
      rw [e2,<- ih]
      simp [e1]
    · have e2:nJ env ((n,k) :: r) cs=nJ env r cs:=by
        show nJ env r (if k=.free then _ else cs)=_
        rw [if_neg hk]
      rw [e2,<- ih]
      have e3:(k == NameKind.free)=false:=by
        cases k <;> first | rfl | exact absurd rfl hk
      simp [e3]
theorem xT {env:Env}:∀ {names:List (Str×jx)} {cs:List (Str×aa)} {n:Str} {c:aa},(∀ n c,cs.lookup n=some c->env.cells.lookup n=some c)->(nJ env names cs).lookup n=some c->env.cells.lookup n=some c
  | [],_,_,_,h,e=>h _ _ e
  | (m,k) :: r,cs,n,c,h,e=>by
    refine xT (names:=r) (fun n' c' e'=>?_) e
    by_cases hk:k=.free
    · rw [if_pos hk] at e'
      cases hm:env.cells.lookup m with
      | none =>
        rw [hm] at e'
        exact h _ _ e'
      | some d =>
        rw [hm] at e'
        dsimp only at e'
        rw [cD] at e'
        split at e'
        · rename_i z
          rw [eq_of_beq z,hm]
          exact e'
        · exact h _ _ e'
    · rw [if_neg hk] at e'
      exact h _ _ e'
theorem vw {env:Env}:∀ (names:List (Str×jx)) (cs:List (Str×aa)) (n:Str),(∃ c,cs.lookup n=some c)->∃ c,(nJ env names cs).lookup n=some c
  | [],_,_,h=>h
  | (m,k) :: r,cs,n,h=>by
    refine vw r _ n ?_
    by_cases hk:k=.free
    · rw [if_pos hk]
      cases hm:env.cells.lookup m with
      | none=>exact h
      | some d =>
        dsimp only
        rw [cD]
        split
        · exact ⟨_,rfl⟩
        · exact h
    · rw [if_neg hk]
      exact h
theorem xU {env:Env}:∀ {names:List (Str×jx)} {cs:List (Str×aa)} {n:Str},(n,NameKind.free)∈names->(∃ c,env.cells.lookup n=some c)->∃ c,(nJ env names cs).lookup n=some c
  | [],_,_,h,_=>by cases h
  | (m,k) :: r,cs,n,h,hc=>by
    rcases au.mp h with e | e
    · obtain ⟨e1,e2⟩:=Prod.mk.inj e
      subst e1 e2
      obtain ⟨c,hc⟩:=hc
      refine vw r _ n ⟨c,?_⟩
      rw [if_pos rfl,hc]
      dsimp only
      rw [cD,beq_self_eq_true]
    · exact xU (names:=r) e hc
structure ia (X:Cx) (scope:j5) (NN:List Str):Prop where
  nocell:∀ y∈scope.names,y.2≠.cell
  kind:scope.kind=.function
  names:∀ y∈scope.names,y.2=.local->scope.names.lookup y.1=some .local
  far:∀ y∈scope.names,y.2=.free->X.env.kindOf y.1=some .cell\/X.env.kindOf y.1=some .free
  len:NN.length=X.N.length
  apart:∀ (i:Nat) (n:Str),NN[i]?=some n->scope.names.lookup n≠some .local/\(X.N[i]?=some n\/scope.names.lookup n=none)
theorem ia.closed {X:Cx} {scope:j5} (hf:∀ y∈scope.names,y.2≠.free) (hc:∀ y∈scope.names,y.2≠.cell) (hk:scope.kind=.function) (hn:∀ y∈scope.names,y.2=.local->scope.names.lookup y.1=some .local)
    (ha:∀ n∈X.N,scope.names.lookup n≠some .local):ia X scope X.N where
  nocell:=hc
  kind:=hk
  names:=hn
  far:=fun y hy e=>absurd e (hf y hy)
  len:=rfl
  apart:=fun i n e=>⟨ha n (cw e),.inl e⟩
theorem ia.open {X:Cx} {scope:j5} {NN N:List Str} {sc:j5} (hN:X.N=N) (hsc:X.env.scope=sc) (hc:∀ y∈scope.names,y.2≠.cell) (hk:scope.kind=.function) (hn:∀ y∈scope.names,y.2=.local->scope.names.lookup y.1=some .local)
    (hf:∀ y∈scope.names,y.2=.free->sc.names.lookup y.1=some .cell) (hl:NN.length=N.length) (ha:∀ p∈NN.zip N,scope.names.lookup p.1≠some .local/\(p.2=p.1\/scope.names.lookup p.1=none)):ia X scope NN where
  nocell:=hc
  kind:=hk
  names:=hn
  far:=fun y hy e=>.inl (by have z:=hf y hy e; rw [<- hsc] at z; exact z)
  len:=by rw [hN]; exact hl
  apart:=fun i n e=>by
    have lt:i < N.length:=by rw [<- hl]; exact (aB.mp e).1
    have e2:N[i]?=some N[i]:=ax lt
    have z:=ha (n,N[i]) (cw (i:=i) (by rw [wG]; exact ⟨e,e2⟩))
    refine ⟨z.1,?_⟩
    rcases z.2 with z | z
    · left
      rw [hN,e2]
      exact congrArg some z
    · exact .inr z
abbrev cxC (X:Cx) (scope:j5) (NL:List Str) (fp:List aa) (s₂:aj) (H₂:Hp) (C:aa):Cx:=
  {X with N:=NL,s₀:=s₂,H₀:=H₂,env:=compEnvC scope (nJ X.env scope.names []) C X.env,outer:=X.stack,ex:=fp,fn:=fun _=>false,pn:=[],xe:=fun _ _=>False}
def PTs (X:Cx) (ifs:List cX) (t:TT):Prop:=
  ∀ (pins:List (aa×Obj)) (s:aj) (σ:St) (H:Hp) (Q:Bool->Hp->Prop),Inv X pins σ H s->t σ H Q ->
    aU (aW X.prog X.w) X.A (forIn ifs true fun c r=>if r=true then do let ok <- B4 c X.env (eW c X.env); pure (ForInStep.yield ok) else pure (ForInStep.yield r)) (TP X pins σ Q) X.xe s
def uP:TT:=fun _ H Q=>Q true H
theorem jI {X:Cx}:PTs X [] uP:=fun pins s σ H Q I h=>wpAny_tests_nil ⟨H,I,h⟩
def rP (n:Nat) (wi:TI) (g:TG) (tc:TT) (te:TE):TE:=fun σ H Q=>wi σ H fun J H1=>∃ W:Nat->Nat->List V->Hp->Prop,(∃ m,W 0 m [] H1)/\∀ i m ys H,W i m ys H->ys.length < aA /\
  ((J.stop i H/\∀ p,H p=none->Q (.ref p) (upd H p (.lst ys))) \/
   (J.go i H/\∃ N:List V->Hp->Prop,(∀ ys' H',N ys' H'->∃ m',m' < m/\W (i + 1) m' ys' H')/\∀ x H',J.yld i H x H'->g x (cC n none++σ) H' fun σ2 H2=>σ2.drop n=σ/\tc σ2 H2 fun b H3 =>
      if b=true then te σ2 H3 fun y H4=>N (ys++[y]) H4 else N ys H3))
section
variable {X:Cx}
theorem xV {σ σ2:St} {n:Nat} (h:σ2.drop n=σ) (i:Nat) (v:V) (e:(cC n none++σ)[i]?=some (some v)):σ2[i]?=some (some v):=by
  by_cases hi:i < n
  · rw [eQ (by simpa using hi),mH,if_pos hi] at e
    cases e
  · rw [dS (by simpa using hi),jo] at e
    rw [<- h,BU] at e
    rw [show n + (i - n)=i by omega] at e
    exact e
theorem xW {elt target iter:cX} {ifs:List cX} {scope:j5} {NN:List Str} {pos pos':Pos} {wi:TI} {g:TG} {tc:TT} {te:TE} {use:Option (ae->Sem Unit)} {Qv:ae->aj->Prop} (own:List Str) (ok:ia X scope NN) (hc:X.calm=true) (hi:PI X target iter wi)
    (hg:∀ fp s₂ H₂ C,PG (cxC X scope (own++NN) fp s₂ H₂ C) target g) (ht:∀ fp s₂ H₂ C,PTs (cxC X scope (own++NN) fp s₂ H₂ C) ifs tc) (he:∀ fp s₂ H₂ C,PE (cxC X scope (own++NN) fp s₂ H₂ C) elt te)
    (hs:∀ x,mY iter X.env x=pure x) {pins:List (aa×Obj)} {s:aj} {σ:St} {H:Hp} {Q:VK} (I:Inv X pins σ H s) (h:rP own.length wi g tc te σ H Q)
    (hfin:∀ (s4:aj) (C D:aa) (H':Hp) (m:Str->Option ae),s4.heap.Ns C m->Inv X pins σ H' s4->H' C=none->C≠X.env.locals->X.s₀.heap.objs.size<=C->(∀ x c,X.env.cells.lookup x=some c->c≠C)->(∀ p∈X.pn++pins,p.1≠C)->Q (.ref D) H' ->
      compPost (aW X.prog X.w) X.A X.xe use Qv (.ref D) C (.ok .next) s4) :
    aU (aW X.prog X.w) X.A (comprehension (.ListComp elt [⟨target,iter,ifs,0⟩] scope pos) scope X.env pos' (newList []) false (eW iter X.env) use) Qv X.xe s:=by
  have hfr:∀ y∈scope.names,y.2=.free->∃ c,X.env.cells.lookup y.1=some c:=fun y hy e=>I.ok.has _ (ok.far y hy e)
  have okclos:closureFor scope X.env=pure (nJ X.env scope.names []):=by
    unfold closureFor
    rw [<- xR scope.names [] hfr]
    simp
  have oksub:∀ n c,(nJ X.env scope.names []).lookup n=some c->X.env.cells.lookup n=some c:=fun n c e=>xT (fun n c e=>by simp at e) e
  have okfar:∀ n,(scope.names.lookup n=some .cell\/scope.names.lookup n=some .free)->(∃ c,(nJ X.env scope.names []).lookup n=some c)/\(X.env.kindOf n=some .cell\/X.env.kindOf n=some .free):=fun n e=>by
    rcases e with e | e
    · exact absurd rfl (ok.nocell _ (fq e))
    · have m:=fq e
      exact ⟨xU m (hfr _ m rfl),ok.far _ m rfl⟩
  refine wpAny_comprehension_free (use:=use) rfl hs okclos ok.kind ok.names (thn (hi pins s σ H _ I h) fun xv s1 h1=>thn h1 fun itv s2 h2=>?_)
  obtain ⟨it,fp,tn,J,H2,e,I2,T,st2,f2,W,⟨m0,w0⟩,turn⟩:=h2
  subst e
  have fpLt:∀ b∈fp,b < s2.heap.objs.size:=fun b hb=>by
    obtain ⟨o,e,_⟩:=T.obj _ _ st2 b hb
    exact aK e
  refine ij (wpAny_newFunctionEnv ok.nocell (by intro y hy; simp at hy) (fun h1 hns hsb=>?_) ok.kind)
  dsimp only at hns hsb |-
  generalize hP:s2.heap.push {cls:=.type "list",dict:=none,data:=.seq ([]:List ae).toArray}=P at hns hsb |-
  have hC:P.objs.size=s2.heap.objs.size + 1:=by rw [<- hP,ve]
  have hDC:s2.heap.objs.size≠P.objs.size:=by rw [hC]; exact aL (tP _)
  have leC:s2.heap.objs.size<=P.objs.size:=by rw [hC]; exact fb _
  have old:∀ b o,s2.heap.get? b=some o->h1.get? b=some o:=fun b o e =>
    hsb.extBut b o (by rw [hC]; exact aL (jd (aK e))) (aI _ (hP ▸ aI _ e))
  have accAt:h1.get? s2.heap.objs.size=some {cls:=.type "list",data:=.seq ([]:List ae).toArray 0}:=hsb.extBut _ _ hDC (aI _ (hP ▸ cv _ rfl))
  -- the block's context is well made
  have okC:(cxC X scope (own++NN) fp s2 H2 P.objs.size).Ok:=by
    refine ⟨I.ok.mod,ok.kind,I.ok.glob,I.ok.blt,by show s2.heap.objs.size<=P.objs.size; omega,fun y z c a b=>I.ok.inj y z c (oksub _ _ a) (oksub _ _ b),fun y hy=>(okfar y (wF hy)).1,fun y c z _=>sN z,I.ok.hd,I.ok.frames,.inl rfl,
      fun b hb=>⟨fun z=>?_,fun y c e=>(f2 b hb).2.2.2.2.1 y c (oksub _ _ e)⟩,I2.bs,c8 I.ok.bsz I2.sz,fun b o e hb=>?_,fun b hb z=>?_,I2.stack,I2.stkFree⟩
    · exact aL (aY (fpLt b hb) leC) z
    · rcases (f2 b hb).2.2.2.1 with q | q
      · exact I.ok.noex b o e q
      · exact absurd (aY (aK e) (c8 I.ok.bsz q)) (gy _)
    · rcases au.mp (I2.stkSub b z) with q | q
      · exact (f2 b hb).2.1 q
      · exact (f2 b hb).2.2.1 q
  have fpOk:∀ {H':Hp} {o:Obj},(∀ b∈fp,H' b=none)->∀ b∈fp,vU (cxC X scope (own++NN) fp s2 H2 P.objs.size) [(s2.heap.objs.size,o)] H' b:=fun {H' o} hn b hb=>by
    have lt:=fpLt b hb
    refine ⟨hn b hb,fun z=>?_,fun z=>okC.exfs b hb z,.inl hb,fun y c e=>(okC.exf b hb).2 y c e,fun p hp z=>?_⟩
    · exact aL (aY lt leC) z
    · have hp':p=(s2.heap.objs.size,o):=by simpa using hp
      subst hp'
      exact aL lt (Eq.symm z)
  have cellNe:∀ y c,(nJ X.env scope.names []).lookup y=some c->c < s2.heap.objs.size:=fun y c e=>by
    obtain ⟨v,q⟩:=I2.cell y c (oksub _ _ e)
    exact q.lt
  have start:Inv (cxC X scope (own++NN) fp s2 H2 P.objs.size) [] (cC own.length none++σ) H2 {s2 with heap:=h1,toks:=s2.toks + ([]:List (Str×ae)).length}:=by
    refine ⟨okC,rfl,I2.bare,Un.kept old,⟨_,hns,fun i y v e1 e2 e3=>?_⟩,fun y c e=>?_,I2.hok.fresh (by show s2.heap.objs.size<=P.objs.size; omega),fun y c e=>I2.freeC y c (oksub _ _ e),fun p hp=>absurd (show p∈([]:List (aa×Obj)) from by simpa using hp) (by simp),I2.hok.kept old,?_⟩
    · by_cases hi:i < own.length
      · rw [eQ (by simpa using hi),mH,if_pos hi] at e2
        cases e2
      · have e1n:NN[i - own.length]?=some y:=by
          have z:(own++NN)[i]?=some y:=e1
          rw [dS (by omega)] at z
          exact z
        rw [dS (by simpa using hi),jo] at e2
        obtain ⟨ap1,ap2⟩:=ok.apart _ y e1n
        rcases e3 with e3 | e3
        · exact absurd (xQ e3) ap1
        · obtain ⟨⟨c,hcl⟩,kc⟩:=okfar y (wF e3)
          have e1':X.N[i - own.length]?=some y:=by
            rcases ap2 with z | z
            · exact z
            · rcases wF e3 with q | q <;> (rw [z] at q; cases q)
          obtain ⟨m,hn,hl⟩:=I2.loc
          obtain ⟨u,r,l⟩:=hl (i - own.length) y v e1' e2 (.inr kc)
          refine ⟨u,r,.inr ⟨e3,c,hcl,?_⟩⟩
          rcases l with ⟨l,_⟩ | ⟨_,c',e',q⟩
          · rcases kc with kc | kc <;> (rw [l] at kc; cases kc)
          · rw [oksub _ _ hcl] at e'
            cases e'
            exact q.keeps old
    · obtain ⟨v,q⟩:=I2.cell y c (oksub _ _ e)
      exact ⟨v,q.keeps old⟩
    · show (cC own.length none++σ).length=(own++NN).length
      rw [aE,aE,jo,I2.len,ok.len]
  have nDC:s2.heap.objs.size≠P.objs.size:=hDC
  have nDf:s2.heap.objs.size∉frs X.stack:=fun z=>by
    rcases au.mp (I2.stkSub _ z) with q | q
    · exact aL I2.lt (Eq.symm q)
    · exact I2.nofs (aC _) q
  have loop:∀ s₃:aj,s₃={s2 with heap:=h1,toks:=s2.toks + ([]:List (Str×ae)).length} ->
      m5 (aW X.prog X.w) X.A (.compLoop (.ListComp elt [⟨target,iter,ifs,0⟩] scope pos) 0 (.ref it) (.ref s2.heap.objs.size) (compEnvC scope (nJ X.env scope.names []) P.objs.size X.env))
        (compPost (aW X.prog X.w) X.A X.xe use Qv (.ref s2.heap.objs.size) P.objs.size) s₃:=by
    rintro s₃ rfl
    refine wD (fun n s'=>∃ (i:Nat) (ys:List V) (H':Hp) (its:List ae) (k:Nat),Inv (cxC X scope (own++NN) fp s2 H2 P.objs.size) [] (cC own.length none++σ) H' s'/\tn i s'.heap/\(∀ b∈fp,H' b=none)/\H' s2.heap.objs.size=none/\cS ys its /\
      s'.heap.get? s2.heap.objs.size=some {cls:=.type "list",data:=.seq its.toArray k}/\W i n ys H') ?_ m0
      ⟨0,[],H2,[],0,start,T.keep _ _ _ st2 (fun b _ o e=>old b o e),fun b hb=>(f2 b hb).1,I2.hok.fresh (aC _),.nil,accAt,w0⟩
    rintro n s3 ⟨i,ys,H3,its,k,I3,st3,fr3,nD,rv,hD,w3⟩
    have Ip:Inv (cxC X scope (own++NN) fp s2 H2 P.objs.size) [(s2.heap.objs.size,{cls:=.type "list",data:=.seq its.toArray k})] (cC own.length none++σ) H3 s3:=I3.pins_of fun p hp=>by
      have hp':p=(s2.heap.objs.size,{cls:=.type "list",data:=.seq its.toArray k}):=by simpa using hp
      subst hp'
      exact ⟨hD,nD,nDC,nDf,fun v z=>by cases z⟩
    obtain ⟨hl,hw⟩:=turn i n ys H3 w3
    rcases hw with ⟨stop,fin⟩ | ⟨go,N,hN,step⟩
    · refine thn (T.done (cxC X scope (own++NN) fp s2 H2 P.objs.size) rfl rfl rfl hc i _ s3 _ H3 _ Ip (fpOk fr3) st3 stop) fun r s4 z=>?_
      obtain ⟨hr,I4⟩:=z
      subst hr
      obtain ⟨m,hn,_⟩:=I4.loc
      have hD4:s4.heap.get? s2.heap.objs.size=some {cls:=.type "list",data:=.seq its.toArray k}:=(I4.pin _ (bF _ aw)).1
      obtain ⟨h',eh'⟩:∃ h',h'=s4.heap:=⟨_,rfl⟩
      have sb':∀ b o,b≠P.objs.size->s4.heap.get? b=some o->h'.get? b=some o:=fun b o hb e=>by rw [eh']; exact e
      have oldNe:∀ b o,s2.heap.get? b=some o->b≠P.objs.size/\b≠s2.heap.objs.size:=fun b o e=>by
        have lt:=aK e
        exact ⟨aL (aY lt leC),aL lt⟩
      have trNe:∀ b u,H3 b=some u->b≠P.objs.size/\b≠s2.heap.objs.size:=fun b u e=>by
        refine ⟨fun z=>?_,fun z=>?_⟩
        · have q:H3 P.objs.size=none:=I4.free
          rw [<- z,e] at q
          cases q
        · rw [z,nD] at e
          cases e
      have un:Un (frs X.stack) fp H2 (upd H3 s2.heap.objs.size (.lst ys)) s2.heap h':=by
        have B:=I4.base
        refine ⟨fun b o e q hb hx=>sb' b o (oldNe b o e).1 (B.keep b o e q hb hx),fun b o e q hb hx=>?_,fun b o e q hx=>?_,fun b o e hx=>?_,fun b xs e=>?_,fun b o u e=>?_,fun b ps e=>?_⟩
        · obtain ⟨sl,e1⟩:=B.slot b o e q hb hx
          exact ⟨sl,sb' _ _ (oldNe b o e).1 e1⟩
        · rw [aJ (oldNe b o e).2]
          exact B.free b o e q hx
        · obtain ⟨o',e1⟩:=B.there b o e hx
          exact ⟨o',sb' _ _ (oldNe b o e).1 e1⟩
        · have q:=B.tups b xs e
          rw [aJ (trNe _ _ q).2]
          exact q
        · have q:=B.frzs b o u e
          rw [aJ (trNe _ _ q).2]
          exact q
        · obtain ⟨more,q⟩:=B.tbls b ps e
          refine ⟨more,?_⟩
          rw [aJ (trNe _ _ q).2]
          exact q
      have hok:HOk X.prog X.w (upd H3 s2.heap.objs.size (.lst ys)) h':=fun b u e=>by
        by_cases hb:b=s2.heap.objs.size
        · subst hb
          rw [ah] at e
          cases e
          exact ⟨j6 hl,its,k,rv,sb' _ _ nDC hD4⟩
        · rw [aJ hb] at e
          refine (I4.hok b u e).stay (fun c v hc q=>sb' c v ?_ q) (fun c q=>?_) fun c xs q=>?_
          · rcases hc with z | z
            · rw [z]
              exact (trNe _ _ e).1
            · exact (trNe _ _ z).1
          · rw [aJ (trNe _ _ q).2]
            exact q
          · rw [aJ (trNe _ _ q).2]
            exact q
      have J:=I2.call' (s':={s4 with heap:=h'}) (ch:=fp) I4.os un hok I4.bare fun b hb=>⟨(f2 b hb).2.2.2.1,(f2 b hb).2.1,(f2 b hb).2.2.2.2.1,(f2 b hb).2.2.2.2.2⟩
      subst eh'
      refine hfin s4 P.objs.size s2.heap.objs.size (upd H3 s2.heap.objs.size (.lst ys)) m hn J ?_ ?_ ?_ (fun y c e=>?_) (fun q hq=>?_) (fin _ nD)
      · rw [aJ nDC.symm]
        exact I4.free
      · exact m9 (aY I2.lt leC)
      · exact c8 I2.sz leC
      · obtain ⟨v,z⟩:=I2.cell y c e
        exact aL (aY z.lt leC)
      · exact aL (aY (aK (I2.pin q hq).1) leC)
    · refine thn (T.item (cxC X scope (own++NN) fp s2 H2 P.objs.size) rfl rfl rfl hc i _ s3 _ H3 _ Ip (fpOk fr3) st3 go) fun r s4 z=>?_
      obtain ⟨u,hr,h4⟩:=z
      subst hr
      refine thn h4 fun _ s5 z=>?_
      obtain ⟨x,H5,I5,r5,y5,st5,fr5⟩:=z
      have I5':=I5.pinned (fpOk fr5) (T.obj _ _ st5)
      refine thn (hg fp s2 H2 P.objs.size _ s5 _ H5 x u _ I5' r5 (step x H5 y5)) fun _ s6 z=>?_
      obtain ⟨σ6,H6,I6,hσ,q6⟩:=z
      refine thn (ht fp s2 H2 P.objs.size _ s6 σ6 H6 _ I6 q6) fun okb s7 z=>?_
      obtain ⟨H7,I7,q7⟩:=z
      have pinD:∀ {H8:Hp} {s8:aj},Inv (cxC X scope (own++NN) fp s2 H2 P.objs.size) ([(s2.heap.objs.size,{cls:=.type "list",data:=.seq its.toArray k})]++qP fp s5.heap) σ6 H8 s8 ->
          s8.heap.get? s2.heap.objs.size=some {cls:=.type "list",data:=.seq its.toArray k}/\H8 s2.heap.objs.size=none:=fun I8=>by
        have z:=I8.pin (s2.heap.objs.size,{cls:=.type "list",data:=.seq its.toArray k}) (bF _ (gu _ aw))
        exact ⟨z.1,z.2.1⟩
      have pinF:∀ {H8:Hp} {s8:aj},Inv (cxC X scope (own++NN) fp s2 H2 P.objs.size) ([(s2.heap.objs.size,{cls:=.type "list",data:=.seq its.toArray k})]++qP fp s5.heap) σ6 H8 s8 ->
          tn (i + 1) s8.heap/\∀ b∈fp,H8 b=none:=fun {H8 s8} I8=>by
        refine ⟨T.keep _ _ _ st5 fun b hb o e=>(I8.pin (b,o) (bF _ (bF _ (lP hb e)))).1,fun b hb=>?_⟩
        obtain ⟨o,e,_⟩:=T.obj _ _ st5 b hb
        exact (I8.pin (b,o) (bF _ (bF _ (lP hb e)))).2.1
      have len6:(cC own.length none++σ).length=σ6.length:=by rw [I6.len,start.len]
      cases okb with
      | false =>
        have q7':N ys H7:=q7
        obtain ⟨m',lt,w'⟩:=hN _ _ q7'
        obtain ⟨d1,d2⟩:=pinD I7
        obtain ⟨p1,p2⟩:=pinF I7
        have J7:Inv (cxC X scope (own++NN) fp s2 H2 P.objs.size) [] σ6 H7 s7:=I7.pins_of (fun p hp=>absurd hp (by simp))
        exact ⟨m',lt,i + 1,ys,H7,its,k,J7.weak len6 (xV hσ),p1,p2,d2,rv,d1,w'⟩
      | true =>
        refine thn (he fp s2 H2 P.objs.size _ s7 σ6 H7 _ I7 q7) fun v8 s8 z=>?_
        obtain ⟨y,H8,I8,r8,n8⟩:=z
        obtain ⟨m',lt,w'⟩:=hN _ _ n8
        obtain ⟨d1,d2⟩:=pinD I8
        obtain ⟨p1,p2⟩:=pinF I8
        refine append_at (hsz:=by rw [av,<- rv.length]; exact j6 hl) d1 fun h9 sb hD9=>?_
        have J8:Inv (cxC X scope (own++NN) fp s2 H2 P.objs.size) [] σ6 H8 s8:=I8.pins_of (fun p hp=>absurd hp (by simp))
        have J9:Inv (cxC X scope (own++NN) fp s2 H2 P.objs.size) [] σ6 H8 {s8 with heap:=h9}:=J8.turned (t':=s8.toks) (it:=s2.heap.objs.size) (fun b o hb e=>sb.extBut b o hb e) d2 nDC (.inr (aC _)) (fun y c e=>aL (cellNe y c e)) (fun p hp=>absurd hp (by simp))
        refine ⟨m',lt,i + 1,ys++[y],H8,its++[v8],k + 1,J9.weak len6 (xV hσ),T.keep _ _ _ p1 (fun b hb o e=>sb.extBut b o (aL (fpLt b hb)) e),p2,d2,rv.append (.cons r8 .nil),?_,w'⟩
        show h9.get? _=_
        rw [hD9,List.push_toArray]
  exact codeAny_compStart_list (loop _ rfl) (T.self X.A 0 _ _ _ (T.keep _ _ _ st2 (fun b _ o e=>old b o e)) (loop _ rfl))
theorem sP {elt target iter:cX} {ifs:List cX} {scope:j5} {NN:List Str} {pos:Pos} {wi:TI} {g:TG} {tc:TT} {te:TE} (own:List Str) (ok:ia X scope NN) (hc:X.calm=true) (hi:PI X target iter wi)
    (hg:∀ fp s₂ H₂ C,PG (cxC X scope (own++NN) fp s₂ H₂ C) target g) (ht:∀ fp s₂ H₂ C,PTs (cxC X scope (own++NN) fp s₂ H₂ C) ifs tc) (he:∀ fp s₂ H₂ C,PE (cxC X scope (own++NN) fp s₂ H₂ C) elt te)
    (hs:∀ x,mY iter X.env x=pure x:=by intro _; rfl):PE X (.ListComp elt [⟨target,iter,ifs,0⟩] scope pos) (rP own.length wi g tc te):=by
  intro pins s σ H Q I h
  rw [eval_ListComp]
  refine xW (use:=none) own ok hc hi hg ht he hs I h fun s4 C D H' m hn J n1 n2 n3 n4 n5 q=>?_
  exact ⟨m,hn,fun h' sb=>⟨.ref D,H',J.turned (t':=s4.toks) (it:=C) (fun b o hb e=>sb.extBut b o hb e) n1 n2 (.inr n3) n4 n5,rfl,q⟩⟩
theorem qj {elt target iter:cX} {ifs:List cX} {scope:j5} {NN:List Str} {pos pos' spos:Pos} {wi:TI} {g:TG} {tc:TT} {te:TE} {i:Nat} {x:Str} (own:List Str) (ok:ia X scope NN) (hc:X.calm=true) (hN:X.N.Nodup) (hx0:X.N[i]?=some x) (hx:Loc X.env.scope x) (hi:PI X target iter wi)
    (hg:∀ fp s₂ H₂ C,PG (cxC X scope (own++NN) fp s₂ H₂ C) target g) (ht:∀ fp s₂ H₂ C,PTs (cxC X scope (own++NN) fp s₂ H₂ C) ifs tc) (he:∀ fp s₂ H₂ C,PE (cxC X scope (own++NN) fp s₂ H₂ C) elt te)
    (hs:∀ x,mY iter X.env x=pure x:=by intro _; rfl) (hf:X.fn x=true\/X.env.scope.names.lookup x=some .local:=by first | exact .inl rfl | exact .inr rfl | assumption)
    (hsw:rH (.ListComp elt [⟨target,iter,ifs,0⟩] scope pos) (some (.Name x pos')) spos.line X.env=pure true:=by rfl):PS X (.Assign [.Name x pos'] (.ListComp elt [⟨target,iter,ifs,0⟩] scope pos) spos) (AX (rP own.length wi g tc te) (u9 i)):=by
  intro pins s σ H D I h
  rw [exec_Assign_Name_used _ _ _ _ hsw]
  refine ai (sJ (ai ?_))
  show aU _ X.A (do let _ <- comprehension (.ListComp elt [⟨target,iter,ifs,0⟩] scope pos) scope X.env _ (newList []) false (eW iter X.env) (some (vT (.Name x pos') X.env))) _ _ s
  refine ai (d9 (xW (use:=some (vT (.Name x pos') X.env)) (Qv:=fun _ s'=>SP X pins D .next s') own ok hc hi hg ht he hs I h fun s4 C DD H' m hn J n1 n2 n3 n4 n5 q=>?_) (fun _ s' hq=>aN (aN hq)) fun _ _ e=>e)
  show aU _ X.A (vT (.Name x pos') X.env (.ref DD)) _ _ s4
  refine Km (uY J hN hx0 hx (show RelV (.ref DD) (.ref DD) from rfl) (fun s' J' z=>?_) hf)
  obtain ⟨a,sb,ha⟩:=z
  have na:C≠a:=by
    rcases ha with ha | ha
    · rw [ha]
      exact n2
    · exact (n4 x a ha).symm
  refine ⟨m,hn.at' fun o e=>sb.extBut C o na e,fun h' sb2=>⟨_,H',J'.turned (t':=s'.toks) (it:=C) (fun b o hb e=>sb2.extBut b o hb e) n1 n2 (.inr n3) n4 n5,q⟩⟩
end
section
variable {K:af} {a:aa} {xs:List V} {n:Nat} {g:TG} {tc:TT} {te:TE} {σ:St} {H:Hp} {Q:VK}
theorem qZ (Pv:Nat->List V->Hp->Prop) (h0:Pv 0 [] H) (hl:∀ i ys H,i<=xs.length->Pv i ys H->SqL K H a xs/\ys.length < aA)
    (hs:∀ i x ys H,xs[i]?=some x->Pv i ys H->g x (cC n none++σ) H fun σ2 H2=>σ2.drop n=σ/\tc σ2 H2 fun b H3=>if b=true then te σ2 H3 fun y H4=>Pv (i + 1) (ys++[y]) H4 else Pv (i + 1) ys H3)
    (hd:∀ ys H,Pv xs.length ys H->∀ p,H p=none->Q (.ref p) (upd H p (.lst ys))) :
    ∃ W:Nat->Nat->List V->Hp->Prop,(∃ m,W 0 m [] H)/\∀ i m ys H,W i m ys H->ys.length < aA/\(((Itl K a).stop i H/\∀ p,H p=none->Q (.ref p) (upd H p (.lst ys))) \/
      ((Itl K a).go i H/\∃ N:List V->Hp->Prop,(∀ ys' H',N ys' H'->∃ m',m' < m/\W (i + 1) m' ys' H')/\∀ x H',(Itl K a).yld i H x H'->g x (cC n none++σ) H' fun σ2 H2=>σ2.drop n=σ/\tc σ2 H2 fun b H3 =>
        if b=true then te σ2 H3 fun y H4=>N (ys++[y]) H4 else N ys H3)):=by
  refine ⟨fun i m ys H=>m=xs.length - i/\i<=xs.length/\Pv i ys H,⟨xs.length,by simp,bj _,h0⟩,?_⟩
  rintro i m ys H ⟨rfl,hi,p⟩
  obtain ⟨q,z⟩:=hl i ys H hi p
  refine ⟨z,?_⟩
  by_cases hlt:i < xs.length
  · refine .inr ⟨⟨xs,xs[i],q,by simp [hlt]⟩,Pv (i + 1),fun ys' H' p'=>⟨xs.length - (i + 1),by omega,rfl,hlt,p'⟩,fun x H' y=>?_⟩
    obtain ⟨e,y⟩:=y
    subst e
    exact hs i x ys _ (y xs q) p
  · have e:i=xs.length:=by omega
    subst e
    exact .inl ⟨⟨xs,q,aC _⟩,hd ys H p⟩
theorem C2 (Pv:Nat->List V->Hp->Prop) (h0:Pv 0 [] H) (hl:∀ i ys H,i<=xs.length->Pv i ys H->SqT K H a xs/\ys.length < aA)
    (hs:∀ i x ys H,xs[i]?=some x->Pv i ys H->g x (cC n none++σ) H fun σ2 H2=>σ2.drop n=σ/\tc σ2 H2 fun b H3=>if b=true then te σ2 H3 fun y H4=>Pv (i + 1) (ys++[y]) H4 else Pv (i + 1) ys H3)
    (hd:∀ ys H,Pv xs.length ys H->∀ p,H p=none->Q (.ref p) (upd H p (.lst ys))) :
    ∃ W:Nat->Nat->List V->Hp->Prop,(∃ m,W 0 m [] H)/\∀ i m ys H,W i m ys H->ys.length < aA/\(((Itt K a).stop i H/\∀ p,H p=none->Q (.ref p) (upd H p (.lst ys))) \/
      ((Itt K a).go i H/\∃ N:List V->Hp->Prop,(∀ ys' H',N ys' H'->∃ m',m' < m/\W (i + 1) m' ys' H')/\∀ x H',(Itt K a).yld i H x H'->g x (cC n none++σ) H' fun σ2 H2=>σ2.drop n=σ/\tc σ2 H2 fun b H3 =>
        if b=true then te σ2 H3 fun y H4=>N (ys++[y]) H4 else N ys H3)):=by
  refine ⟨fun i m ys H=>m=xs.length - i/\i<=xs.length/\Pv i ys H,⟨xs.length,by simp,bj _,h0⟩,?_⟩
  rintro i m ys H ⟨rfl,hi,p⟩
  obtain ⟨q,z⟩:=hl i ys H hi p
  refine ⟨z,?_⟩
  by_cases hlt:i < xs.length
  · refine .inr ⟨⟨xs,xs[i],q,by simp [hlt]⟩,Pv (i + 1),fun ys' H' p'=>⟨xs.length - (i + 1),by omega,rfl,hlt,p'⟩,fun x H' y=>?_⟩
    obtain ⟨e,y⟩:=y
    subst e
    exact hs i x ys _ (y xs q) p
  · have e:i=xs.length:=by omega
    subst e
    exact .inl ⟨⟨xs,q,aC _⟩,hd ys H p⟩
end
end L2
namespace PySem
theorem wH:Iy (.type "list") "keys"=pure none:=by rw [typeLookup_type,builtinLookup_eq_fast]; kernel_rfl
theorem xX:entryFor table "dict.update.loop"=some ig.«dict.update.loop»:=entryFor_of_tree (by kernel_rfl)
section
variable {prog:aM} {w:bH} {A:bP} {E:ae->aj->Prop} {s:aj}
theorem Fl {a:aa} {xs:Array ae} {k:Nat} {sl:Array (Option ae)} {Q:Option ae->aj->Prop} (hx:s.heap.get? a=some {cls:=.type "list",dict:=none,data:=.seq xs k,slots:=sl}) (hA:A.handled=none)
    (h:∀ h' tk,(∀ b o,s.heap.get? b=some o->h'.get? b=some o)->Q none {s with heap:=h',toks:=tk}):aU (aW prog w) A (getAttr? (.ref a) "keys") Q E s:=by
  obtain ⟨hp,g,d,tk,os⟩:=s
  have hT:∀ tk',(⟨hp,g,d,tk',os⟩:aj).TypeIs (.ref a) "list":=fun _=>⟨_,hx,rfl⟩
  have f1:=sub_AttributeError
  have f3:=F.slot_list_getattribute.lookup
  have f4:=F.slot_list_getattribute.bind (.ref a)
  have f5:=am_list_getattr_none
  unfold getAttr? getAttrBy? getAttrBy
  have go:∀ (u:Tok) (tk:Nat) (Q:ae->aj->Prop) (E:ae->aj->Prop),(∀ h' tk' e,Heap.NewAttrErr hp h' e (.ref a) "keys"->E (.ref e) ⟨h',g,d,tk',os⟩)->aU (aW prog w) A (vV (Value.builtin "list.__getattribute__") [.ref a,.str "keys" u]) Q E ⟨hp,g,d,tk,os⟩:=fun u tk Q E k1 =>
    pA F.slot_list_getattribute (hT _) am_entry_list_getattribute (F.args_list_getattribute_2 _ _) (meets_getattribute_miss_list a xs k sl "keys" _ wH (by decide +kernel)) ⟨hx,hA,fun h' tk' e hx'=>k1 h' tk' e hx'⟩
  repeat (any_goals (first | assumption | exact hT _ | refine go _ _ _ _ (fun h' tk' e hx'=>?_) | wp_step))
  obtain ⟨t',u',he⟩:=hx'.there
  repeat (any_goals (first | assumption | wp_step))
  exact h _ _ hx'.keeps
def ze {prog:aM} {w:bH} {K:Type} [DecidableEq K] (knd:KeyKind prog w K) (h:cB) (p:K×ae) (x:ae):Prop:=
  ∃ (a:aa) (kv:ae) (o:Obj) (n:Nat),x=.ref a/\h.get? a=some o/\o.cls=.type "tuple"/\o.data=.seq #[kv,p.2] n/\knd.is p.1 kv=true
variable {K:Type} [DecidableEq K] {knd:KeyKind prog w K}
theorem C3 {a:aa} {o:Obj} {n:Nat} {k v:ae} {Q:List ae->aj->Prop} (ho:s.heap.get? a=some o) (hc:o.cls=.type "tuple") (hd:o.data=.seq #[k,v] n) (h:Q [k,v] s):aU (aW prog w) A (sQ (.ref a)) Q E s:=by
  unfold sQ
  have hT:s.TypeIs (.ref a) "tuple":=⟨o,ho,hc⟩
  refine ai (Cw hT ?_)
  rw [if_pos (by decide)]
  refine ai (wpAny_seqItems ho hd (aN ?_))
  exact h
theorem Af {R:Iu->aj->Prop} {it l d:aa} {items:Array ae} {result:ae} (hA:A.handled=none) (hl:l≠d) (hi:it≠d) (hil:it≠l):∀ (ps:List (K×ae)) (i:Nat) (kvs:List (K×ae)) (s:aj) (t:Tok) (z:Int),
    s.heap.IsListIter it l i->s.heap.IsList l items->s.heap.DictOf knd d kvs->aO (fun p x=>ze knd s.heap p x/\x≠.ref d/\x≠.ref it) ps (items.toList.drop i)->kvs.length + ps.length<=aA ->
    (∀ h' tk,h'.DictOf knd d (ps.foldl (fun m p=>wz m p.1 p.2) kvs)->(∀ b o,b≠d->b≠it->s.heap.get? b=some o->h'.get? b=some o)->R (.ok (.ret result)) {s with heap:=h',toks:=tk}) ->
    m5 (aW prog w) A (.builtin "dict.update.loop" ⟨[.ref d,.ref it,.int z t,result],[]⟩) R s
  | [],i,kvs,s,t,z,hit,hls,hd,hp,hz,h=>by
    have hnil:items.toList.drop i=[]:=by
      have e:=hp.length
      exact List.length_eq_zero_iff.mp e.symm
    have hx:items[i]?=none:=by
      have e:=List.drop_eq_nil_iff.mp hnil
      simp only [fk] at e
      exact Array.getElem?_eq_none e
    refine pQ xX ?_
    unfold ig.«dict.update.loop»
    dsimp only
    refine ai (p7 hA hit hls hx fun h' eb=>?_)
    dsimp only
    refine ai ?_
    unfold Builtin.Dict.addKeywords
    refine aN ?_
    refine aN (h h' _ (hd.extBut eb hi.symm) fun b o _ hb e=>eb b o hb e)
  | p :: ps,i,kvs,s,t,z,hit,hls,hd,hp,hz,h=>by
    cases e0:items.toList.drop i with
    | nil =>
      rw [e0] at hp
      cases hp
    | cons x r =>
      rw [e0] at hp
      cases hp with
      | cons h1 h2 =>
        obtain ⟨⟨a,kv,o,n,rfl,ho,hc,hdt,hk⟩,nd,ni⟩:=h1
        have hx:items[i]?=some (.ref a):=by
          have e:=congrArg (fun l=>l[0]?) e0
          simpa using e
        have hr:items.toList.drop (i + 1)=r:=by
          have e:=congrArg List.tail e0
          simpa using e
        refine pQ xX ?_
        unfold ig.«dict.update.loop»
        dsimp only
        refine ai (pe hit hls hx fun h1' hit' sb=>?_)
        dsimp only
        refine ai (c7 (ai (wpAny_tryCatch ?_)))
        have nai:a≠it:=fun q=>ni (by rw [q])
        have nad:a≠d:=fun q=>nd (by rw [q])
        refine C3 (s:={s with heap:=h1'}) ((sb.2 a nai).trans ho) hc hdt ?_
        dsimp only
        refine c7 (wpAny_dictSet_pairs (s:={s with heap:=h1'}) hk (hd.extBut sb.extBut hi.symm) (fun h2' hd2 sb2=>?_) (by simp only [aP] at hz; omega))
        refine aN ⟨BV _ (by decide +kernel),?_⟩
        have keep:∀ b ob,b≠d->b≠it->s.heap.get? b=some ob->h2'.get? b=some ob:=fun b ob nb1 nb2 e=>sb2.extBut b ob nb1 (sb.extBut b ob nb2 e)
        refine Af (items:=items) hA hl hi hil ps (i + 1) (wz kvs p.1 p.2) {s with heap:=h2',toks:=s.toks + 1} _ _ ?_ ?_ hd2 ?_ ?_ ?_
        · obtain ⟨oi,ei,ci,di⟩:=hit'
          exact ⟨oi,sb2.extBut it oi hi ei,ci,di⟩
        · obtain ⟨ol,el,cl⟩:=hls
          exact ⟨ol,keep l ol hl hil.symm el,cl⟩
        · rw [hr]
          clear e0 hr h hz hd hit hit' hls
          induction h2 with
          | nil=>exact .nil
          | cons q1 q2 ih =>
            refine .cons ?_ ih
            obtain ⟨⟨a',kv',o',n',rfl,ho',hc',hdt',hk'⟩,nd',ni'⟩:=q1
            exact ⟨⟨a',kv',o',n',rfl,keep a' o' (fun q=>nd' (by rw [q])) (fun q=>ni' (by rw [q])) ho',hc',hdt',hk'⟩,nd',ni'⟩
        · have hs:(wz kvs p.1 p.2).length<=kvs.length + 1:=by
            unfold wz
            split
            · rw [ar]
              omega
            · simp
          simp only [aP] at hz
          omega
        · intro h' tk hd' k'
          exact h h' tk hd' fun b ob nb1 nb2 e=>k' b ob nb1 nb2 (keep b ob nb1 nb2 e)
theorem Fn {l:aa} {items:Array ae} {k:Nat} {sl:Array (Option ae)} {ps:List (K×ae)} {Q:ae->aj->Prop} (hA:A.handled=none) (hx:s.heap.get? l=some {cls:=.type "list",dict:=none,data:=.seq items k,slots:=sl})
    (hp:aO (ze knd s.heap) ps items.toList) (hz:ps.length<=aA)
    (h:∀ h' tk,h'.DictOf knd s.heap.objs.size (ps.foldl (fun m p=>wz m p.1 p.2) [])->(∀ b o,s.heap.get? b=some o->h'.get? b=some o)->Q (.ref s.heap.objs.size) {s with heap:=h',toks:=tk}) :
    aU (aW prog w) A (vV (.type "dict") [.ref l]) Q E s:=by
  refine callType_codes (Q₁:=fun obj s1=>obj=.ref s.heap.objs.size/\s1={s with heap:=s.heap.push {cls:=.type "dict",data:=.dict #[]}}) F.kt_called_dict (F.kt_typeCall_dict_1 _) F.entry_dict_init (kt_code_dict_new _ ⟨rfl,rfl⟩) ?_
  rintro obj s1 ⟨rfl,rfl⟩
  have hnew:(s.heap.push {cls:=.type "dict",data:=.dict #[]}).DictOf knd s.heap.objs.size []:=yB s.heap
  have up:∀ b o,s.heap.get? b=some o->(s.heap.push {cls:=.type "dict",data:=.dict #[]}).get? b=some o:=fun b o e=>aI _ e
  have hlt:=aK hx
  refine ⟨hnew.typeIs,F.args_dict_init_2 _ _,?_⟩
  unfold ig.«dict.__init__»
  refine ai ?_
  unfold Builtin.Dict.selfAndRest
  refine ai (wpAny_notOrdered_dict hnew.typeIs ?_)
  show aU _ _ (pure (s.heap.objs.size,[Value.ref l])) _ _ _
  refine aN ?_
  show aU _ _ (sy "dict.__init__" s.heap.objs.size (.ref l) [] .none) _ _ _
  unfold sy
  have hT:({s with heap:=s.heap.push {cls:=.type "dict",data:=.dict #[]}}:aj).TypeIs (.ref l) "list":=⟨_,up _ _ hx,rfl⟩
  refine ai (Cw hT ?_)
  rw [if_pos (by decide)]
  refine ai (Fl (s:={s with heap:=s.heap.push {cls:=.type "dict",data:=.dict #[]}}) (up _ _ hx) hA fun h1 tk1 k1=>?_)
  rw [if_pos (by rfl)]
  refine ai (zf (ai ?_))
  have hl1:h1.IsList l items:=⟨_,k1 _ _ (up _ _ hx),rfl,k,rfl⟩
  refine uI (s:={s with heap:=h1,toks:=tk1}) hl1 ?_
  have sz1:s.heap.objs.size < h1.objs.size:=by
    obtain ⟨o,_,_,e,_⟩:=hnew
    exact aK (k1 _ _ e)
  have up2:∀ b o,s.heap.get? b=some o->(h1.push {cls:=.type "list_iterator",data:=.fields #[.ref l,.int 0 0]}).get? b=some o:=fun b o e=>aI _ (k1 _ _ (up _ _ e))
  refine aN ⟨BV _ (by decide +kernel),?_⟩
  refine Af (A:=A.in1) (knd:=knd) (items:=items) hA (l:=l) (aL hlt) (m9 sz1) (m9 (nI hlt sz1)) ps 0 [] _ _ _ ?_ ?_ ?_ ?_ ?_ ?_
  · exact ⟨_,cv _ rfl,rfl,rfl⟩
  · exact hl1.push _
  · obtain ⟨o,es,ep,e,r⟩:=hnew
    exact ⟨o,es,ep,aI _ (k1 _ _ e),r⟩
  · rw [o7]
    clear h hz
    generalize items.toList=xs at hp
    induction hp with
    | nil=>exact .nil
    | cons q1 q2 ih =>
      refine .cons ?_ ih
      obtain ⟨a,kv,o,n,rfl,ho,hc,hd,hk⟩:=q1
      have la:=aK ho
      refine ⟨⟨a,kv,o,n,rfl,up2 _ _ ho,hc,hd,hk⟩,fun q=>?_,fun q=>?_⟩
      · injection q with q
        exact aL la q
      · injection q with q
        exact aL (nI la sz1) q
  · simpa using hz
  · intro h' tk hd k'
    refine ⟨rfl,h h' tk hd fun b o e=>k' b o ?_ ?_ (up2 b o e)⟩
    · exact aL (aK e)
    · exact aL (nI (aK e) sz1)
end
end PySem
namespace L2
open PySem PySem.Spec PyProof.Rows
section
variable {X:Cx}
theorem vx {n:Nat} (h:n < 2 ^ 64):n.log2 < 9000:=by
  by_cases z:n=0
  · subst z
    decide
  · exact nI ((Nat.log2_lt z).mpr h) (by decide)
def CDivB (_ j:Int):Prop:=0 < j/\j < 2 ^ 64
theorem xY:OpR X (gX .FloorDiv) (rI CDivB fun i j=>.int (i / j)):=opI fun i j _ _ _ _ _ hc q=>by
  have h1:(0:Int) < j:=hc.1
  have h2:j < 2 ^ 64:=hc.2
  have h3:j.natAbs < 2 ^ 64:=by omega
  exact Cj (by omega) (by rw [vX i (by omega)]; exact q) (.inl (uQ (vx h3)))
def CDivM (_ j:Int):Prop:=j≠0/\j.natAbs < 2 ^ 64
theorem C4:OpR X (gX .FloorDiv) (rI CDivM fun i j=>.int (i.fdiv j)):=opI fun _ _ _ _ _ _ _ hc q=>Cj hc.1 q (.inl (uQ (vx hc.2)))
theorem ju:mC X (.builtin "isinstance") (fun xs H Q=>∃ x n t b,xs=[x,.ty n]/\qT X.K H x t/\eS X.K t (.type n)=some b/\Q (.bl b) H):=by
  intro pins s σ H xs us Q I r h
  obtain ⟨x,n,t,b,rfl,ty,e,q⟩:=h
  obtain ⟨u,w',rfl,rx,rt⟩:=vals2 r
  cases (show w'=Value.type n from rt)
  exact A4 I rx ty e fun tk=>⟨.bl b,H,I.tok _,rfl,q⟩
def sR (H:Hp):List (Key×V)->List V->Prop:=aO fun (p:Key×V) x=>∃ a,x=V.ref a/\H a=some (.tup [kV p.1,p.2])
theorem C5 {P:aM} {w:bH} {H:Hp} {h:cB} (ok:HOk P w H h):∀ {ps:List (Key×V)} {vs:List V} {us:List ae},sR H ps vs->cS vs us->∃ qs:List (Key×ae),KV ps qs/\aO (ze (eY P w) h) qs us:=by
  intro ps vs us r
  unfold sR at r
  induction r generalizing us with
  | nil =>
    intro v
    cases v
    exact ⟨[],.nil,.nil⟩
  | @cons p x ps vs q1 q2 ih =>
    intro v
    cases v with
    | cons r1 r2 =>
      obtain ⟨a,rfl,ha⟩:=q1
      obtain ⟨qs,k1,k2⟩:=ih r2
      cases r1
      obtain ⟨_,its,rv,o,ho,hc,n,hd⟩:=(show d5 P w H h a (.tup [kV p.1,p.2]) from ok a _ ha)
      obtain ⟨ku,vu,rfl,rk,rw'⟩:=vals2 rv
      exact ⟨(p.1,vu) :: qs,.cons ⟨rfl,rw'⟩ k1,.cons ⟨a,ku,o,n,rfl,ho,hc,hd,xM rk⟩ k2⟩
theorem Fo {ps:List (Key×V)} {qs:List (Key×ae)} (r:KV ps qs):∀ {m:List (Key×V)} {n:List (Key×ae)},KV m n->KV (ps.foldl (fun m p=>iV m p.1 p.2) m) (qs.foldl (fun m p=>wz m p.1 p.2) n):=by
  unfold KV at r
  induction r with
  | nil =>
    intro m n k
    exact k
  | @cons p q ps qs h t ih =>
    intro m n k
    obtain ⟨h1,h2⟩:=h
    rw [nK,nK,<- h1]
    exact ih (k.put p.1 h2)
theorem xZ (ps:List (Key×V)):∀ m:List (Key×V),(ps.foldl (fun m p=>iV m p.1 p.2) m).length<=m.length + ps.length:=by
  induction ps with
  | nil =>
    intro m
    exact aC _
  | cons p ps ih =>
    intro m
    rw [nK,aP]
    have h1:=ih (iV m p.1 p.2)
    have h2:=nG m p.1 p.2
    omega
theorem zg (hc:X.calm=true):mC X (.type "dict") (fun xs H Q=>∃ p vs ps,xs=[V.ref p]/\H p=some (.lst vs)/\sR H ps vs/\ps.length<=aA/\∀ d,H d=none->Q (.ref d) (upd H d (.dK (ps.foldl (fun m p=>iV m p.1 p.2) [])))):=by
  intro pins s σ H xs us Q I r h
  obtain ⟨p,vs,ps,rfl,hp,pi,hz,q⟩:=h
  obtain ⟨u,rfl,ru⟩:=vals1 r
  cases ru
  obtain ⟨_,its,n,rv,ho⟩:=(show d5 X.prog X.w H s.heap p (.lst vs) from I.hok p _ hp)
  obtain ⟨qs,k1,k2⟩:=C5 I.hok pi rv
  refine Fn (knd:=eY X.prog X.w) (I.ok.hd hc) ho k2 (by rw [<- k1.length]; exact hz) fun h' tk hd kk=>?_
  have hf:=Fo k1 (m:=[]) (n:=[]) .nil
  have hl:=xZ ps []
  refine ⟨.ref s.heap.objs.size,_,I.laid (a:=s.heap.objs.size) (o:=.dK (ps.foldl (fun m p=>iV m p.1 p.2) [])) (t':=tk) kk (aC _) ?_,rfl,q _ (I.hok.fresh (aC _))⟩
  exact zb (by simp only [cM] at hl; omega) (beq_eq_false_iff_ne.mpr (eZ (aL I.big))) hf hd
end
end L2
namespace Att
open PySem PySem.W PySem.Calls PyProof.Rows
theorem weight_mem:∀ (xs:List WData) (x:WData),x∈xs->jS x<=tU xs
  | [],_,h=>by cases h
  | y :: r,x,h=>by
    unfold tU
    rcases au.mp h with e | e
    · subst e
      omega
    · have:=weight_mem r x e
      omega
theorem bits_of_lay {ns:List Int} (h:WData.layableAll [WData.list (ns.map WData.int)]=true):∀ n∈ns,eX n<=1048576:=fun n hn=>by
  have h1:(WData.list (ns.map WData.int)).layable=true:=(layW_cons h).1
  unfold WData.layable at h1
  have h2:jS (WData.list (ns.map WData.int))<=2 ^ 20:=of_decide_eq_true (o6.mp h1).2
  have h3:=weight_mem (ns.map WData.int) (WData.int n) (cL.mpr ⟨n,hn,rfl⟩)
  have h4:jS (WData.list (ns.map WData.int))=tU (ns.map WData.int):=by
    rw [jS]
  have h5:jS (WData.int n)=eX n:=by
    rw [jS]
    rfl
  have e:(2:Nat) ^ 20=1048576:=by decide
  omega
theorem attach_callB {l:OpenLaw} {n:Nat} {q:aM} {loose:List Str} {XP:(Str->Option ae)->cB->Prop} {YP:bH->cB->Prop} {d:DefRec}
    (hn:l.most=some n) (hdf:d.params.defaults=[])
    (vV:∀ (w:bH) (s₀ s₁:aj) (mg mb:Str->Option ae) (fa:aa) (a:aa) (vs:List ae) (ns:List Int),
      Ground q loose [] XP w s₀ mg mb s₁.heap->YP w s₁.heap->mg d.name=some (.ref fa) ->
      s₁.heap.get? a=some {cls:=.type "list",data:=.seq vs.toArray}->eV vs ns->ns.length<=n->(∀ x∈ns,eX x<=1048576)->s₁.gens=#[] ->
      m5 (aW l.prog w) uO (.call (.ref fa) ⟨[.ref a],[]⟩) (fun r s'=>r=.ok (.ret (.bool true))/\OldK s₁.heap s'.heap/\s'.os=s₁.os/\mV s'.gens) s₁) :
    WalkO q loose XP YP l.row.toRowW d [] (fun f vs=>Ba f vs):=by
  intro w s₀ s₁ mg mb G Y fa o pm cd doc dV kV ho hd hcd hD hmg hg args vals as hpre hlay hrd hwl hlo
  obtain rfl:dV=.none:=Dflts.none hD hdf
  obtain rfl:kV=.none:=Dflts.noKw hD
  obtain ⟨a,vs,ns,rfl,rfl,hobj,hints,hlen⟩:=script_of hn hpre hwl
  refine enter_call (kX (vV w s₀ s₁ mg mb fa a vs ns G Y hmg hobj hints hlen (bits_of_lay hlay) hg) fun r s' hq=>?_)
  obtain ⟨rfl,h2,h3,h4⟩:=hq
  exact ⟨.inl ⟨.bool true,.bool true,[],rfl,fun _=>rfl,.bool true,post_true l _,fun _=>⟨List.Pairwise.nil,fun _ hm=>(nomatch hm)⟩⟩,h2,h3,h4⟩
end Att
namespace L2
open PySem PySem.Spec PyProof.Rows
theorem walk_ofB {l:sC} {n k:Nat} {q:aM} {loose:List Str} {XP:(Str->Option ae)->cB->Prop} {YP:bH->cB->Prop} {d:DefRec} {K:Params->af} {CX:bH->CXT} {sp:bH->Sp} {x:Str}
    (hn:l.most=some n) (hn2:n<=aA) (hdf:d.params.defaults=[]) (hr:dP k uO)
    (hY:∀ (w:bH) (h:cB),YP w h->(K w.params).In h)
    (F:∀ (w:bH) (mg:Str->Option ae) (fa:aa) (h:cB),(K w.params).In h->h.Ns bL mg->mg d.name=some (.ref fa) ->
      ∃ fd:bY,(∀ (s:aj) (u:ae),rL s fd ⟨[u],[]⟩ [(x,u)]) /\
        ∀ base:cB,(K w.params).In base->base.Ns bL mg->bT l.prog w (K w.params) mg base (CX w) k fa fd [x] (sp w))
    (hsp:∀ (w:bH) (H:Hp) (a:aa) (ns:List Int),ns.length<=n->(∀ x∈ns,eX x<=1048576)->SqL (K w.params) H a (ns.map V.int)->sp w [.ref a] H (fun v _=>v=.bl true) fun _ _ _=>False)
    (hCX:∀ (w:bH) (H:Hp) (s:aj) (e:ae) (s':aj),CX w [] H s (fun _ _ _=>False) e s'->False) :
    EU q loose XP YP l.row.toRowW d [] (fun f vs=>Ba f vs):=by
  refine Att.attach_callB hn hdf fun w s₀ s₁ mg mb fa a vs ns G Y hmg hobj hints hlen hbits hg=>?_
  have KX:=hY w _ Y
  obtain ⟨fd,hb,hF⟩:=F w mg fa _ KX G.T.g hmg
  exact CT KX G.T.g G.T.b G.T.builtins G.T.nolimit hg hobj hints (c8 hlen hn2) hr hF hb (fun H hO hS=>hsp w H a ns hlen hbits hS) fun H e s'=>hCX w H s₁ e s'
end L2
namespace PySem
open SeqAt MeetsSeq MeetsSeq2 MeetsSeq3 SeqRoads2
open AutoSeq1 (wpAny_loadPart')
def kJ (prog:aM) (w:bH) (A:bP) (s:aj) (y x:ae):Prop:=
  ∀ (E:ae->aj->Prop) (Q:Bool->aj->Prop),Q true s->aU (aW prog w) A (eqBool y x) Q E s
def RcIn (prog:aM) (w:bH) (A:bP) (s:aj) (y x:ae):Prop:=
  ∀ (E:ae->aj->Prop) (Q:ae->aj->Prop),Q (.bool true) s->aU (aW prog w) A (qW .Eq y x) Q E s
section
variable {prog:aM} {w:bH} {A:bP} {s:aj}
theorem kJ.of_at {y x:ae} (h:EqAt A s y x true):kJ prog w A s y x:=fun E Q q=>h prog w E Q q
theorem kJ.self (v:ae):kJ prog w A s v v:=kJ.of_at (EqAt.same v)
theorem kJ.refs {l b:aa} (h:RcIn prog w A s (.ref l) (.ref b)):kJ prog w A s (.ref l) (.ref b):=by
  by_cases e:l=b
  · rw [e]
    exact kJ.self _
  · intro E Q q
    unfold eqBool
    refine c7 (wpAny_ite_split (fun z=>?_) (fun _=>?_))
    · exact absurd (by have z':=eq_of_beq z; injection z') e
    · exact ai (h E _ (ie q))
theorem Fp (l b:aa) (xs ys:Array ae) (n m:Nat) (dd de:Option aa) (sl sm:Array (Option ae)) (hsz:xs.size=ys.size):∀ k i:Nat,xs.size - i=k ->
    MeetsIn prog w (ig.«list.__eq__.loop» ⟨[.ref l,.ref b,qO i,qO 2],[]⟩) (fun A R s =>
      s.heap.get? l=some {cls:=.type "list",dict:=dd,data:=.seq xs n,slots:=sl}/\s.heap.get? b=some {cls:=.type "list",dict:=de,data:=.seq ys m,slots:=sm} /\
      (∀ j (h1:j < xs.size) (h2:j < ys.size),kJ prog w A.in1 s xs[j] ys[j])/\R (.ok (.ret (.bool true))) s):=by
  intro k
  induction k with
  | zero =>
    intro i hk A R s q
    obtain ⟨hp,g,d,tk,os⟩:=s
    obtain ⟨q1,q2,q3,q4⟩:=q
    have a1:xs[((i:Nat):Int).toNat]?=none:=by simp; omega
    have a2:ys[((i:Nat):Int).toNat]?=none:=by simp; omega
    wp_walk using dH q1,dH q2
    rw [a1,a2]
    wp_walk using dH q1,dH q2
    show R (.ok (.ret (.bool (xs.size == ys.size)))) _
    rw [hsz,beq_self_eq_true]
    exact q4
  | succ k ih =>
    intro i hk A R s q
    obtain ⟨hp,g,d,tk,os⟩:=s
    obtain ⟨q1,q2,q3,q4⟩:=q
    have l1:i < xs.size:=by omega
    have l2:i < ys.size:=by omega
    have a1:xs[((i:Nat):Int).toNat]?=some xs[i]:=by simp [l1]
    have a2:ys[((i:Nat):Int).toNat]?=some ys[i]:=by simp [l2]
    have e1:((i:Int) + 1)=((i + 1:Nat):Int):=by push_cast; rfl
    wp_walk using dH q1,dH q2
    rw [a1,a2]
    refine ai (q3 i l1 l2 _ _ ?_)
    wp_walk
    rw [e1]
    refine ⟨plainId_quiet plain_eq_loop _,pQ entry_eq_loop ?_⟩
    rw [yC plain_eq_loop _]
    exact ih (i + 1) (by omega) A R _ ⟨q1,q2,q3,q4⟩
theorem Fq (l b:aa) (xs ys:Array ae) (n m:Nat) (dd de:Option aa) (sl sm:Array (Option ae)) (hsz:xs.size=ys.size) :
    MeetsIn prog w (ig.«list.__eq__» ⟨[.ref l,.ref b],[]⟩) (fun A R s =>
      s.heap.get? l=some {cls:=.type "list",dict:=dd,data:=.seq xs n,slots:=sl}/\s.heap.get? b=some {cls:=.type "list",dict:=de,data:=.seq ys m,slots:=sm} /\
      (∀ j (h1:j < xs.size) (h2:j < ys.size),kJ prog w A.in1 s xs[j] ys[j])/\R (.ok (.ret (.bool true))) s):=by
  intro A R s q
  obtain ⟨hp,g,d,tk,os⟩:=s
  obtain ⟨q1,q2,q3,q4⟩:=q
  have f1:=AutoSeq1.sub_list_list
  have f2:¬ (xs.size != ys.size)=true:=by simp [hsz]
  wp_walk using dH q1,dH q2
  refine ⟨plainId_quiet plain_eq_loop _,pQ entry_eq_loop ?_⟩
  rw [yC plain_eq_loop _]
  exact Fp l b xs ys n m dd de sl sm hsz _ 0 rfl A R _ ⟨q1,q2,q3,q4⟩
theorem RcIn.lists {l b:aa} {xs ys:Array ae} (hl:s.heap.IsList l xs) (hb:s.heap.IsList b ys) (hsz:xs.size=ys.size) (hu:A.units < dM)
    (he:∀ j (h1:j < xs.size) (h2:j < ys.size),kJ prog w A.in1 s xs[j] ys[j]):RcIn prog w A s (.ref l) (.ref b):=fun E Q q=>by
  obtain ⟨⟨c1,dd,t1,sl⟩,o1,rfl,n,rfl⟩:=id hl
  obtain ⟨⟨c2,de,t2,sm⟩,o2,rfl,m,rfl⟩:=id hb
  refine yD (op:=.Eq) ⟨_,o1,rfl⟩ ⟨_,o2,rfl⟩ F.slot_list_eq (C6 F.slot_list_eq ⟨_,o1,rfl⟩ F.entry_list_eq (F.args_list_eq_2 _ _) (Fq l b xs ys n m dd de sl sm hsz) ⟨o1,o2,he,?_⟩) hu
  exact ⟨fun z=>(nomatch z),q⟩
variable {K:Type} [DecidableEq K] {knd:KeyKind prog w K}
theorem pairs_at {es:List DictEntry} {kvs:List (K×ae)} (h:Pairs knd es kvs):∀ {i:Nat} {e:DictEntry},es[i]?=some e->∃ kv,kvs[i]?=some kv/\knd.is kv.1 e.key=true/\e.val=kv.2:=by
  induction h with
  | nil =>
    intro i e q
    simp at q
  | cons a b _ ih =>
    intro i e q
    cases i with
    | zero =>
      simp at q
      subst q
      exact ⟨_,rfl,a,b⟩
    | succ i =>
      obtain ⟨kv,z⟩:=ih (i:=i) (by simpa using q)
      exact ⟨kv,by simpa using z.1,z.2⟩
theorem C7 {nm:String} {d b:aa} {kvs kws:List (K×ae)} {Q:Bool->aj->Prop} {E:ae->aj->Prop} (hd:(d == eO)=false) (hb:(b == eO)=false) (m1:s.heap.DictOf knd d kvs) (m2:s.heap.DictOf knd b kws)
    (hl:kvs.length=kws.length) (he:∀ kv∈kvs,∃ v',m6 kws kv.1=some v'/\kJ prog w A s kv.2 v') (q:Q true s):aU (aW prog w) A (sS nm d b) Q E s:=by
  obtain ⟨o1,es,ep,h1,x1,t1,k1,p1,n1⟩:=id m1
  obtain ⟨o2,fs,fp,h2,x2,t2,k2,p2,n2⟩:=id m2
  have z1:es.size=kvs.length:=by rw [<- p1.length,fk]
  have z2:fs.size=kws.length:=by rw [<- p2.length,fk]
  unfold sS
  unfold Builtin.Dict.showsAll
  rw [if_neg (by rw [hd]; exact bO),if_neg (by rw [hb]; exact bO)]
  refine ai (aN (ai (aN ?_)))
  refine ai (m7 h1 t1 (ai (m7 h2 t2 ?_)))
  rw [if_neg (by rw [z1,z2,hl]; simp)]
  refine ai (wpAny_dictEpoch h1 t1 (ai ?_))
  rw [Hv]
  simp only [Hw,Nat.sub_zero,C8,Nat.div_one]
  refine oU _ (fun rest r s'=>s'=s/\r.1=none/\∃ i,rest=List.range' i (es.size - i)/\i<=es.size) _ ?_ ?_ _ _ ⟨rfl,rfl,0,by simp,bj _⟩
  · rintro x rest ⟨r1,r2⟩ s' ⟨rfl,e1,i,hr,hi⟩
    have lt:i < es.size:=by
      rcases kj i es.size with z | z
      · exact z
      · rw [Nat.sub_eq_zero_of_le z] at hr
        simp at hr
    obtain ⟨rfl,hrest⟩:x=i/\rest=List.range' (i + 1) (es.size - (i + 1)):=by
      rw [show es.size - i=(es.size - (i + 1)) + 1 by omega,List.range'_succ] at hr
      injection hr with a1 a2
      exact ⟨a1,a2⟩
    obtain ⟨kv,y1,y2,y3⟩:=pairs_at p1 (i:=x) (e:=es[x]) (by simp [lt])
    obtain ⟨kk,y4,y5⟩:=k1 es[x] (Array.getElem_mem lt)
    have y6:kk=kv.1:=knd.inj _ _ _ y4 y2
    subst y6
    obtain ⟨v',g1,g2⟩:=he kv (cw y1)
    obtain ⟨o3,fs',fp',a1,_,a2,a3,hf⟩:=m2.mapOf
    rw [h2] at a1
    cases a1
    rw [t2] at a2
    cases a2
    rw [<- hf kv.1,findBy_of_findIdx?] at g1
    refine ai (m7 h1 t1 ?_)
    rw [Array.getElem?_eq_getElem lt]
    dsimp only
    refine ai (c7 (ai ?_))
    rw [y5]
    refine wpAny_dictFind_of y2 h2 t2 k2 ?_
    cases hj:fs.findIdx? fun e=>knd.is kv.1 e.key with
    | none =>
      rw [hj] at g1
      cases g1
    | some j =>
      rw [hj] at g1
      dsimp only at g1 |-
      refine ai (m7 h2 t2 ?_)
      cases hx:fs[j]? with
      | none =>
        simp [hx] at g1
      | some fe =>
        have g3:fe.val=v':=by simpa [hx] using g1
        dsimp only
        refine c7 ?_
        rw [y3,g3]
        refine g2 _ _ ?_
        rw [if_neg (by decide)]
        refine ai (wpAny_dictEpoch h1 t1 ?_)
        rw [if_neg (by simp)]
        exact aN ⟨rfl,rfl,x + 1,hrest,lt⟩
  · rintro ⟨r1,r2⟩ s' ⟨rfl,e1,_⟩
    have e1:r1=none:=e1
    subst e1
    exact aN q
theorem Bb (d b:aa) (hd:(d == eO)=false) (hb:(b == eO)=false) :
    MeetsIn prog w (ig.«dict.__eq__» ⟨[.ref d,.ref b],[]⟩) (fun A R s=>∃ kvs kws,s.heap.DictOf knd d kvs/\s.heap.DictOf knd b kws/\kvs.length=kws.length /\
      (∀ kv∈kvs,∃ v',m6 kws kv.1=some v'/\kJ prog w A.in1 s kv.2 v')/\R (.ok (.ret (.bool true))) s):=
  .of_wp fun A R s h=>by
    obtain ⟨kvs,kws,m1,m2,hl,he,q⟩:=h
    unfold ig.«dict.__eq__»
    show aU _ _ (q8 "__eq__" ⟨[.ref d,.ref b],[]⟩ >>= _) _ _ s
    refine ai ?_
    unfold q8
    unfold Builtin.Dict.notOrdered
    rw [if_neg (by decide)]
    refine ai (aN ?_)
    show aU _ _ (pure (Value.ref d,Value.ref b)) _ _ s
    refine aN ?_
    dsimp only
    refine ai (wpAny_isInstance m2.typeIs isSubtype_dict_dict ?_)
    rw [if_neg (by decide)]
    refine ai (aN (ai (aN (ai (C7 hd hb m1 m2 hl he ?_)))))
    exact aN ⟨_,rfl,q⟩
theorem RcIn.dicts {d b:aa} {kvs kws:List (K×ae)} (hd:(d == eO)=false) (hb:(b == eO)=false) (m1:s.heap.DictOf knd d kvs) (m2:s.heap.DictOf knd b kws) (hl:kvs.length=kws.length) (hu:A.units < dM)
    (he:∀ kv∈kvs,∃ v',m6 kws kv.1=some v'/\kJ prog w A.in1 s kv.2 v'):RcIn prog w A s (.ref d) (.ref b):=fun E Q q =>
  yD (op:=.Eq) m1.typeIs m2.typeIs F.slot_dict_eq (C6 F.slot_dict_eq m1.typeIs F.entry_dict_eq (F.args_dict_eq_2 _ _) (Bb (knd:=knd) d b hd hb) ⟨kvs,kws,m1,m2,hl,he,⟨fun z=>(nomatch z),q⟩⟩) hu
end
end PySem
namespace L2
open PySem PySem.Spec PyProof.Rows PySem.SeqAt
def sc0:V->Prop
  | .int _=>True
  | .str _=>True
  | .bl _=>True
  | .non=>True
  | _=>False
def TEq (H:Hp):Nat->V->V->Prop
  | 0,x,y=>sc0 x/\x=y
  | n + 1,x,y=>(sc0 x/\x=y)\/(∃ p q xs ys,x=.ref p/\y=.ref q/\H p=some (.lst xs)/\H q=some (.lst ys)/\aO (TEq H n) xs ys) \/
      ∃ p q xs ys,x=.ref p/\y=.ref q/\H p=some (.tup xs)/\H q=some (.tup ys)/\aO (TEq H n) xs ys
def DEq (H:Hp):Nat->V->V->Prop
  | 0,x,y=>∃ n,n<=20/\TEq H n x y
  | n + 1,x,y=>(∃ n,n<=20/\TEq H n x y)\/(∃ p q xs ys,x=.ref p/\y=.ref q/\H p=some (.lst xs)/\H q=some (.lst ys)/\aO (DEq H n) xs ys) \/
      ∃ p q kvs kws,x=.ref p/\y=.ref q/\H p=some (.dK kvs)/\H q=some (.dK kws)/\aO (fun (a b:Key×V)=>a.1=b.1/\DEq H n a.2 b.2) kvs kws
section
variable {P:aM} {w:bH} {H:Hp} {s:aj}
theorem kY {R:V->V->Prop}:∀ {xs ys:List V} {us vs:List ae},aO R xs ys->cS xs us->cS ys vs->us.length=vs.length/\∀ j (h1:j < us.length) (h2:j < vs.length),∃ x y,R x y/\RelV x us[j]/\RelV y vs[j]:=by
  intro xs ys us vs p
  induction p generalizing us vs with
  | nil =>
    intro a b
    cases a
    cases b
    exact ⟨rfl,fun j h1=>absurd h1 (jT _)⟩
  | cons r rs ih =>
    intro a b
    cases a with
    | cons a as =>
    cases b with
    | cons b bs =>
    obtain ⟨e,z⟩:=ih as bs
    refine ⟨by rw [aP,aP,e],fun j h1 h2=>?_⟩
    cases j with
    | zero=>exact ⟨_,_,r,a,b⟩
    | succ j=>exact z j (nU h1) (nU h2)
theorem Ag {A:bP} {x:V} {u v:ae} (h:sc0 x) (ru:RelV x u) (rv:RelV x v):EqAt A s u v true:=by
  cases x with
  | non=>cases ru; cases rv; exact EqAt.same _
  | bl b=>cases ru; cases rv; exact EqAt.same _
  | int i =>
    obtain ⟨t,rfl⟩:=ru
    obtain ⟨t',rfl⟩:=rv
    have z:=EqAt.int_int (A:=A) (s:=s) i t i t'
    rw [beq_self_eq_true] at z
    exact z
  | str i =>
    obtain ⟨t,rfl⟩:=ru
    obtain ⟨t',rfl⟩:=rv
    have z:=EqAt.str_str (A:=A) (s:=s) i t i t'
    rw [beq_self_eq_true] at z
    exact z
  | byt b=>exact h.elim
  | flt b=>exact h.elim
  | ref a=>exact h.elim
  | ty a=>exact h.elim
theorem gj (ok:HOk P w H s.heap) {p:aa} {xs:List V} (h:H p=some (.lst xs)):∃ us:List ae,cS xs us/\s.heap.IsList p us.toArray:=by
  obtain ⟨_,us,n,r,e⟩:=(show d5 P w H s.heap p (.lst xs) from ok p _ h)
  exact ⟨us,r,_,e,rfl,n,rfl⟩
theorem eB (ok:HOk P w H s.heap) {p:aa} {xs:List V} (h:H p=some (.tup xs)):∃ us:List ae,cS xs us/\s.heap.IsTuple p us.toArray:=by
  obtain ⟨_,us,r,o,e,c,n,d⟩:=(show d5 P w H s.heap p (.tup xs) from ok p _ h)
  exact ⟨us,r,o,e,c,n,d⟩
theorem qm (n:Nat):((hV n).all fun _=>true)=true:=by simp
theorem x5 (ok:HOk P w H s.heap) {R:V->V->Prop} {A:bP} {p q:aa} {xs ys:List V} (hu:A.units < dM) (h1:H p=some (.lst xs)) (h2:H q=some (.lst ys)) (r:aO R xs ys)
    (he:∀ x y u v,R x y->RelV x u->RelV y v->EqAt A.in1 s u v true):RcAt A s (.ref p) (.ref q) true:=by
  obtain ⟨us,r1,i1⟩:=gj ok h1
  obtain ⟨vs,r2,i2⟩:=gj ok h2
  obtain ⟨e,z⟩:=kY r r1 r2
  have k:=RcAt.lists (e:=fun _=>true) i1 i2 (by simpa using e) hu (fun j a b=>by
    obtain ⟨x,y,rr,rx,ry⟩:=z j (by simpa using a) (by simpa using b)
    simpa using he _ _ _ _ rr rx ry)
  rw [qm] at k
  exact k
theorem Ah (ok:HOk P w H s.heap) {R:V->V->Prop} {A:bP} {p q:aa} {xs ys:List V} (hu:A.units < dM) (h1:H p=some (.tup xs)) (h2:H q=some (.tup ys)) (r:aO R xs ys)
    (he:∀ x y u v,R x y->RelV x u->RelV y v->EqAt A.in1 s u v true):RcAt A s (.ref p) (.ref q) true:=by
  obtain ⟨us,r1,i1⟩:=eB ok h1
  obtain ⟨vs,r2,i2⟩:=eB ok h2
  obtain ⟨e,z⟩:=kY r r1 r2
  have k:=RcAt.tuples (e:=fun _=>true) i1 i2 hu (fun j a b=>by
    obtain ⟨x,y,rr,rx,ry⟩:=z j (by simpa using a) (by simpa using b)
    simpa using he _ _ _ _ rr rx ry)
  rw [qm,qp,av,av,e,beq_self_eq_true] at k
  exact k
theorem EqAt.of_rc {A:bP} {l b:aa} (h:RcAt A s (.ref l) (.ref b) true):EqAt A s (.ref l) (.ref b) true:=by
  by_cases e:l=b
  · rw [e]
    exact EqAt.same _
  · exact EqAt.of_refs e h
theorem nV (ok:HOk P w H s.heap):∀ {n:Nat} {A:bP} {x y:V} {u v:ae},A.units + n < dM->TEq H n x y->RelV x u->RelV y v->EqAt A s u v true
  | 0,A,x,y,u,v,hu,h,ru,rv=>by
    obtain ⟨h1,rfl⟩:=h
    exact Ag h1 ru rv
  | n + 1,A,x,y,u,v,hu,h,ru,rv=>by
    have hin:A.in1.units + n < dM:=by
      show A.units + 1 + n < dM
      omega
    rcases h with ⟨h1,rfl⟩ | ⟨p,q,xs,ys,rfl,rfl,h1,h2,r⟩ | ⟨p,q,xs,ys,rfl,rfl,h1,h2,r⟩
    · exact Ag h1 ru rv
    · cases ru
      cases rv
      exact EqAt.of_rc (x5 ok (by omega) h1 h2 r fun _ _ _ _ z a b=>nV ok hin z a b)
    · cases ru
      cases rv
      exact EqAt.of_rc (Ah ok (by omega) h1 h2 r fun _ _ _ _ z a b=>nV ok hin z a b)
theorem tV (ok:HOk P w H s.heap) {R:V->V->Prop} {A:bP} {p q:aa} {xs ys:List V} (hu:A.units < dM) (h1:H p=some (.lst xs)) (h2:H q=some (.lst ys)) (r:aO R xs ys)
    (he:∀ x y u v,R x y->RelV x u->RelV y v->kJ P w A.in1 s u v):RcIn P w A s (.ref p) (.ref q):=by
  obtain ⟨us,r1,i1⟩:=gj ok h1
  obtain ⟨vs,r2,i2⟩:=gj ok h2
  obtain ⟨e,z⟩:=kY r r1 r2
  exact RcIn.lists i1 i2 (by simpa using e) hu (fun j a b=>by
    obtain ⟨x,y,rr,rx,ry⟩:=z j (by simpa using a) (by simpa using b)
    simpa using he _ _ _ _ rr rx ry)
theorem Ft {κ:Type} {R:κ×V->κ×V->Prop}:∀ {kvs kws:List (κ×V)} {us vs:List (κ×ae)},aO R kvs kws->KV kvs us->KV kws vs->us.length=vs.length/\∀ (i:Nat) (q:κ×ae),us[i]?=some q->∃ q' a b,vs[i]?=some q'/\R a b/\a.1=q.1/\b.1=q'.1/\RelV a.2 q.2/\RelV b.2 q'.2:=by
  intro kvs kws us vs p
  induction p generalizing us vs with
  | nil =>
    intro a b
    cases a
    cases b
    exact ⟨rfl,fun i q h=>by simp at h⟩
  | cons r rs ih =>
    intro a b
    cases a with
    | cons a as =>
    cases b with
    | cons b bs =>
    obtain ⟨e,z⟩:=ih as bs
    refine ⟨by rw [aP,aP,e],fun i q h=>?_⟩
    cases i with
    | zero =>
      simp at h
      subst h
      exact ⟨_,_,_,rfl,r,a.1,b.1,a.2,b.2⟩
    | succ i =>
      obtain ⟨q',x,y,h1,h2⟩:=z i q (by simpa using h)
      exact ⟨q',x,y,by simpa using h1,h2⟩
theorem tW (ok:HOk P w H s.heap) {R:V->V->Prop} {A:bP} {p q:aa} {kvs kws:List (Key×V)} (hu:A.units < dM) (h1:H p=some (.dK kvs)) (h2:H q=some (.dK kws)) (r:aO (fun (a b:Key×V)=>a.1=b.1/\R a.2 b.2) kvs kws)
    (he:∀ x y u v,R x y->RelV x u->RelV y v->kJ P w A.in1 s u v):RcIn P w A s (.ref p) (.ref q):=by
  obtain ⟨_,n1,us,k1,m1⟩:=(show d5 P w H s.heap p (.dK kvs) from ok p _ h1)
  obtain ⟨_,n2,vs,k2,m2⟩:=(show d5 P w H s.heap q (.dK kws) from ok q _ h2)
  obtain ⟨e,z⟩:=Ft r k1 k2
  refine RcIn.dicts n1 n2 m1 m2 e hu fun kv hkv=>?_
  obtain ⟨i,hi⟩:=dU hkv
  obtain ⟨q',a,b,g1,⟨g2,g3⟩,g4,g5,g6,g7⟩:=z i kv hi
  obtain ⟨_,_,_,_,_,_,_,_,nd⟩:=id m2
  have g8:vs[i]?=some (kv.1,q'.2):=by
    rw [g1,<- g4,g2,g5]
  exact ⟨q'.2,valueAt_of_get nd g8,he _ _ _ _ g3 g6 g7⟩
theorem wI (ok:HOk P w H s.heap):∀ {n:Nat} {A:bP} {x y:V} {u v:ae},A.units + n + 20 < dM->DEq H n x y->RelV x u->RelV y v->kJ P w A s u v
  | 0,A,x,y,u,v,hu,h,ru,rv=>by
    obtain ⟨m,h0,h1⟩:=h
    exact kJ.of_at (nV ok (by omega) h1 ru rv)
  | n + 1,A,x,y,u,v,hu,h,ru,rv=>by
    have hin:A.in1.units + n + 20 < dM:=by
      show A.units + 1 + n + 20 < dM
      omega
    rcases h with ⟨m,h0,h1⟩ | ⟨p,q,xs,ys,rfl,rfl,h1,h2,r⟩ | ⟨p,q,kvs,kws,rfl,rfl,h1,h2,r⟩
    · exact kJ.of_at (nV ok (by omega) h1 ru rv)
    · cases ru
      cases rv
      exact kJ.refs (tV ok (by omega) h1 h2 r fun _ _ _ _ z a b=>wI ok hin z a b)
    · cases ru
      cases rv
      exact kJ.refs (tW ok (by omega) h1 h2 r fun _ _ _ _ z a b=>wI ok hin z a b)
end
section
variable {X:Cx}
theorem II (hu:X.A.units + 50 < dM):OpR X (cU .Eq) (fun x y H Q=>∃ n p q,n<=20/\x=.ref p/\y=.ref q/\DEq H n x y/\Q (.bl true) H):=by
  intro pins s σ H x y v u Q I rx ry h
  obtain ⟨n,p,q,hn,rfl,rfl,d,k⟩:=h
  cases rx
  cases ry
  have fin:EP X pins σ Q (.bool true) s:=⟨.bl true,H,I,rfl,k⟩
  have hu1:X.A.units < dM:=by omega
  have main:RcIn X.prog X.w X.A s (.ref p) (.ref q):=by
    have hin:∀ m,m<=20->X.A.in1.units + m < dM:=fun m hm=>by
      show X.A.units + 1 + m < dM
      omega
    have tq:∀ m,m<=20->TEq H m (.ref p) (.ref q)->RcIn X.prog X.w X.A s (.ref p) (.ref q):=fun m hm t=>by
      cases m with
      | zero=>exact t.1.elim
      | succ m =>
        rcases t with ⟨h1,_⟩ | ⟨p',q',xs,ys,e1,e2,h1,h2,r⟩ | ⟨p',q',xs,ys,e1,e2,h1,h2,r⟩
        · exact h1.elim
        · cases e1
          cases e2
          intro E Q' k'
          exact x5 I.hok hu1 h1 h2 r (fun _ _ _ _ z a b=>nV I.hok (hin m (by omega)) z a b) X.prog X.w E Q' k'
        · cases e1
          cases e2
          intro E Q' k'
          exact Ah I.hok hu1 h1 h2 r (fun _ _ _ _ z a b=>nV I.hok (hin m (by omega)) z a b) X.prog X.w E Q' k'
    cases n with
    | zero =>
      obtain ⟨m,hm,t⟩:=d
      exact tq m hm t
    | succ n =>
      have hin2:X.A.in1.units + n + 20 < dM:=by
        show X.A.units + 1 + n + 20 < dM
        omega
      rcases d with ⟨m,hm,t⟩ | ⟨p',q',xs,ys,e1,e2,h1,h2,r⟩ | ⟨p',q',kvs,kws,e1,e2,h1,h2,r⟩
      · exact tq m hm t
      · cases e1
        cases e2
        exact tV I.hok hu1 h1 h2 r fun _ _ _ _ z a b=>wI I.hok hin2 z a b
      · cases e1
        cases e2
        exact tW I.hok hu1 h1 h2 r fun _ _ _ _ z a b=>wI I.hok hin2 z a b
  exact main _ _ fin
theorem C9 (hu:X.A.units + 50 < dM):OpR X (cU .NotEq) (fun x y H Q=>∃ n p q,n<=20/\x=.ref p/\y=.ref q/\TEq H n x y/\Q (.bl false) H):=by
  intro pins s σ H x y v u Q I rx ry h
  obtain ⟨n,p,q,hn,rfl,rfl,d,k⟩:=h
  cases rx
  cases ry
  have fin:EP X pins σ Q (.bool false) s:=⟨.bl false,H,I,rfl,k⟩
  have hu1:X.A.units < dM:=by omega
  cases n with
  | zero=>exact d.1.elim
  | succ m =>
    have hin:X.A.in1.units + m < dM:=by
      show X.A.units + 1 + m < dM
      omega
    rcases d with ⟨h1,_⟩ | ⟨p',q',xs,ys,e1,e2,h1,h2,r⟩ | ⟨p',q',xs,ys,e1,e2,h1,h2,r⟩
    · exact h1.elim
    · cases e1
      cases e2
      obtain ⟨us,r1,i1⟩:=gj I.hok h1
      obtain ⟨vs,r2,i2⟩:=gj I.hok h2
      obtain ⟨e,z⟩:=kY r r1 r2
      have k:=RcNeAt.lists (A:=X.A) (e:=fun _=>true) i1 i2 (by simpa using e) hu1 (fun j a b=>by
        obtain ⟨x,y,rr,rx,ry⟩:=z j (by simpa using a) (by simpa using b)
        simpa using nV I.hok hin rr rx ry)
      rw [qm] at k
      exact k X.prog X.w _ _ fin
    · cases e1
      cases e2
      obtain ⟨us,r1,i1⟩:=eB I.hok h1
      obtain ⟨vs,r2,i2⟩:=eB I.hok h2
      obtain ⟨e,z⟩:=kY r r1 r2
      have k:=RcNeAt.tuples (A:=X.A) (e:=fun _=>true) i1 i2 hu1 (fun j a b=>by
        obtain ⟨x,y,rr,rx,ry⟩:=z j (by simpa using a) (by simpa using b)
        simpa using nV I.hok hin rr rx ry)
      rw [qm,qp,av,av,e,beq_self_eq_true] at k
      exact k X.prog X.w _ _ fin
theorem Da {A:bP} {k:Nat} (hr:dP k A):A.units + 50 < dM:=by
  have:=hr.un
  omega
end
end L2
namespace PySem
open Sem (wp)
section
variable {prog:aM} {w:bH} {A:bP} {E:ae->aj->Prop} {s:aj}
end
section
variable {prog:aM} {w:bH} {A:bP} {R:Iu->aj->Prop} {I:aa} {fp wr:List aa} {n:Nat} {P:Nat->ae->Prop} {St:Nat->cB->Prop} {G:cB->Prop}
end
section
variable {prog:aM} {w:bH} {A:bP} {E:ae->aj->Prop} {s:aj}
end
section
variable {prog:aM} {w:bH} {K:Type} [DecidableEq K] {knd:HeapKind prog w K} {A:bP} {E:ae->aj->Prop} {s:aj}
end
section
variable {prog:aM} {w:bH} {A:bP} {E:ae->aj->Prop} {s:aj}
end
end PySem
namespace HT
theorem zh:∀ a:List Int,lexLt a a=false
  | []=>rfl
  | x :: r=>by rw [jP,if_pos rfl]; exact zh r
theorem lx_trans:∀ {a b c:List Int},lexLt a b=true->lexLt b c=true->lexLt a c=true
  | [],[],_,h,_=>by cases h
  | [],_ :: _,[],_,h=>by cases h
  | [],_ :: _,_ :: _,_,_=>rfl
  | _ :: _,[],_,h,_=>by cases h
  | _ :: _,_ :: _,[],_,h=>by cases h
  | x :: a,y :: b,z :: c,h,k=>by
    rw [jP] at h k |-
    by_cases e:x=y
    · subst e
      rw [if_pos rfl] at h
      by_cases f:x=z
      · subst f
        rw [if_pos rfl] at k |-
        exact lx_trans h k
      · rw [if_neg f] at k |-
        exact k
    · rw [if_neg e] at h
      have h:=of_decide_eq_true h
      by_cases f:y=z
      · subst f
        rw [if_neg e]
        exact decide_eq_true h
      · rw [if_neg f] at k
        have k:=of_decide_eq_true k
        rw [if_neg (by omega)]
        exact decide_eq_true (by omega)
theorem qq:∀ {a b:List Int},lexLt a b=false->lexLt b a=false->a=b
  | [],[],_,_=>rfl
  | [],_ :: _,h,_=>by cases h
  | _ :: _,[],_,h=>by cases h
  | x :: a,y :: b,h,k=>by
    rw [jP] at h k
    by_cases e:x=y
    · subst e
      rw [if_pos rfl] at h k
      rw [qq h k]
    · rw [if_neg e] at h
      rw [if_neg (fun z=>e z.symm)] at k
      have h:=of_decide_eq_false h
      have k:=of_decide_eq_false k
      exact absurd (by omega) e
theorem lx_asym {a b:List Int} (h:lexLt a b=true):lexLt b a=false:=by
  cases e:lexLt b a with
  | false=>rfl
  | true =>
    have z:=lx_trans h e
    rw [zh] at z
    cases z
theorem lx_of_not {a b:List Int} (h:lexLt a b=false) (n:a≠b):lexLt b a=true:=by
  cases e:lexLt b a with
  | true=>rfl
  | false=>exact absurd (qq h e) n
open PySem PyProof.Rows
open PySem.SeqAt
open PySem.AutoSeq1 (wpAny_loadPart')
open PySem.MeetsSeq PySem.MeetsSeq2 PySem.MeetsSeq3
theorem Fu (l b:aa) (xs ys:Array ae) (n m:Nat) (dd de:Option aa) (sl sm:Array (Option ae)) (ns ms:List Int) (hi:eV xs.toList ns) (hj:eV ys.toList ms) :
    Meets (ig.«tuple.__gt__» ⟨[.ref l,.ref b],[]⟩)
      (fun _ R s=>s.heap.get? l=some {cls:=.type "tuple",dict:=dd,data:=.seq xs n,slots:=sl}/\s.heap.get? b=some {cls:=.type "tuple",dict:=de,data:=.seq ys m,slots:=sm}/\R (.ok (.ret (.bool (lexLt ms ns)))) s):=
  .of_wp fun prog w A R s h=>by
    obtain ⟨hp,g,d,tk,os⟩:=s
    obtain ⟨hl,hb,h⟩:=h
    have f2:=ko
    have z1:xs.size=ns.length:=by rw [<- hi.length]; simp
    have z2:ys.size=ms.length:=by rw [<- hj.length]; simp
    wp_walk using dH hl,dH hb,oU _ (fun rest b s'=>b.1=none/\s'=⟨hp,g,d,tk,os⟩/\∃ (vs ws:List ae) (ns' ms':List Int),rest=vs.zip ws /\
      eV vs ns'/\eV ws ms'/\ns'.length + ys.size=ms'.length + xs.size/\R (.ok (.ret (.bool (lexLt ms' ns')))) ⟨hp,g,d,tk,os⟩) _
    case turn =>
      rintro ⟨y,x⟩ rest b s' ⟨hb',rfl,vs,ws,ns',ms',hz,hv,hw,hlen,hR⟩
      cases hv with
      | nil=>rw [Cu] at hz; cases hz
      | cons a t hv =>
        cases hw with
        | nil=>rw [BN] at hz; cases hz
        | cons c u hw =>
          rw [gb] at hz
          injection hz with hyx hrest
          injection hyx with hy hx
          subst hy hx
          rw [jP] at hR
          simp only [aP] at hlen
          obtain ⟨e,he,hiff⟩:=xK A.in1 ⟨hp,g,d,tk,os⟩ a t c u
          refine ai (he prog w _ _ ?_)
          cases e with
          | true =>
            rw [if_pos (hiff.mp rfl).symm] at hR
            wp_walk
            exact ⟨rfl,rfl,_,_,_,_,hrest,hv,hw,by omega,hR⟩
          | false =>
            rw [if_neg (fun q=>absurd (hiff.mpr q.symm) bO)] at hR
            have hri:∀ (E:ae->aj->Prop) (Q:ae->aj->Prop),Q (.bool (decide (a > c))) ⟨hp,g,d,tk,os⟩->aU (aW prog w) A.in1 (qW .Gt (.int a t) (.int c u)) Q E ⟨hp,g,d,tk,os⟩:=fun E Q q =>
              (PyProof.Rows.gt_int q:aU (aW prog w) A.in1 (cU .Gt (.int a t) (.int c u)) Q E _)
            wp_walk using hri
            exact ⟨_,rfl,by simpa using hR⟩
    case fin =>
      rintro ⟨b1,b2⟩ s' ⟨hb',rfl,vs,ws,ns',ms',hz,hvi,hwi,hlen,hR⟩
      simp only at hb'
      subst hb'
      have hv:lexLt ms' ns'=decide (ys.size < xs.size):=by
        cases hvi with
        | nil =>
          cases hwi with
          | nil =>
            simp only [cM] at hlen
            rw [o4]
            exact (decide_eq_false (by omega)).symm
          | cons c u hw =>
            simp only [cM,aP] at hlen
            rw [nv]
            exact (decide_eq_false (by omega)).symm
        | cons a t hv =>
          cases hwi with
          | nil =>
            simp only [cM,aP] at hlen
            rw [nr]
            exact (decide_eq_true (by omega)).symm
          | cons c u hw =>
            rw [gb] at hz
            cases hz
      rw [hv] at hR
      wp_walk
      exact ⟨_,rfl,by simpa [oG] using hR⟩
    case h =>
      exact ⟨rfl,rfl,xs.toList,ys.toList,ns,ms,rfl,hi,hj,by omega,h⟩
theorem gt_tup {prog:aM} {w:bH} {A:bP} {E:ae->aj->Prop} {s:aj} {l b:aa} {xs ys:Array ae} {ns ms:List Int} {Q:ae->aj->Prop} (hl:qL s.heap l xs) (hb:qL s.heap b ys) (hi:eV xs.toList ns) (hj:eV ys.toList ms)
    (hu:A.units < dM) (h:Q (.bool (lexLt ms ns)) s):aU (aW prog w) A (cU .Gt (.ref l) (.ref b)) Q E s:=by
  obtain ⟨⟨c1,dd,t1,sl⟩,o1,rfl,n,rfl⟩:=id hl
  obtain ⟨⟨c2,de,t2,sm⟩,o2,rfl,m,rfl⟩:=id hb
  exact pz (op:=.Gt) ⟨_,o1,rfl⟩ ⟨_,o2,rfl⟩ xr wJ (vy _ _) (Fu l b xs ys n m dd de sl sm ns ms hi hj)
    ⟨o1,o2,show Value.bool (lexLt ms ns)≠Value.notImplemented/\Q (.bool (lexLt ms ns)) s from ⟨(fun x=>nomatch x),h⟩⟩ hu
end HT
namespace L2
open PySem PySem.Spec PyProof.Rows
theorem rQ:∀ {ns ms:List Int},ns.map V.int=ms.map V.int->ns=ms
  | [],[],_=>rfl
  | [],_ :: _,h=>by cases h
  | _ :: _,[],h=>by cases h
  | x :: a,y :: b,h=>by
    injection h with h1 h2
    injection h1 with h1
    rw [h1,rQ h2]
section
variable {X:Cx}
theorem vz {P:aM} {w:bH} {H:Hp} {s:aj} (ok:HOk P w H s.heap) {A:bP} {a b:aa} {ns ms:List Int} (hu:A.units < dM) (ha:H a=some (.tup (ns.map V.int))) (hb:H b=some (.tup (ms.map V.int))) :
    SeqAt.EqAt A s (.ref a) (.ref b) (decide (ns=ms)):=by
  by_cases e:a=b
  · subst e
    rw [ha] at hb
    injection hb with hb
    injection hb with hb
    rw [rQ hb,decide_eq_true rfl]
    exact SeqAt.EqAt.same _
  · obtain ⟨us,r1,i1⟩:=eB ok ha
    obtain ⟨vs,r2,i2⟩:=eB ok hb
    have k1:eV us ns:=intsAre_of r1
    have k2:eV vs ms:=intsAre_of r2
    have at_:∀ {us:List ae} {ns:List Int},eV us ns->∀ (j:Nat) (h:j < us.length),∃ (z:Int) (t:Tok),us[j]=.int z t/\ns[j]?=some z:=by
      intro us ns k
      induction k with
      | nil=>intro j h; exact absurd h (jT _)
      | cons z t _ ih =>
        intro j h
        cases j with
        | zero=>exact ⟨z,t,rfl,rfl⟩
        | succ j=>exact ih j (nU h)
    have rc:=SeqAt.RcAt.tuples (A:=A) (e:=fun j=>decide (ns[j]?=ms[j]?)) i1 i2 hu fun j h1 h2=>by
      obtain ⟨x,t,e1,e2⟩:=at_ k1 j (by simpa using h1)
      obtain ⟨y,t',e3,e4⟩:=at_ k2 j (by simpa using h2)
      rw [e2,e4]
      have z:=xo (A:=A.in1) (s:=s) x t y t'
      have q:(x == y)=decide (some x=some y):=by
        by_cases e:x=y
        · subst e; simp
        · have e':¬ some x=some y:=fun q=>e (cW q)
          rw [decide_eq_false e',beq_eq_false_iff_ne.mpr e]
      rw [q] at z
      simpa [e1,e3] using z
    have fin:((hV (min us.toArray.size vs.toArray.size)).all (fun j=>decide (ns[j]?=ms[j]?)) && us.toArray.size == vs.toArray.size)=decide (ns=ms):=by
      have l1:us.toArray.size=ns.length:=by rw [av]; exact k1.length
      have l2:vs.toArray.size=ms.length:=by rw [av]; exact k2.length
      rw [l1,l2]
      by_cases c:ns=ms
      · subst c
        simp
      · rw [decide_eq_false c,zi]
        by_cases l:ns.length=ms.length
        · left
          rw [List.all_eq_false]
          refine sT fun no=>c (rR fun j=>?_)
          by_cases hj:j < ns.length
          · refine sT fun ne=>no ⟨j,oY.mpr (by omega),?_⟩
            rw [decide_eq_false ne]
            simp
          · rw [d8 (by omega),d8 (by omega)]
        · right
          exact beq_eq_false_iff_ne.mpr l
    rw [fin] at rc
    exact SeqAt.EqAt.of_refs e rc
open Classical in
def Fv:V->List V->Hp->VK->Prop:=fun x vs H Q=>∃ l xs i y,x=.ref l/\vs=[.int (i:Nat),y]/\H l=some (.lst xs)/\i<=xs.length/\xs.length < aA/\Q .non (upd H l (.lst (xs.take i++y :: xs.drop i)))
theorem Bc:MtM X "list.insert" Fv:=by
  intro pins s σ H x vs v us Q I rx rv h
  obtain ⟨l,xs,i,y,rfl,rfl,hH,hi,hz,q⟩:=h
  cases rx
  obtain ⟨u,w',rfl,ru,rw'⟩:=rv.two
  obtain ⟨t,rfl⟩:=ru
  obtain ⟨z,its,n,r,hl,e⟩:=I.lstM hH
  have hz1:its.toArray.size<=aA:=by rw [av]; omega
  generalize hx:((i:Nat):Int)=x
  have fit:qK x=true:=by
    have s63:aA=16777216:=mZ
    exact fitsIndex_both (by omega) (by omega)
  have nfit:¬ (!qK x)=true:=by rw [fit]; exact bO
  refine pA F.slot_list_insert ⟨_,e,rfl⟩ F.entry_list_insert (F.args_list_insert_3 _ _ _) (Kt l its.toArray n x t w' nfit hz1) ⟨e,?_⟩
  refine ⟨.non,_,I.lset (its':=its.take i++w' :: its.drop i) hH e ?_ ((r.take i).append (.cons rw' (r.drop i))) ?_,rfl,q⟩
  · have k:(if x < 0 then (x + (its.toArray.size:Int)).toNat else min x.toNat its.toArray.size)=i:=by
      rw [if_neg (by omega),av]
      omega
    show (its.toArray.extract 0 (if x < 0 then (x + (its.toArray.size:Int)).toNat else min x.toNat its.toArray.size)).push w'++its.toArray.extract (if x < 0 then (x + (its.toArray.size:Int)).toNat else min x.toNat its.toArray.size)=_
    rw [k]
    apply Array.toList_inj.mp
    simp [List.extract_eq_take_drop]
    exact yE (by rw [mI]; exact aC _)
  · rw [aE,aP,cG,mI]
    omega
theorem Ai {z:V} (h:sc0 z):scal z z=true:=by
  cases z with
  | non=>rfl
  | bl b=>rfl
  | int i=>rfl
  | str x=>rfl
  | byt b=>exact cO h
  | flt b=>exact cO h
  | ref a=>exact cO h
  | ty a=>exact cO h
theorem IJ (hu:X.A.units + 50 < dM):OpR X (cU .Eq) (fun x y H Q=>∃ n,n<=20/\TEq H n x y/\Q (.bl true) H):=by
  intro pins s σ H x y v u Q I rx ry h
  obtain ⟨n,hn,d,q⟩:=h
  have sc:∀ z,sc0 z->x=z->y=z->aU (aW X.prog X.w) X.A (cU .Eq v u) (EP X pins σ Q) X.xe s:=by
    rintro z hz rfl rfl
    refine ff pins s σ H _ _ v u Q I rx ry ⟨Ai hz,?_⟩
    rw [decide_eq_true rfl]
    exact q
  have rf:∀ p q',x=.ref p->y=.ref q'->aU (aW X.prog X.w) X.A (cU .Eq v u) (EP X pins σ Q) X.xe s:=fun p q' e1 e2 =>
    II hu pins s σ H x y v u Q I rx ry ⟨0,p,q',by omega,e1,e2,⟨n,hn,d⟩,q⟩
  cases n with
  | zero=>exact sc x d.1 rfl d.2.symm
  | succ n =>
    rcases d with ⟨h1,h2⟩ | ⟨p,q',_,_,e1,e2,_⟩ | ⟨p,q',_,_,e1,e2,_⟩
    · exact sc x h1 rfl h2.symm
    · exact rf p q' e1 e2
    · exact rf p q' e1 e2
theorem IK (hu:X.A.units + 50 < dM):OpR X (cU .NotEq) (fun x y H Q=>∃ n,n<=20/\TEq H n x y/\Q (.bl false) H):=by
  intro pins s σ H x y v u Q I rx ry h
  obtain ⟨n,hn,d,q⟩:=h
  have sc:∀ z,sc0 z->x=z->y=z->aU (aW X.prog X.w) X.A (cU .NotEq v u) (EP X pins σ Q) X.xe s:=by
    rintro z hz rfl rfl
    refine Ho pins s σ H _ _ v u Q I rx ry ⟨Ai hz,?_⟩
    rw [decide_eq_true rfl]
    exact q
  have rf:∀ p q',x=.ref p->y=.ref q'->aU (aW X.prog X.w) X.A (cU .NotEq v u) (EP X pins σ Q) X.xe s:=fun p q' e1 e2 =>
    C9 hu pins s σ H x y v u Q I rx ry ⟨n,p,q',hn,e1,e2,d,q⟩
  cases n with
  | zero=>exact sc x d.1 rfl d.2.symm
  | succ n =>
    rcases d with ⟨h1,h2⟩ | ⟨p,q',_,_,e1,e2,_⟩ | ⟨p,q',_,_,e1,e2,_⟩
    · exact sc x h1 rfl h2.symm
    · exact rf p q' e1 e2
    · exact rf p q' e1 e2
end
end L2
namespace L2
open PySem PySem.Spec PyProof.Rows
section
variable {X:Cx} {pins:List (aa×Obj)} {σ:St} {H:Hp} {s:aj} {d:aa}
theorem Inv.swap {o o':HO} (I:Inv X pins σ H s) (e:H d=some o) (nt:∀ xs,o≠.tup xs) (nb:∀ ps,o≠.tbl ps) (nw:∀ a,o≠.own a) (nf:∀ ob u,X.H₀ d≠some (.frz ob u)) (ok:d5 X.prog X.w (upd H d o') s.heap d o'):Inv X pins σ (upd H d o') s:=by
  have no:∀ b,H b=none->upd H d o' b=none:=fun b z=>by
    rw [aJ (aG e z).symm]
    exact z
  have tp:∀ b xs,H b=some (.tup xs)->upd H d o' b=some (.tup xs):=fun b xs z=>by
    rw [aJ (kT z e (fun q=>nt xs q.symm))]
    exact z
  have ow:∀ b a,H b=some (.own a)->upd H d o' b=some (.own a):=fun b a z=>by
    rw [aJ (kT z e (fun q=>nw a q.symm))]
    exact z
  refine ⟨I.ok,I.os,I.bare,⟨I.base.keep,I.base.slot,fun b ob q n hx=>no b (I.base.free b ob q n hx),I.base.there,fun b xs q=>tp b xs (I.base.tups b xs q),fun b ob u q=>?_,fun b ps q=>?_⟩,I.loc,I.cell,no _ I.free,fun x c q=>no c (I.freeC x c q),fun p hp=>?_,fun b u q=>?_,I.len⟩
  · have z:=I.base.frzs b ob u q
    have nd:b≠d:=fun y=>nf ob u (by rw [<- y]; exact q)
    rw [aJ nd]
    exact z
  · obtain ⟨more,z⟩:=I.base.tbls b ps q
    refine ⟨more,?_⟩
    rw [aJ (kT z e (fun y=>nb _ y.symm))]
    exact z
  · obtain ⟨h1,h2,h3⟩:=I.pin p hp
    exact ⟨h1,no _ h2,h3⟩
  · by_cases z:b=d
    · subst z
      rw [ah] at q
      cases q
      exact ok
    · rw [aJ z] at q
      exact (I.hok b u q).stay (fun c v _ y=>y) (fun c y=>ow c b y) tp
theorem Inv.freeze {kvs:List (Key×V)} (I:Inv X pins σ H s) (e:H d=some (.dK kvs)) (nf:∀ ob u,X.H₀ d≠some (.frz ob u)):∃ od,s.heap.get? d=some od/\Inv X pins σ (upd H d (.frz od (.dK kvs))) s:=by
  obtain ⟨h1,h2,vs,r,ob,es,ep,g1,g2⟩:=(show d5 X.prog X.w H s.heap d (.dK kvs) from I.hok d _ e)
  exact ⟨ob,g1,I.swap e (fun xs z=>by cases z) (fun ps z=>by cases z) (fun a z=>by cases z) nf ⟨g1,h1,h2,vs,r,ob,es,ep,g1,g2⟩⟩
theorem Inv.thaw {kvs:List (Key×V)} {od:Obj} (I:Inv X pins σ H s) (e:H d=some (.frz od (.dK kvs))) (nf:∀ ob u,X.H₀ d≠some (.frz ob u)):Inv X pins σ (upd H d (.dK kvs)) s:=by
  obtain ⟨_,h1⟩:=(show d5 X.prog X.w H s.heap d (.frz od (.dK kvs)) from I.hok d _ e)
  exact I.swap e (fun xs z=>by cases z) (fun ps z=>by cases z) (fun a z=>by cases z) nf h1
end
def Iti (d:aa) (od:Obj) (kvs:List (Key×V)):It:=
  ⟨fun i H=>H d=some (.frz od (.dK kvs))/\i < kvs.length,fun i H x H'=>∃ t kv,x=.ref t/\H t=none/\kvs[i]?=some kv/\H'=upd H t (.tup [kV kv.1,kv.2]),fun i H=>H d=some (.frz od (.dK kvs))/\kvs.length<=i⟩
theorem KV.at_ {kvs:List (Key×V)} {vs:List (Key×ae)} (r:KV kvs vs):∀ {i:Nat} {kv:Key×V},kvs[i]?=some kv->∃ u,vs[i]?=some (kv.1,u)/\RelV kv.2 u:=by
  induction r with
  | nil=>intro i kv h; simp at h
  | cons a _ ih =>
    intro i kv h
    cases i with
    | zero =>
      simp at h
      subst h
      exact ⟨_,by rw [List.getElem?_cons_zero,a.1],a.2⟩
    | succ i =>
      obtain ⟨u,h1,h2⟩:=ih (by simpa using h)
      exact ⟨u,by simpa using h1,h2⟩
theorem IL {P:aM} {w:bH} {k:Key} {u:ae} (h:(eY P w).is k u=true):RelV (kV k) u:=by
  rcases fv h with ⟨i,t,rfl,rfl⟩ | ⟨x,t,rfl,rfl⟩
  · exact ⟨t,rfl⟩
  · exact ⟨t,rfl⟩
theorem q9:entryFor table "dict_itemiterator.__iter__"=some ig.«dict_keyiterator.__iter__»:=
  entryFor_alias (id':="dict_keyiterator.__iter__") (by kernel_rfl) rfl (by decide +kernel) (by kernel_rfl)
section
variable {P:aM} {w:bH} {K:af}
def Fw (o:Obj):Nat:=match o.data with | .dict _ ep=>ep | _=>0
theorem zj {X:Cx} {pins:List (aa×Obj)} {σ:St} {H:Hp} {s:aj} {d:aa} {od:Obj} {kvs:List (Key×V)} (I:Inv X pins σ H s) (e:H d=some (.frz od (.dK kvs))):∃ vs,KV kvs vs/\s.heap.DictAt (eY X.prog X.w) d vs (Fw od):=by
  obtain ⟨g0,h1,h2,vs,r,ob,es,ep,g1,g2,g3,g4⟩:=(show d5 X.prog X.w H s.heap d (.frz od (.dK kvs)) from I.hok d _ e)
  rw [g0] at g1
  cases g1
  have ee:Fw od=ep:=by
    unfold Fw
    rw [g3]
  rw [ee]
  exact ⟨vs,r,od,es,g0,g2,g3,g4⟩
theorem zk {elts:List cX} {x1} {pos:Pos} (d it:aa) (od:Obj) (kvs:List (Key×V)) (hne:d≠it):AY P w K (.Tuple elts x1 pos) (Iti d od kvs) [it] it (fun i h=>∃ ok ov,IsItemIter h it d i kvs.length (Fw od) ok ov) where
  mem:=by simp
  obj:=fun i h st b hb=>by
    have e:b=it:=by simpa using hb
    subst e
    obtain ⟨ok,ov,e⟩:=st
    exact ⟨_,e,fun v z=>by cases z⟩
  keep:=fun i h h' ⟨ok,ov,st⟩ k=>⟨ok,ov,k it (by simp) _ st⟩
  item:=by
    intro X hP hw hK hc i pins s σ H E I hf st hg
    subst hP hw hK
    obtain ⟨ok,ov,st⟩:=st
    obtain ⟨hd,hi⟩:=hg
    obtain ⟨vs,r,da⟩:=zj I hd
    have hl:=r.length
    have hkv:kvs[i]?=some kvs[i]:=ax hi
    obtain ⟨u,hu,ru⟩:=r.at_ hkv
    obtain ⟨f0,f1,f2,f3,f4,f5⟩:=hf it (by simp)
    rw [hl] at st
    refine wpAny_pyNext_items_item st da hu fun key h' hk hit' ht' hz' kp=>?_
    have I1:Inv X pins σ H {s with heap:=h'}:=I.turned (t':=s.toks) (fun b o hb e=>kp b o hb e) f0 f1 f3 f4 f5
    refine ⟨_,rfl,wpAny_letOwnedTupleGo_items hit' fun h2 hit2 sb=>?_⟩
    have I2:Inv X pins σ H {s with heap:=h2}:=I1.turned (t':=s.toks) (fun b o hb e=>sb.extBut b o hb e) f0 f1 f3 f4 f5
    have fr:H s.heap.objs.size=none:=I.hok.fresh (aC _)
    have nit:s.heap.objs.size≠it:=(aL (aK st)).symm
    have e2:h2.get? s.heap.objs.size=some {cls:=.type "tuple",data:=.seq #[key,u]}:=sb.extBut _ _ nit ht'
    have I3:Inv X pins σ (upd H s.heap.objs.size (.tup [kV kvs[i].1,kvs[i].2])) {s with heap:=h2}:=by
      have kall:∀ b v,s.heap.get? b=some v->b≠it->h2.get? b=some v:=fun b v q n=>sb.extBut b v n (kp b v n q)
      exact ⟨I2.ok,I2.os,I2.bare,⟨I2.base.keep,I2.base.slot,fun b ob q n hx=>by
          have z:=I2.base.free b ob q n hx
          by_cases y:b=s.heap.objs.size
          · exfalso
            have lt:b < s.heap.objs.size:=aY (aK q) I.sz
            rw [y] at lt
            exact absurd lt (gy _)
          · rw [aJ y]
            exact z,I2.base.there,fun b xs q=>by
          rw [aJ (aG (I2.base.tups b xs q) fr)]
          exact I2.base.tups b xs q,fun b ob v q=>by
          rw [aJ (aG (I2.base.frzs b ob v q) fr)]
          exact I2.base.frzs b ob v q,fun b ps q=>by
          obtain ⟨m,z⟩:=I2.base.tbls b ps q
          exact ⟨m,by rw [aJ (aG z fr)]; exact z⟩⟩,I2.loc,I2.cell,by
          rw [aJ (aL I.lt)]
          exact I2.free,fun x c q=>by
          obtain ⟨v,y⟩:=I.cell x c q
          rw [aJ (aL y.lt)]
          exact I2.freeC x c q,fun p hp=>by
          obtain ⟨h1,h2',h3⟩:=I2.pin p hp
          obtain ⟨g1,_⟩:=I.pin p hp
          refine ⟨h1,?_,h3⟩
          rw [aJ (aL (aK g1))]
          exact h2',fun b v q=>by
          by_cases y:b=s.heap.objs.size
          · subst y
            rw [ah] at q
            cases q
            exact ⟨(by show 2<=aA; decide),[key,u],.cons (IL hk) (.cons ru .nil),_,e2,rfl,0,rfl⟩
          · rw [aJ y] at q
            exact (I2.hok b v q).stay (fun c v' _ z=>z) (fun c z=>by rw [aJ (aG z fr)]; exact z) fun c xs z=>by rw [aJ (aG z fr)]; exact z,I2.len⟩
    refine ⟨.ref s.heap.objs.size,_,I3,rfl,⟨_,_,rfl,fr,hkv,rfl⟩,⟨_,_,by rw [hl]; exact hit2⟩,fun b hb=>?_⟩
    have e:b=it:=by simpa using hb
    subst e
    rw [aJ (eZ nit)]
    exact f0
  done:=by
    intro X hP hw hK hc i pins s σ H E I hf st hg
    subst hP hw hK
    obtain ⟨ok,ov,st⟩:=st
    obtain ⟨hd,hi⟩:=hg
    obtain ⟨vs,r,da⟩:=zj I hd
    have hl:=r.length
    obtain ⟨f0,f1,f2,f3,f4,f5⟩:=hf it (by simp)
    rw [hl] at st
    exact wpAny_pyNext_items_end (I.ok.hd hc) st da (d8 (by omega)) fun h' eb=>⟨rfl,I.turned (t':=s.toks) (fun b o hb e=>eb b o hb e) f0 f1 f3 f4 f5⟩
  self:=fun A i s Q E ⟨ok,ov,st⟩ h=>by
    have ty:s.TypeIs (.ref it) "dict_itemiterator":=⟨_,st,rfl⟩
    refine uR ty F.slot_dict_itemiterator_iter (oV F.slot_dict_itemiterator_iter ty q9 ?_ (F.args_dict_itemiterator_iter_1 _))
    show aU _ _ (ret (.ref it)) _ _ s
    exact aN ⟨_,rfl,"dict_itemiterator",_,ty,F.slot_dict_itemiterator_next.lookup,h⟩
end
section
variable {X:Cx} {o:cX} {to:TE} {apos cpos:Pos} {elts:List cX} {x1:Nat} {pos:Pos}
def IM (X:Cx) (to:TE):TI:=fun σ H R=>to σ H fun x H1=>∃ d kvs,x=.ref d/\H1 d=some (.dK kvs)/\(∀ ob u,X.H₀ d≠some (.frz ob u))/\∀ od,R (Iti d od kvs) (upd H1 d (.frz od (.dK kvs)))
theorem Dc (ho:PE X o to) (hbase:j0 o "items" X.env (eW o X.env)=eW o X.env:=by rfl) (hline:(apos.endLine == cpos.line)=true:=by rfl):PI X (.Tuple elts x1 pos) (.Call (.Attribute o "items" apos) [] [] cpos) (IM X to):=by
  intro pins s σ H R I h
  refine BP hbase hline (thn (ho pins s σ H _ I h) fun v s1 ⟨x,H1,I1,r1,d,kvs,ex,hd,nf,q⟩=>?_)
  subst ex
  cases r1
  obtain ⟨hz,n1,ws,k1,m1⟩:=(show d5 X.prog X.w H1 s1.heap d (.dK kvs) from I1.hok d _ hd)
  obtain ⟨ob,_,_,g1,g2,_⟩:=id m1
  refine ⟨"dict","dict.items",PySem.F.plainAttrs_dict,vA,PySem.F.type_dict_items,m1.typeIs,fun a e=>?_,mR rfl (z6 ?_)⟩
  · cases e
    exact ⟨ob,g1,g2.2.1⟩
  refine C6 vA m1.typeIs PySem.F.entry_dict_items (PySem.F.args_dict_items_1 _) (meets_dict_items (eY X.prog X.w) d n1) ⟨⟨ws,m1⟩,?_⟩
  have I2:Inv X pins σ H1 {s1 with heap:=s1.heap.push {cls:=.type "dict_items",data:=.fields #[.ref d]}}:=I1.kept (t':=s1.toks) fun b ob q=>aI _ q
  obtain ⟨od,g3,I3⟩:=I2.freeze hd nf
  obtain ⟨vs,r,da⟩:=zj I3 (ah:upd H1 d (.frz od (.dK kvs)) d=_)
  refine wpAny_pyIter_items ⟨_,cv _ rfl,rfl,rfl⟩ da ?_
  have lt:=aK g3
  refine ⟨_,[_],_,_,_,rfl,I3.kept (t':=s1.toks) fun b ob q=>aI _ q,zk d _ od kvs (aL lt),⟨.none,.none,?_⟩,fun b hb=>?_,q od⟩
  · rw [r.length]
    exact cv _ rfl
  · have e:b=_:=aH.mp hb
    subst e
    exact I3.fpOk (aC _) (I3.hok.fresh (aC _))
end
theorem Bd {d:aa} {od:Obj} {kvs:List (Key×V)} {g:TG} {tb:TS} {D:jM} {σ:St} {H:Hp} (Pv:Nat->St->Hp->Prop) (h0:Pv 0 σ H) (hl:∀ i σ H,i<=kvs.length->Pv i σ H->H d=some (.frz od (.dK kvs)))
    (hs:∀ i kv t σ H,kvs[i]?=some kv->Pv i σ H->H t=none->g (.ref t) σ (upd H t (.tup [kV kv.1,kv.2])) fun σ2 H2=>tb {D with nx:=Pv (i + 1),ct:=Pv (i + 1),bk:=D.nx} σ2 H2) (hd:∀ σ H,Pv kvs.length σ H->D.nx σ H) :
    ∃ W:Nat->Nat->St->Hp->Prop,(∃ m,W 0 m σ H)/\∀ i m σ H,W i m σ H ->
      ((Iti d od kvs).stop i H/\D.nx σ H)\/((Iti d od kvs).go i H/\∃ N:St->Hp->Prop,(∀ σ' H',N σ' H'->∃ m',m' < m/\W (i + 1) m' σ' H')/\∀ x H',(Iti d od kvs).yld i H x H'->g x σ H' fun σ2 H2=>tb {D with nx:=N,ct:=N,bk:=D.nx} σ2 H2):=by
  refine ⟨fun i m σ H=>m=kvs.length - i/\i<=kvs.length/\Pv i σ H,⟨kvs.length,by simp,bj _,h0⟩,?_⟩
  rintro i m σ H ⟨rfl,hi,p⟩
  have q:=hl i σ H hi p
  by_cases lt:i < kvs.length
  · refine .inr ⟨⟨q,lt⟩,Pv (i + 1),fun σ' H' p'=>⟨kvs.length - (i + 1),by omega,rfl,lt,p'⟩,fun x H' y=>?_⟩
    obtain ⟨t,kv,rfl,ht,hk,rfl⟩:=y
    exact hs i kv t σ H hk p ht
  · have e:i=kvs.length:=by omega
    subst e
    exact .inl ⟨⟨q,aC _⟩,hd σ H p⟩
def Hx (X:Cx) (D:jM):jM where
  nx:=fun σ H=>∃ d od kvs,H d=some (.frz od (.dK kvs))/\(∀ ob u,X.H₀ d≠some (.frz ob u))/\D.nx σ (upd H d (.dK kvs))
  rt:=D.rt
  bk:=D.bk
  ct:=D.ct
theorem Fx {X:Cx} {st:df} {t:TS} (h:PS X st t):PS X st (fun D σ H=>t (Hx X D) σ H):=by
  intro pins s σ H D I q
  refine thn (h pins s σ H (Hx X D) I q) fun fl s1 z=>?_
  cases fl with
  | next =>
    obtain ⟨σ',H',I',d,od,kvs,e,nf,y⟩:=z
    exact ⟨σ',_,I'.thaw e nf,y⟩
  | brk=>exact z
  | cont=>exact z
  | ret u=>exact z
end L2
namespace L2
open PySem PySem.Spec PyProof.Rows PySem.SeqAt
def BSc (x y:V) (b:Bool):Prop:=(∃ i j:Int,x=.int i/\y=.int j/\b=decide (i=j))\/∃ i j:Str,x=.str i/\y=.str j/\b=decide (i=j)
def BEq (H:Hp):Nat->V->V->Bool->Prop
  | 0,x,y,b=>BSc x y b
  | n + 1,x,y,b=>BSc x y b\/∃ p q xs ys,x=.ref p/\y=.ref q/\((H p=some (.lst xs)/\H q=some (.lst ys)/\xs.length≠ys.length/\b=false) \/
      (((H p=some (.lst xs)/\H q=some (.lst ys))\/(H p=some (.tup xs)/\H q=some (.tup ys)))/\xs.length=ys.length/\∃ e:Nat->Bool,(∀ i x y,xs[i]?=some x->ys[i]?=some y->BEq H n x y (e i))/\b=(hV xs.length).all e))
theorem BSc.self {x:V} {b:Bool} (h:BSc x x b):b=true:=by
  rcases h with ⟨i,j,e1,e2,rfl⟩ | ⟨i,j,e1,e2,rfl⟩
  · rw [e1] at e2
    cases e2
    exact decide_eq_true rfl
  · rw [e1] at e2
    cases e2
    exact decide_eq_true rfl
theorem BEq.self {H:Hp}:∀ {n:Nat} {x:V} {b:Bool},BEq H n x x b->b=true
  | 0,_,_,h=>BSc.self h
  | n + 1,x,b,h=>by
    rcases h with h | ⟨p,q,xs,ys,e1,e2,h⟩
    · exact h.self
    · rw [e1] at e2
      cases e2
      rcases h with ⟨h1,h2,h3,_⟩ | ⟨h1,_,e,he,rfl⟩
      · rw [h1] at h2
        cases h2
        exact absurd rfl h3
      · have exy:xs=ys:=by
          rcases h1 with ⟨h1,h2⟩ | ⟨h1,h2⟩
          · rw [h1] at h2
            cases h2
            rfl
          · rw [h1] at h2
            cases h2
            rfl
        subst exy
        rw [sU]
        intro i hi
        have lt:=oY.mp hi
        exact BEq.self (he i _ _ (ax lt) (ax lt))
section
variable {P:aM} {w:bH} {H:Hp} {s:aj}
theorem De {A:bP} {x y:V} {u v:ae} {b:Bool} (h:BSc x y b) (ru:RelV x u) (rv:RelV y v):EqAt A s u v b:=by
  rcases h with ⟨i,j,rfl,rfl,rfl⟩ | ⟨i,j,rfl,rfl,rfl⟩
  · obtain ⟨t,rfl⟩:=(show ∃ t,u=Value.int i t from ru)
    obtain ⟨t',rfl⟩:=(show ∃ t',v=Value.int j t' from rv)
    have z:=EqAt.int_int (A:=A) (s:=s) i t j t'
    have e:(i == j)=decide (i=j):=by
      by_cases c:i=j
      · rw [decide_eq_true c,beq_iff_eq.mpr c]
      · rw [decide_eq_false c,beq_eq_false_iff_ne.mpr c]
    rw [e] at z
    exact z
  · obtain ⟨t,rfl⟩:=(show ∃ t,u=Value.str i t from ru)
    obtain ⟨t',rfl⟩:=(show ∃ t',v=Value.str j t' from rv)
    have z:=EqAt.str_str (A:=A) (s:=s) i t j t'
    have e:(i == j)=decide (i=j):=by
      by_cases c:i=j
      · rw [decide_eq_true c,beq_iff_eq.mpr c]
      · rw [decide_eq_false c,beq_eq_false_iff_ne.mpr c]
    rw [e] at z
    exact z
theorem Dh (ok:HOk P w H s.heap) {A:bP} {n:Nat} {p q:aa} {xs ys:List V} {b:Bool} (hu:A.units < dM)
    (rec:∀ x y b,BEq H n x y b->∀ u v,RelV x u->RelV y v->EqAt A.in1 s u v b)
    (h:(H p=some (.lst xs)/\H q=some (.lst ys)/\xs.length≠ys.length/\b=false) \/
      (((H p=some (.lst xs)/\H q=some (.lst ys))\/(H p=some (.tup xs)/\H q=some (.tup ys)))/\xs.length=ys.length/\∃ e:Nat->Bool,(∀ i x y,xs[i]?=some x->ys[i]?=some y->BEq H n x y (e i))/\b=(hV xs.length).all e)):RcAt A s (.ref p) (.ref q) b:=by
  rcases h with ⟨h1,h2,h3,rfl⟩ | ⟨h1 | h1,hl,e,he,rfl⟩
  · obtain ⟨us,r1,i1⟩:=gj ok h1
    obtain ⟨vs,r2,i2⟩:=gj ok h2
    refine RcAt.lists_lengths i1 i2 ?_ hu
    rw [av,av,<- r1.length,<- r2.length]
    exact bne_iff_ne.mpr h3
  · obtain ⟨us,r1,i1⟩:=gj ok h1.1
    obtain ⟨vs,r2,i2⟩:=gj ok h1.2
    have l1:=r1.length
    have l2:=r2.length
    have k:=RcAt.lists (A:=A) (e:=e) i1 i2 (by rw [av,av]; omega) hu (fun j a b=>by
      have ja:j < us.length:=by simpa using a
      have jb:j < vs.length:=by simpa using b
      have hx:xs[j]?=some (xs[j]'(by omega)):=ax _
      have hy:ys[j]?=some (ys[j]'(by omega)):=ax _
      obtain ⟨u,hu',ru⟩:=r1.get hx
      obtain ⟨v,hv',rv⟩:=r2.get hy
      have eu:us[j]=u:=(aB.mp hu').2
      have ev:vs[j]=v:=(aB.mp hv').2
      have z:=rec _ _ _ (he j _ _ hx hy) u v ru rv
      simpa [eu,ev] using z)
    rw [av,<- l1] at k
    exact k
  · obtain ⟨us,r1,i1⟩:=eB ok h1.1
    obtain ⟨vs,r2,i2⟩:=eB ok h1.2
    have l1:=r1.length
    have l2:=r2.length
    have k:=RcAt.tuples (A:=A) (e:=e) i1 i2 hu (fun j a b=>by
      have ja:j < us.length:=by simpa using a
      have jb:j < vs.length:=by simpa using b
      have hx:xs[j]?=some (xs[j]'(by omega)):=ax _
      have hy:ys[j]?=some (ys[j]'(by omega)):=ax _
      obtain ⟨u,hu',ru⟩:=r1.get hx
      obtain ⟨v,hv',rv⟩:=r2.get hy
      have eu:us[j]=u:=(aB.mp hu').2
      have ev:vs[j]=v:=(aB.mp hv').2
      have z:=rec _ _ _ (he j _ _ hx hy) u v ru rv
      simpa [eu,ev] using z)
    have es:(us.toArray.size == vs.toArray.size)=true:=by
      rw [av,av,<- l1,<- l2,hl]
      exact beq_self_eq_true _
    rw [es,IP] at k
    have em:min us.toArray.size vs.toArray.size=xs.length:=by
      rw [av,av]
      omega
    first
      | (rw [em] at k; exact k)
      | (rw [av,<- l1] at k; exact k)
theorem Di (ok:HOk P w H s.heap):∀ {n:Nat} {A:bP} {x y:V} {u v:ae} {b:Bool},A.units + n < dM->BEq H n x y b->RelV x u->RelV y v->EqAt A s u v b
  | 0,A,x,y,u,v,b,_,h,ru,rv=>De h ru rv
  | n + 1,A,x,y,u,v,b,hu,h,ru,rv=>by
    rcases id h with h' | ⟨p,q,xs,ys,rfl,rfl,h'⟩
    · exact De h' ru rv
    · cases ru
      cases rv
      by_cases e:p=q
      · subst e
        rw [BEq.self h]
        exact EqAt.same _
      · exact EqAt.of_refs e (Dh ok (by omega) (fun x y b z u v ru rv=>Di ok (by show A.units + 1 + n < dM; omega) z ru rv) h')
end
section
variable {X:Cx}
theorem IQ (hu:X.A.units + 50 < dM):OpR X (cU .Eq) (fun x y H Q=>∃ n p q b,n<=20/\x=.ref p/\y=.ref q/\BEq H n x y b/\Q (.bl b) H):=by
  intro pins s σ H x y v u Q I rx ry h
  obtain ⟨n,p,q,b,hn,rfl,rfl,d,k⟩:=h
  cases rx
  cases ry
  have fin:EP X pins σ Q (.bool b) s:=⟨.bl b,H,I,rfl,k⟩
  cases n with
  | zero =>
    rcases d with ⟨_,_,e,_⟩ | ⟨_,_,e,_⟩
    · cases e
    · cases e
  | succ n =>
    rcases d with d | ⟨p',q',xs,ys,e1,e2,d⟩
    · rcases d with ⟨_,_,e,_⟩ | ⟨_,_,e,_⟩
      · cases e
      · cases e
    · cases e1
      cases e2
      exact Dh I.hok (by omega) (fun x y b z u v ru rv=>Di I.hok (by show X.A.units + 1 + n < dM; omega) z ru rv) d X.prog X.w _ _ fin
end
end L2
namespace L2
open PySem PySem.Spec PyProof.Rows
section
variable {prog:aM} {w:bH} {A:bP} {E:ae->aj->Prop} {s:aj}
end
section
variable {X:Cx}
end
end L2
namespace L2
open PySem PySem.Spec PyProof.Rows
structure uS (K:af) (C:aa):Prop where
  ga:aV K (.ref C) "__getattribute__"=some (some (.builtin "BaseException.__getattribute__"))
  gh:aV K (.ref C) "__getattr__"=some none
  cl:aV K (.ref C) "__class__"=some (some (.builtin "object.__class__"))
  cn:zX K (.builtin "object.__class__") "__get__"=some (some (.builtin "getset_descriptor.__get__"))
  ck:BJ K (.builtin "object.__class__")=some true
  ob:uJ K C (.type "object")=some true
  be:uJ K C (.type "BaseException")=some true
theorem zl:Manifest.canonical "BaseException.__getattribute__"="object.__getattribute__":=by decide +kernel
section
variable {prog:aM} {w:bH} {A:bP} {E:ae->aj->Prop} {s:aj} {K:af} {x C:aa} {ox:Obj}
theorem Dj {f:aa} {name:Str} {pl:Sem Bool} {Q:ae×List ae->aj->Prop} (X:K.In s.heap) (I:tM s.heap x ox C none) (c:uS K C) (hf:aV K (.ref C) name=some (some (.ref f))) (ht:Cp K (.ref f)=some (.type "function"))
    (h:Q (.ref f,[.ref x]) s):aU (aW prog w) A (lN (.ref x) name pl) Q E s:=by
  unfold lN specialOf
  refine ai (ai (I.type.here ((jn X c.ga).here ?_)))
  dsimp only
  rw [zl,if_neg (by decide)]
  refine ai (ai (I.type.here ((jn X c.gh).here ?_)))
  refine ai (ai (I.type.here ((jn X hf).here (ai ((PySem.W.looks_typeIn X ht).here ?_)))))
  rw [if_neg (by decide +kernel)]
  refine ai (wpAny_loadPart I.at_ ?_)
  have hd:=I.dict
  cases e:ox.dict with
  | none=>exact ai (zf (aN h))
  | some dx=>rw [e] at hd; exact hd.elim
end
def XOk (a C:aa) (h:cB):Prop:=∃ ob,h.get? a=some ob/\ob.cls=.ref C/\ob.dict=none/\Dk ob=true
def XO (a C:aa):HO:=.ext (XOk a C)
theorem XOk.obj {P:aM} {w:bH} {H:Hp} {h:cB} {a C:aa} (x:XOk a C h):d5 P w H h a (XO a C):=by
  obtain ⟨ob,e,r⟩:=x
  refine ⟨⟨ob,e,r⟩,⟨ob,e⟩,fun h1 h2 y k=>?_⟩
  obtain ⟨o,e1,r1⟩:=y
  exact ⟨o,k o e1,r1⟩
theorem XOk.inst {h:cB} {a C:aa} (x:XOk a C h):∃ ox,tM h a ox C none:=by
  obtain ⟨ob,e,c,d,n⟩:=x
  exact ⟨ob,e,c,n,by rw [d]; trivial⟩
theorem IR {P:aM} {w:bH} {H:Hp} {h:cB} {a C:aa} (ok:HOk P w H h) (e:H a=some (XO a C)):XOk a C h:=(ok a _ e).1
section
variable {X:Cx} {pins:List (aa×Obj)} {σ:St} {H:Hp} {s:aj}
end
section
variable {P:aM} {w:bH} {H:Hp} {h h':cB} {a:aa} {o:HO} {fs ex:List aa}
end
section
variable {X:Cx} {pins:List (aa×Obj)} {σ:St} {H:Hp} {s:aj} {C:aa} {x:Str} {p pos:Pos} {e:cX} {es:List cX} {t:TA}
end
section
variable {X:Cx} {CX:CXT} {k:Nat} {f C:aa} {fd:bY} {ps:List Str} {sp:Sp} {E:XK} {m:Str} {pos apos:Pos} {o:cX} {ta:TE}
end
section
variable {X:Cx} {pins:List (aa×Obj)} {σ:St} {H:Hp} {s:aj}
theorem Inv.adopt {B:cB} {ea C:aa} {fl:ae} (I:Inv X pins σ H s) (f:FlD B X.stack ea (.ref C) fl s.heap) (cov:wC X pins H B s.heap):H ea=none/\Inv X pins σ (upd H ea (XO ea C)) s:=by
  obtain ⟨hB,hn,hl,oe,vs,T,oT,ts,he,hc,hdc,hd,_⟩:=f
  have nf:ea∉frs X.stack:=fun z=>by
    obtain ⟨_,o,ho,q⟩:=hl.mem z
    rw [he] at ho
    cases ho
    exact q vs hd
  have nb:∀ o,B.get? ea≠some o:=fun o z=>by rw [hn] at z; cases z
  have hz:H ea=none:=by
    cases z:H ea with
    | none=>rfl
    | some u=>exact absurd (cov ea oe (.inl (by rw [z]; simp)) nf he) (nb oe)
  have ne:∀ {b:aa} {o:HO},H b=some o->b≠ea:=fun {b o} z=>aG z hz
  refine ⟨hz,I.ok,I.os,I.bare,⟨I.base.keep,I.base.slot,fun b o e n hx=>?_,I.base.there,fun b xs e=>?_,fun b o u e=>?_,fun b ps e=>?_⟩,I.loc,I.cell,?_,fun x c e=>?_,fun p hp=>?_,fun b u e=>?_,I.len⟩
  · rw [aJ]
    · exact I.base.free b o e n hx
    · rintro rfl
      exact nb oe (cov _ oe (.inr (.inl ⟨hx,o,e⟩)) nf he)
  · have z:=I.base.tups b xs e
    rw [aJ (ne z)]
    exact z
  · have z:=I.base.frzs b o u e
    rw [aJ (ne z)]
    exact z
  · obtain ⟨more,z⟩:=I.base.tbls b ps e
    exact ⟨more,by rw [aJ (ne z)]; exact z⟩
  · rw [aJ]
    · exact I.free
    · intro z
      obtain ⟨m,⟨o,es,ep,ho,hdd,_⟩,_⟩:=I.loc
      rw [z,he] at ho
      cases ho
      rw [hd] at hdd
      cases hdd
  · rw [aJ]
    · exact I.freeC x c e
    · intro z
      obtain ⟨v,o,ho,hdd⟩:=I.cell x c e
      rw [z,he] at ho
      cases ho
      rw [hd] at hdd
      cases hdd
  · obtain ⟨e1,e2,e3,e4,e5⟩:=I.pin p hp
    refine ⟨e1,?_,e3,e4,e5⟩
    rw [aJ]
    · exact e2
    · intro z
      have e6:s.heap.get? ea=some p.2:=by rw [<- z]; exact e1
      rw [he] at e6
      cases e6
      exact nb _ (cov ea _ (.inr (.inr ⟨p,hp,z⟩)) nf he)
  · by_cases hb:b=ea
    · subst hb
      rw [ah] at e
      cases e
      refine XOk.obj ⟨oe,he,hc,hdc,?_⟩
      unfold Dk
      rw [hd]
    · rw [aJ hb] at e
      exact (I.hok b u e).stay (fun _ _ _ q=>q) (fun c q=>by rw [aJ (ne q)]; exact q) fun c xs q=>by rw [aJ (ne q)]; exact q
theorem Be {M:E1} {A:bP} {E:ae->aj->Prop} {i:Nat} {x:Str} {v:V} {Q:Unit->aj->Prop} (I:Inv X pins σ H s) (hN:X.N.Nodup) (hi:X.N[i]?=some x) (hk:X.env.scope.names.lookup x=some .local) (hv:σ[i]?=some (some v))
    (h:∀ s',Inv X pins (σ.set i none) H s'->Q () s'):aU M A (unbindName X.env x) Q E s:=by
  obtain ⟨m,hn,hl⟩:=id I.loc
  have hcls:(X.env.scope.kind == .class || (X.env.scope.kind == .module && X.env.locals != X.env.globals))=false:=by rw [I.ok.kind]; rfl
  have hkd:X.env.kindOf x=some .local:=hk
  have hmx:(m x).isSome=true:=by
    obtain ⟨u,_,q⟩:=hl i x v hi hv (.inl hk)
    rcases q with ⟨_,e⟩ | ⟨k,_⟩
    · rw [e]; rfl
    · rw [hkd] at k
      rcases k with k | k <;> cases k
  unfold unbindName
  refine ai (wpAny_point (ai ?_))
  unfold deleteName
  simp only [hkd,hcls]
  rw [if_neg (by decide)]
  refine ai (wpAny_nsDel_keeps hn fun h' v' hn' hs=>?_)
  rw [hmx]
  simp only [jz,iK,if_false]
  refine aN (wpAny_point (h _ ?_))
  obtain ⟨oL,_,_,hoL,_⟩:=id hn
  have cne:=I.cne
  have below:∀ b o,X.s₀.heap.get? b=some o->b≠X.env.locals:=fun b o e=>aL (aY (aK e) I.ok.above)
  refine ⟨I.ok,I.os,I.bare,⟨fun b o e n hb hx=>(hs.2 b (below b o e)).trans (I.base.keep b o e n hb hx),fun b o e n hb hx=>?_,I.base.free,fun b o e hx=>?_,I.base.tups,I.base.frzs,I.base.tbls⟩,⟨_,hn',fun j y v2 e1 e2 e3=>?_⟩,fun y c e=>?_,I.free,I.freeC,fun p hp=>?_,fun b ob e=>?_,by simpa using I.len⟩
  · obtain ⟨sl,e1⟩:=I.base.slot b o e n hb hx
    exact ⟨sl,(hs.2 b (below b o e)).trans e1⟩
  · obtain ⟨o',e1⟩:=I.base.there b o e hx
    exact ⟨o',(hs.2 b (below b o e)).trans e1⟩
  · by_cases hj:j=i
    · subst hj
      have hlt:j < σ.length:=(aB.mp hv).1
      rw [eM hlt] at e2
      cases e2
    · rw [hW (eZ hj)] at e2
      obtain ⟨u',r',q⟩:=hl j y v2 e1 e2 e3
      refine ⟨u',r',?_⟩
      rcases q with ⟨k,e⟩ | ⟨k,c,e,z⟩
      · refine .inl ⟨k,?_⟩
        have hne:y≠x:=fun e=>hj (tD hN e1 (e ▸ hi))
        simp [hne,e]
      · exact .inr ⟨k,c,e,z.sameBut hs (cne y c e)⟩
  · obtain ⟨w',z⟩:=I.cell y c e
    exact ⟨w',z.sameBut hs (cne y c e)⟩
  · obtain ⟨e,n,ne,nf,d⟩:=I.pin p hp
    exact ⟨(hs.2 p.1 ne).trans e,n,ne,nf,d⟩
  · refine (I.hok b ob e).stay (fun c w' hc q=>(hs.2 c ?_).trans q) (fun _ q=>q) fun _ _ q=>q
    rintro rfl
    rcases hc with rfl | hc
    · rw [I.free] at e; cases e
    · rw [I.free] at hc; cases hc
def Hy (i:Nat) (D:jM):jM:={nx:=fun σ H=>D.nx (σ.set i none) H,rt:=D.rt,bk:=fun σ H=>D.bk (σ.set i none) H,ct:=fun σ H=>D.ct (σ.set i none) H}
def thAs (K:af) (Ci:aa) (i:Nat) (t:TS) (th:TH):TH:=fun C D σ H =>
  (c5 K (.ref C) (.ref Ci)=some true/\∀ ea,H ea=none->t (Hy i D) (σ.set i (some (.ref ea))) (upd H ea (XO ea C)))\/(c5 K (.ref C) (.ref Ci)=some false/\th C D σ H)
theorem sV {M:E1} {A:bP} {E:ae->aj->Prop} {i:Nat} {x:Str} {pos:Pos} {Q:Unit->aj->Prop} (I:Inv X pins σ H s) (hN:X.N.Nodup) (hi:X.N[i]?=some x) (hk:X.env.scope.names.lookup x=some .local)
    (h:∀ s',Inv X pins (σ.set i none) H s'->Q () s'):aU M A (do bindName X.env x .none; rg X.env x pos) Q E s:=by
  have hlt:i < σ.length:=by
    rw [I.len]
    exact (aB.mp hi).1
  refine ai (wpAny_bindName (pV (v:=.non) I hN hi (.inl hk) rfl (fun s1 I1=>?_) (.inr hk)))
  unfold rg
  refine wpAny_onRaise (Be (v:=.non) I1 hN hi hk (eM hlt) fun s2 I2=>h s2 ?_)
  rw [List.set_set] at I2
  exact I2
theorem IS {x n:Str} {Ci:aa} {np pos:Pos} {b₀:df} {suite:List df} {rest:List sO} {t:TS} {th:TH} (i:Nat) (hg:Gl X x) (hm:X.mg x=some (.ref Ci)) (hN:X.N.Nodup) (hi:X.N[i]?=some n) (hk:X.env.scope.names.lookup n=some .local)
    (hsu:∀ ea,PSs (X.hdl ea) (b₀ :: suite) t) (hr:PHs X rest th) (hd:(x == ("__debug__":Str))=false:=by decide):PHs X (.ExceptHandler (some (.Name x np)) (some n) (b₀ :: suite) pos :: rest) (thAs X.K Ci i t th):=by
  intro pins s σ H D ea C B I fl cov h
  refine wpAny_handleBy_cons (codeAny_handlers_test ?_) (by intro q; cases q)
  refine pX (X:=X.hdl ea) (I.hdl ea) hg hm ?_ hd
  obtain ⟨ob,hob,hc⟩:=fl.there
  have LT:PySem.W.Looks (aW X.prog X.w) s.heap (typeOf (.ref ea)) (.ref C):=by
    rw [<- hc]
    exact (PySem.W.Looks.ld hob).andThen .now
  rcases h with ⟨hx,q⟩ | ⟨hx,q⟩
  · refine (BX I.kIn LT hx).here ?_
    refine codeAny_handlers_suite_as (qi fl fun h6 fl6 sm6=>?_)
    have I6:=I.landed fl6.1 cov sm6
    obtain ⟨hz,J⟩:=I6.adopt fl6 (wC.land I fl6.1 cov)
    refine pV (X:=X.hdl ea) (v:=.ref ea) (J.hdl ea) hN hi (.inl hk) rfl (fun s2 I2=>?_) (.inr hk)
    refine d9 (hsu ea pins _ _ _ (Hy i D) I2 (q ea hz)) (fun f s3 z=>?_) (fun _ _ z=>cO z)
    show aU _ X.A (do bindName X.env n .none; rg X.env n pos) (fun _ s₃=>SP X pins D f s₃) X.xe s3
    cases f with
    | next=>obtain ⟨σ',H',I3,q3⟩:=z; exact sV (I3.unhdl I.ok) hN hi hk fun s4 I4=>⟨_,_,I4,q3⟩
    | brk=>obtain ⟨σ',H',I3,q3⟩:=z; exact sV (I3.unhdl I.ok) hN hi hk fun s4 I4=>⟨_,_,I4,q3⟩
    | cont=>obtain ⟨σ',H',I3,q3⟩:=z; exact sV (I3.unhdl I.ok) hN hi hk fun s4 I4=>⟨_,_,I4,q3⟩
    | ret u=>obtain ⟨v,σ',H',I3,r3,q3⟩:=z; exact sV (I3.unhdl I.ok) hN hi hk fun s4 I4=>⟨v,_,_,I4,r3,q3⟩
  · refine (BX I.kIn LT hx).here ?_
    exact hr pins s σ H D ea C B I fl cov q
end
end L2
namespace L2
open PySem PySem.Spec PyProof.Rows
section
variable {X:Cx} {pins:List (aa×Obj)} {σ:St} {H:Hp} {s s2:aj} {h':cB}
theorem Inv.turned2 {t':Nat} {e it:aa} (I:Inv X pins σ H s) (k:∀ b o,b≠e->b≠it->s.heap.get? b=some o->h'.get? b=some o) (f:vU X pins H e) (g:vU X pins H it):Inv X pins σ H {s with heap:=h',toks:=t'}:=by
  have ne1:∀ b u,H b=some u->b≠e:=fun b u q z=>by rw [z,f.1] at q; cases q
  have ne2:∀ b u,H b=some u->b≠it:=fun b u q z=>by rw [z,g.1] at q; cases q
  obtain ⟨f0,f1,f2,f3,f4,f5⟩:=f
  obtain ⟨g0,g1,g2,g3,g4,g5⟩:=g
  refine I.step (g':=s.gens) (d':=s.drawn) (ch:=[e,it]) (fun b hb=>?_) (fun b o _ _ hc q _=>k b o (fun z=>hc (by simp [z])) (fun z=>hc (by simp [z])) q) (fun b o _ _ hc q _=>⟨o.slots,k b o (fun z=>hc (by simp [z])) (fun z=>hc (by simp [z])) q⟩) (fun _ _ _ _ n=>n)
    (fun b o hc q=>⟨o,k b o (fun z=>hc (by simp [z])) (fun z=>hc (by simp [z])) q⟩) (fun _ _ q=>q) (fun _ _ _ q=>q) (fun b ps q=>⟨#[],by rw [q]; simp⟩) (fun m hm=>?_) (fun b u q=>?_) I.bare
  · rcases au.mp hb with z | z
    · subst z
      exact ⟨f3,f1,f4,f5⟩
    · have z:=aH.mp z
      subst z
      exact ⟨g3,g1,g4,g5⟩
  · obtain ⟨o,es,ep,ho,r⟩:=hm
    exact ⟨o,es,ep,k _ o (eZ f1) (eZ g1) ho,r⟩
  · refine (I.hok b u q).stay (fun c v hc q'=>k c v ?_ ?_ q') (fun _ q=>q) fun _ _ q=>q
    · rcases hc with z | z
      · rw [z]; exact ne1 b u q
      · exact ne1 c _ z
    · rcases hc with z | z
      · rw [z]; exact ne2 b u q
      · exact ne2 c _ z
theorem Inv.track {o:HO} (I:Inv X pins σ H s) (I2:Inv X pins σ H s2) (ok:d5 X.prog X.w (upd H s.heap.objs.size o) s2.heap s.heap.objs.size o):Inv X pins σ (upd H s.heap.objs.size o) s2:=by
  have fr:H s.heap.objs.size=none:=I.hok.fresh (aC _)
  exact ⟨I2.ok,I2.os,I2.bare,⟨I2.base.keep,I2.base.slot,fun b ob q n hx=>by
      have z:=I2.base.free b ob q n hx
      by_cases y:b=s.heap.objs.size
      · exfalso
        have lt:b < s.heap.objs.size:=aY (aK q) I.sz
        rw [y] at lt
        exact absurd lt (gy _)
      · rw [aJ y]
        exact z,I2.base.there,fun b xs q=>by
      rw [aJ (aG (I2.base.tups b xs q) fr)]
      exact I2.base.tups b xs q,fun b ob v q=>by
      rw [aJ (aG (I2.base.frzs b ob v q) fr)]
      exact I2.base.frzs b ob v q,fun b ps q=>by
      obtain ⟨m,z⟩:=I2.base.tbls b ps q
      exact ⟨m,by rw [aJ (aG z fr)]; exact z⟩⟩,I2.loc,I2.cell,by
      rw [aJ (aL I.lt)]
      exact I2.free,fun x c q=>by
      obtain ⟨v,y⟩:=I.cell x c q
      rw [aJ (aL y.lt)]
      exact I2.freeC x c q,fun p hp=>by
      obtain ⟨h1,h2',h3⟩:=I2.pin p hp
      obtain ⟨g1,_⟩:=I.pin p hp
      refine ⟨h1,?_,h3⟩
      rw [aJ (aL (aK g1))]
      exact h2',fun b v q=>by
      by_cases y:b=s.heap.objs.size
      · subst y
        rw [ah] at q
        cases q
        exact ok
      · rw [aJ y] at q
        exact (I2.hok b v q).stay (fun c v' _ z=>z) (fun c z=>by rw [aJ (aG z fr)]; exact z) fun c xs z=>by rw [aJ (aG z fr)]; exact z,I2.len⟩
end
def Ite (K:af) (a:aa):It:=
  ⟨fun i H=>∃ xs x,SqL K H a xs/\xs[i]?=some x,fun i H x H'=>∃ t y,x=.ref t/\H t=none/\(∀ xs,SqL K H a xs->xs[i]?=some y)/\H'=upd H t (.tup [.int i,y]),fun i H=>∃ xs,SqL K H a xs/\xs.length<=i⟩
section
variable {P:aM} {w:bH} {K:af}
theorem Bf {elts:List cX} {x1} {pos:Pos} (a e it:aa) (hne:e≠it):AY P w K (.Tuple elts x1 pos) (Ite K a) [e,it] e (fun i h=>∃ old,IsEnum h e it (i:Int) old/\h.IsListIter it a i) where
  mem:=by simp
  obj:=fun i h st b hb=>by
    obtain ⟨old,h1,h2⟩:=st
    rcases au.mp hb with z | z
    · subst z
      exact ⟨_,h1,fun v z=>by cases z⟩
    · have z:=aH.mp z
      subst z
      obtain ⟨o,e,c,d⟩:=h2
      exact ⟨o,e,fun v z=>by rw [d] at z; cases z⟩
  keep:=fun i h h' ⟨old,h1,h2⟩ k=>⟨old,k e (by simp) _ h1,h2.at fun o q=>k it (by simp) o q⟩
  item:=by
    intro X hP hw hK hc i pins s σ H E I hf st hg
    subst hP hw hK
    obtain ⟨old,st1,st2⟩:=st
    obtain ⟨xs,x,hq,hx⟩:=hg
    obtain ⟨its,rv,p,hz⟩:=I.list hq
    obtain ⟨u,hu,ru⟩:=rv.get hx
    have F1:=hf e (by simp)
    have F2:=hf it (by simp)
    obtain ⟨f0,f1,f2,f3,f4,f5⟩:=id F1
    refine wpAny_pyNext_enum_item st1 st2 p.isList (x:=u) (by simpa using hu) hne fun h' a1 a2 a3 a4 a5=>?_
    have I1:Inv X pins σ H {s with heap:=h',toks:=s.toks + 1}:=I.turned2 (t':=s.toks + 1) (fun b o h1 h2 q=>a5 b o h1 h2 q) F1 F2
    refine ⟨_,rfl,wpAny_letOwnedTupleGo_enum a1 fun h2 e2 sb=>?_⟩
    have I2:Inv X pins σ H {s with heap:=h2,toks:=s.toks + 1}:=I1.turned (t':=s.toks + 1) (fun b o hb q=>sb.extBut b o hb q) f0 f1 f3 f4 f5
    have fr:H s.heap.objs.size=none:=I.hok.fresh (aC _)
    have n1:s.heap.objs.size≠e:=(aL (aK st1)).symm
    have n2:s.heap.objs.size≠it:=by
      obtain ⟨o,q,_⟩:=st2
      exact (aL (aK q)).symm
    have t2:=sb.extBut _ _ n1 a3
    have I3:=I.track I2 (o:=.tup [.int i,x]) ⟨(by show 2<=aA; decide),[.int i s.toks,u],.cons ⟨_,rfl⟩ (.cons ru .nil),_,t2,rfl,0,rfl⟩
    refine ⟨.ref s.heap.objs.size,_,I3,rfl,⟨_,x,rfl,fr,fun ys hy=>by rw [I.list_inj hy hq]; exact hx,rfl⟩,⟨u,e2,a2.extBut sb.extBut (eZ hne)⟩,fun b hb=>?_⟩
    rcases au.mp hb with z | z
    · rw [z,aJ (eZ n1)]
      exact f0
    · rw [aH.mp z,aJ (eZ n2)]
      exact F2.1
  done:=by
    intro X hP hw hK hc i pins s σ H E I hf st hg
    subst hP hw hK
    obtain ⟨old,st1,st2⟩:=st
    obtain ⟨xs,hq,hx⟩:=hg
    obtain ⟨its,rv,p,hz⟩:=I.list hq
    obtain ⟨f0,f1,f2,f3,f4,f5⟩:=hf it (by simp)
    have hl:=rv.length
    exact wpAny_pyNext_enum_end (I.ok.hd hc) st1 st2 p.isList (by simp; omega) fun h' eb=>⟨rfl,I.turned (t':=s.toks) (fun b o hb e=>eb b o hb e) f0 f1 f3 f4 f5⟩
  self:=fun A i s Q E ⟨old,st,_⟩ h=>by
    have ty:s.TypeIs (.ref e) "enumerate":=⟨_,st,rfl⟩
    refine uR ty F.slot_enumerate_iter (oV F.slot_enumerate_iter ty F.entry_enumerate_iter ?_ (F.args_enumerate_iter_1 _))
    show aU _ _ (ret (.ref e)) _ _ s
    exact aN ⟨_,rfl,"enumerate",_,ty,F.slot_enumerate_next.lookup,h⟩
end
section
variable {X:Cx} {elts:List cX} {x1:Nat} {tpos pos p:Pos}
def Hz (K:af) (tl:TA):TI:=fun σ H R=>tl σ H fun vs H1=>∃ a,vs=[.ref a]/\(∃ xs,SqL K H1 a xs)/\R (Ite K a) H1
theorem Fy {a:cX} {ta:TA} (hg:Gl X "enumerate") (hm:X.mg "enumerate"=none) (ha:PA X [a] ta) (hs:cH [a] X.env=[(false,eW a X.env)]:=by rfl):PI X (.Tuple elts x1 tpos) (.Call (.Name "enumerate" p) [a] [] pos) (Hz X.K ta):=by
  intro pins s σ H R I h
  refine Call_ (qM I hg hm boot_enumerate (jg (thn (ha pos pins s σ H _ I h) fun us s1 ⟨vs,H1,I1,r1,q1⟩=>?_) hs rfl))
  obtain ⟨l,e,⟨xs,hq⟩,q⟩:=q1
  subst e
  obtain ⟨u,rfl,ru⟩:=vals1 r1
  cases ru
  obtain ⟨its,rv,pl,hz⟩:=I1.list hq
  refine call_enumerate_list pl.isList fun h' e1 e2 e3 e4=>?_
  have I2:Inv X pins σ H1 {s1 with heap:=h'}:=I1.kept (t':=s1.toks) e4
  have ty:({s1 with heap:=h'}:aj).TypeIs (.ref (s1.heap.objs.size + 1)) "enumerate":=⟨_,e1,rfl⟩
  refine uR ty F.slot_enumerate_iter (oV F.slot_enumerate_iter ty F.entry_enumerate_iter ?_ (F.args_enumerate_iter_1 _))
  show aU _ _ (ret (.ref (s1.heap.objs.size + 1))) _ _ _
  refine aN ⟨_,rfl,"enumerate",_,ty,F.slot_enumerate_next.lookup,?_⟩
  refine ⟨_,[_,_],_,_,H1,rfl,I2,Bf l _ s1.heap.objs.size (Nat.succ_ne_self _),⟨.none,e1,e2⟩,fun b hb=>?_,q⟩
  rcases au.mp hb with z | z
  · rw [z]
    exact I1.fpOk (fb _) (I1.hok.fresh (fb _))
  · rw [aH.mp z]
    exact I1.fpOk (aC _) (I1.hok.fresh (aC _))
theorem Bg {K:af} {a:aa} {xs:List V} {n:Nat} {g:TG} {tc:TT} {te:TE} {σ:St} {H:Hp} {Q:VK} (Pv:Nat->List V->Hp->Prop) (h0:Pv 0 [] H) (hl:∀ i ys H,i<=xs.length->Pv i ys H->SqL K H a xs/\ys.length < aA)
    (hs:∀ i x t ys H,xs[i]?=some x->Pv i ys H->H t=none->g (.ref t) (cC n none++σ) (upd H t (.tup [.int i,x])) fun σ2 H2=>σ2.drop n=σ/\tc σ2 H2 fun b H3=>if b=true then te σ2 H3 fun y H4=>Pv (i + 1) (ys++[y]) H4 else Pv (i + 1) ys H3)
    (hd:∀ ys H,Pv xs.length ys H->∀ p,H p=none->Q (.ref p) (upd H p (.lst ys))) :
    ∃ W:Nat->Nat->List V->Hp->Prop,(∃ m,W 0 m [] H)/\∀ i m ys H,W i m ys H->ys.length < aA/\(((Ite K a).stop i H/\∀ p,H p=none->Q (.ref p) (upd H p (.lst ys))) \/
      ((Ite K a).go i H/\∃ N:List V->Hp->Prop,(∀ ys' H',N ys' H'->∃ m',m' < m/\W (i + 1) m' ys' H')/\∀ x H',(Ite K a).yld i H x H'->g x (cC n none++σ) H' fun σ2 H2=>σ2.drop n=σ/\tc σ2 H2 fun b H3 =>
        if b=true then te σ2 H3 fun y H4=>N (ys++[y]) H4 else N ys H3)):=by
  refine ⟨fun i m ys H=>m=xs.length - i/\i<=xs.length/\Pv i ys H,⟨xs.length,by simp,bj _,h0⟩,?_⟩
  rintro i m ys H ⟨rfl,hi,p⟩
  obtain ⟨q,z⟩:=hl i ys H hi p
  refine ⟨z,?_⟩
  by_cases hlt:i < xs.length
  · refine .inr ⟨⟨xs,xs[i],q,by simp [hlt]⟩,Pv (i + 1),fun ys' H' p'=>⟨xs.length - (i + 1),by omega,rfl,hlt,p'⟩,fun x H' y=>?_⟩
    obtain ⟨t,v,rfl,ht,hv,rfl⟩:=y
    exact hs i v t ys H (hv xs q) p ht
  · have e:i=xs.length:=by omega
    subst e
    exact .inl ⟨⟨xs,q,aC _⟩,hd ys H p⟩
end
section
variable {prog:aM} {w:bH} {A:bP} {E:ae->aj->Prop} {s:aj}
theorem uT {a:aa} {vs:List ae} {n:Nat} {b:Bool} {P:Fin->aj->Prop} (ho:s.heap.get? a=some (dI "list" vs.toArray n)) (h2:vs.length < 2)
    (h:P (.done (.ret .none)) {s with heap:=sortedHeap s.heap a vs vs.toArray}) :
    aU (aW prog w) A (ig.«list.sort» ⟨[.ref a],[(jc "reverse",.bool b)]⟩) P E s:=by
  rw [list_sort_rev]
  have ha:a < s.heap.objs.size:=aK ho
  refine ai (listItems_at ho rfl ?_)
  refine ai (sW ho rfl ?_)
  obtain ⟨e1,ho1⟩:∃ e1,(s.heap.update a (cV fun _=>#[])).get? a=some (dI "list" #[] e1):=⟨_,get?_update_seq ho (fun _=>#[])⟩
  refine ai (xt ho1 rfl ?_)
  refine ai (wpAny_newTuple ?_)
  refine ai (sX ?_)
  refine c7 ?_
  have ho6:(((s.heap.update a (cV fun _=>#[])).push (dI "tuple" vs.toArray 0)).push (dI "list" #[] 0)).get? a=some (dI "list" #[] e1):=by
    rw [fg _ _ _ (by rw [tX,fZ]; exact aL (jd ha)),fg _ _ _ (by rw [fZ]; exact aL ha)]
    exact ho1
  have one:((if b=true then (if b=true then (vs.toArray.zip vs.toArray).reverse else vs.toArray.zip vs.toArray).map (·.2) |>.reverse else (if b=true then (vs.toArray.zip vs.toArray).reverse else vs.toArray.zip vs.toArray).map (·.2)):Array ae)=vs.toArray:=by
    match vs,h2 with
    | [],_=>cases b <;> simp
    | [v],_=>cases b <;> simp
  show aU (aW prog w) A _ P E {s with heap:=((s.heap.update a (cV fun _=>#[])).push (dI "tuple" vs.toArray 0)).push (dI "list" #[] 0)}
  dsimp only
  have step:∀ t:Sem Fin,aU (aW prog w) A t P E {s with heap:=((s.heap.update a (cV fun _=>#[])).push (dI "tuple" vs.toArray 0)).push (dI "list" #[] 0)} ->
      aU (aW prog w) A (if b=true then (do let _ <- E3 "list.sort.reverse"; t) else t) P E {s with heap:=((s.heap.update a (cV fun _=>#[])).push (dI "tuple" vs.toArray 0)).push (dI "list" #[] 0)}:=by
    intro t ht
    split
    · exact ai (zf ht)
    · exact ht
  refine step _ ?_
  have h2':vs.toArray.size < 2:=by simpa using h2
  rw [if_pos h2',if_pos h2']
  refine ai (aN ?_)
  rw [StateT.run_pure]
  refine ai (aN ?_)
  dsimp only
  refine ai (xt ho6 rfl ?_)
  have one':(if b=true then (Array.map (fun x=>x.snd) (arrOf (Ku general' (if b=true then (vs.toArray.zip vs.toArray).reverse else vs.toArray.zip vs.toArray) #[] 7 none))).reverse else Array.map (fun x=>x.snd) (arrOf (Ku general' (if b=true then (vs.toArray.zip vs.toArray).reverse else vs.toArray.zip vs.toArray) #[] 7 none)))=vs.toArray:=one
  rw [one']
  refine ai (sW ho6 rfl ?_ (hsz2:=by rw [mZ]; omega))
  simp only [bne_self_eq_false,iK,if_false]
  exact aN h
theorem zm {l:aa} {vs:List ae} {b:Bool} {Q:ae->aj->Prop} (hl:s.heap.IsList l vs.toArray) (h2:vs.length < 2)
    (h:Q (.ref (s.heap.objs.size + 1)) {s with heap:=BY s.heap vs vs.toArray}) :
    aU (aW prog w) A (vV (.builtin "sorted") [.ref l] [(jc "reverse",.bool b)]) Q E s:=by
  refine Dl kind_sorted plain_sorted entry_sorted (args_sorted_rev _ _) ?_
  unfold ig.«sorted»
  refine ai (m:=checkCount "sorted" 1 1 _) (aN ?_)
  refine ai (collect_list hl ?_)
  refine ai (sX ?_)
  have hsz:((s.heap.push (dI "list" #[] 0)).update s.heap.objs.size (cV (·++vs.toArray))).objs.size=s.heap.objs.size + 1:=by
    rw [fZ,tX]
  have hoL:(((s.heap.push (dI "list" #[] 0)).update s.heap.objs.size (cV (·++vs.toArray))).push (dI "list" vs.toArray 0)).get? (s.heap.objs.size + 1)=some (dI "list" vs.toArray 0):=by
    rw [<- hsz]; exact cv _ rfl
  show aU _ _ _ _ _ {s with heap:=((s.heap.push (dI "list" #[] 0)).update s.heap.objs.size (cV (·++vs.toArray))).push (dI "list" vs.toArray 0)}
  rw [hsz]
  refine ai (c7 (HA slot_list_sort ⟨_,hoL,rfl⟩ entry_list_sort (uT hoL h2 ⟨_,rfl,?_⟩) (IT _ _)))
  exact aN ⟨_,rfl,h⟩
end
section
variable {X:Cx} {e:cX} {t:TA} {p pos kp bp:Pos} {j:Nat}
end
section
variable {X:Cx}
def tTryE (T:aa->St->Hp->Prop) (tb:TS) (th:TH) (te:TS):TS:=fun D σ H=>tb {D with nx:=te D} σ H/\∀ C σ' H',σ'.length=σ.length->T C σ' H'->th C D σ' H'
theorem Fz {body orelse:List df} {h₀:sO} {hs:List sO} {pos:Pos} {tb te:TS} {th:TH} (T:aa->St->Hp->Prop) (hb:∀ pins,PSs (X.tr pins T) body tb) (hh:PHs X (h₀ :: hs) th) (ho:PSs X orelse te)
    (hst:X.stack=X.env :: X.outer:=by rfl) (hfr:X.env.frame=some X.env.locals:=by rfl):PS X (.Try body (h₀ :: hs) orelse [] pos) (tTryE T tb th te):=by
  intro pins s σ H D I h
  obtain ⟨h1,h2⟩:=h
  refine wpAny_Try_except (d9 (hb pins [] s σ H {D with nx:=te D} (I.tr T) h1) (fun f s1 q=>?_) (fun e s1 q=>?_))
  · cases f with
    | next=>obtain ⟨σ',H',J,q⟩:=q; exact ho pins s1 σ' H' D J.untr q
    | ret v=>obtain ⟨v,σ',H',J,r,q⟩:=q; exact ⟨v,σ',H',J.untr,r,q⟩
    | brk=>obtain ⟨σ',H',J,q⟩:=q; exact ⟨σ',H',J.untr,q⟩
    | cont=>obtain ⟨σ',H',J,q⟩:=q; exact ⟨σ',H',J.untr,q⟩
  · obtain ⟨ea,C,B,σ',H',rfl,J,fl,cov,t⟩:=q
    have fl1:FlD B (X.env :: X.outer) ea (.ref C) .none s1.heap:=by
      rw [<- hst]
      exact fl
    refine Ac (by rw [J.ok.frames,hst]) hfr fl1 fun h4 x4 s4=>?_
    refine qi x4 fun h5 fl5 s5=>?_
    have J5:=J.landed fl5.1 cov (s4.trans s5)
    rw [<- hst] at fl5
    exact hh pins _ σ' H' D ea C B J5 fl5 (wC.land J fl5.1 cov) (h2 C σ' H' (by rw [J.len,I.len]) t)
end
abbrev x6 (A:bP):bP:={A with handled:=none}
structure nX (P:aM) (w:bH) (K:af) (mg:Str->Option ae) (base:cB) (CX:CXT) (k:Nat) (f:aa) (fd:bY) (ps:List Str) (sp:Sp):Prop where
  len:∀ vs H Q E,sp vs H Q E->vs.length=ps.length
  run:∀ (A:bP) (outer:List Env) (s:aj) (H:Hp) (args:Args) (us:List ae) (vs:List V) (Q:VK) (E:XK),dP k (x6 A)->v9 P w K mg base A outer s H->rL s fd args (ps.zip us)->cS vs us->sp vs H Q E ->
    m5 (aW P w) A (.call (.ref f) args) (CR CX outer P w H s Q E) s
theorem IU {CX:CXT} {P:aM} {w:bH} {K:af} {mg:Str->Option ae} {base:cB} {k:Nat} {f:aa} {name qual:Str} {params:Arguments} {body:List df} {scope:j5} {dV kV doc pm cdv ct oc:ae} {an od:Option aa}
    {osl:Array (Option ae)} {N ps:List Str} {sp:Sp} (lk:K.lookup f=some ⟨oc,od,.func (eF name qual params body scope dV kV doc pm an cdv ct),osl⟩) (hcd:iM K cdv qual=true) (S:bV N ps scope)
    (len:∀ vs H Q E,sp vs H Q E->vs.length=ps.length)
    (hbody:∀ (A:bP) (outer:List Env) (s:aj) (H:Hp) (vs:List V) (Q:VK) (E:XK),sp vs H Q E ->
      ∃ t,PSs {qU CX P w K mg base N qual scope f cdv A outer s H E with calm:=false} body t/\t {nx:=fun _ H'=>Q .non H',rt:=Q} (start N vs) H) :
    nX P w K mg base CX (k + 1) f (eF name qual params body scope dV kV doc pm an cdv ct) ps sp:=by
  refine ⟨len,fun A outer s H args us vs Q E hr e0 hb r hsp=>?_⟩
  have hl:=len _ _ _ _ hsp
  have KX:K.In s.heap:=e0.mod.kin.keeps fun b o e=>(e0.bs b o e).1
  have lim:s.heap.NoLimit:=e0.mod.nolimit.keeps fun b o e=>(e0.bs b o e).1
  have hkind:∀ y∈ps.zip us,scope.names.lookup y.1=some .local\/(scope.names.lookup y.1=some .cell/\((BM (s.heap.objs.size + 1) scope.names []).lookup y.1).isSome=true):=fun ⟨n,v⟩ hy=>by
    rcases S.par n (nj hy).1 with q | q
    · exact .inl q
    · exact .inr ⟨q,lT _ _ _ (.inl q)⟩
  refine ET (A:=A) hr.depth (KX _ _ lk) rfl S.co S.gen rfl (yV KX hcd) (hb _ _ _ _ ?_)
  refine yW S.kind hkind fun env he s1 x=>?_
  subst he
  refine ⟨lim.keeps x.toInCall.keep,codeAny_func ?_⟩
  obtain ⟨t,ht,hq⟩:=hbody A outer s H vs Q E hsp
  have e1:v9 P w K mg base (x6 A) outer s H:=⟨e0.frames,e0.mod,e0.bs,e0.bsz,e0.funs,e0.frf,e0.hok,e0.bare⟩
  have I0:Inv (qU CX P w K mg base N qual scope f cdv (x6 A) outer s H E) [] (start N vs) H s1:=vm S rfl e1 hl r x
  have I:Inv {qU CX P w K mg base N qual scope f cdv A outer s H E with calm:=false} [] (start N vs) H s1:=
    ⟨⟨I0.ok.mod,I0.ok.kind,I0.ok.glob,I0.ok.blt,I0.ok.above,I0.ok.inj,I0.ok.has,I0.ok.cab,fun z=>sN z,I0.ok.frames,I0.ok.stk,I0.ok.exf,I0.ok.bs,I0.ok.bsz,I0.ok.noex,I0.ok.exfs,I0.ok.funs,I0.ok.frf⟩,I0.os,I0.bare,I0.base,I0.loc,I0.cell,I0.free,I0.freeC,I0.pin,I0.hok,I0.len⟩
  refine d9 (ht [] s1 (start N vs) H _ I hq) (fun fl s' hs=>?_) fun e s' hs=>hs
  have fin:∀ {σ':St} {H':Hp} {v:V} {u:ae},Inv {qU CX P w K mg base N qual scope f cdv A outer s H E with calm:=false} [] σ' H' s'->RelV v u->Q v H'->CE outer P w H s Q u s':=
    fun {σ' H' v u} J rv q=>⟨v,H',J.os,J.bare,J.base,J.hok,rv,q⟩
  cases fl with
  | ret u =>
    obtain ⟨v,σ',H',J,rv,q⟩:=hs
    exact fin J rv q
  | next =>
    obtain ⟨σ',H',J,q⟩:=hs
    exact fin (v:=V.non) (u:=Value.none) J rfl q
  | brk =>
    obtain ⟨_,_,_,q⟩:=hs
    exact cO q
  | cont =>
    obtain ⟨_,_,_,q⟩:=hs
    exact cO q
theorem Fun.okH {P:aM} {w:bH} {K:af} {mg:Str->Option ae} {base:cB} {x qual:Str} {st:df} {f:aa} {fd:bY} {N ps:List Str} {k:Nat} {sp:Sp} (F:Fun K x qual st f fd) (S:bV N ps (aQ st)) (len:∀ vs H Q E,sp vs H Q E->vs.length=ps.length)
    (hbody:∀ (cdv:ae) (A:bP) (outer:List Env) (s:aj) (H:Hp) (vs:List V) (Q:VK) (E:XK),sp vs H Q E ->
      ∃ t,PSs {qU CX0 P w K mg base N qual (aQ st) f cdv A outer s H E with calm:=false} (iq st) t/\t {nx:=fun _ H'=>Q .non H',rt:=Q} (start N vs) H):nX P w K mg base CX0 (k + 1) f fd ps sp:=by
  obtain ⟨oc,od,kV,doc,pm,an,cdv,ct,osl,rfl,lk,hcd⟩:=F.ex
  exact IU lk hcd S len fun A outer s H vs Q E hsp=>hbody cdv A outer s H vs Q E hsp
theorem FA {X:Cx} {CX:CXT} {k:Nat} {f:aa} {fd:bY} {ps:List Str} {sp:Sp} {E:XK} {pins:List (aa×Obj)} {σ:St} {H:Hp} {s:aj} {Q:VK} {us:List ae} {vs:List V} (F:nX X.prog X.w X.K X.mg X.base CX k f fd ps sp) (hr:dP k (x6 X.A)) (hb:Binds X.K fd ps []) (hx:kI CX X E)
    (I:Inv X pins σ H s) (r:cS vs us) (h:sp vs H Q E):aU (aW X.prog X.w) X.A (vV (.ref f) us) (EP X pins σ Q) X.xe s:=by
  have hl:(us++[]).length=ps.length:=by rw [dC,<- r.length]; exact F.len _ _ _ _ h
  have hb1:=hb s us I.kIn hl
  rw [dC] at hb1
  refine yU (kX (F.run X.A X.stack s H ⟨us,[]⟩ us vs Q E hr I.env0 hb1 r h) fun r s' hq=>?_)
  cases r with
  | error e=>exact hx pins σ H s e s' I hq
  | ok fl =>
    cases fl with
    | ret u=>exact I.after hq
    | next=>exact cO hq
    | brk=>exact cO hq
    | cont=>exact cO hq
section
variable {X:Cx} {CX:CXT} {k:Nat} {ι:Type} {fm C:ι->aa} {fd:ι->bY} {ps:List Str} {sp:ι->Sp} {E:XK} {m:Str} {pos apos:Pos} {o:cX} {ta:TE}
def FB (C:ι->aa) (sp:ι->Sp) (E:XK) (ta:TE):TE:=fun σ H Q=>ta σ H fun x H1=>∃ a i,x=.ref a/\H1 a=some (XO a (C i))/\sp i [.ref a] H1 Q E
theorem Bh {pl:Sem Bool} (he:PE X o ta) (c:∀ i,uS X.K (C i)) (hm:∀ i,vZ X.K (C i) m (fm i)) (F:∀ i,nX X.prog X.w X.K X.mg X.base CX k (fm i) (fd i) ps (sp i)) (hr:dP k (x6 X.A)) (hb:∀ i,Binds X.K (fd i) ps []) (hx:kI CX X E)
    (ht:eW (.Call (.Attribute o m apos) [] [] pos) X.env=(do
      let ov <- eW o X.env
      uH apos.atName
      let (f,first) <- o9 [ov] (lN ov m pl)
      yP pos f first (iw pos (cH [] X.env)) (lS pos (iA [] X.env))):=by rfl) :
    PE X (.Call (.Attribute o m apos) [] [] pos) (FB C sp E ta):=by
  intro pins s σ H Q I h
  refine iZ (pl:=pl) (thn (he pins s σ H _ I h) fun u s1 ⟨x,H1,I1,rx,a,i,ex,ea,q⟩=>?_) ht
  subst ex
  obtain rfl:u=Value.ref a:=rx
  obtain ⟨ox,J⟩:=(IR I1.hok ea).inst
  refine Dj I1.kIn J (c i) (hm i).at_ (beq_iff_eq.mp (hm i).fn) ?_
  exact yw (first:=[.ref a]) I1.kIn (hm i).kp (FA (us:=[.ref a]) (vs:=[.ref a]) (F i) hr (hb i) hx I1 (.cons rfl .nil) q)
end
end L2
namespace HT
open PySem PyProof.Rows
open PySem.SeqAt
open PySem.AutoSeq1 (wpAny_loadPart')
open PySem.MeetsSeq PySem.MeetsSeq2 PySem.MeetsSeq3
def IV (A:bP) (s:aj) (x y:ae) (g:Bool):Prop:=∀ (prog:aM) (w:bH) (E:ae->aj->Prop) (Q:ae->aj->Prop),Q (.bool g) s->aU (aW prog w) A (qW .Gt x y) Q E s
theorem FC (l b:aa) (x y:ae) (xs ys:List ae) (n m:Nat) (dd de:Option aa) (sl sm:Array (Option ae)) (g:Bool) :
    Meets (ig.«tuple.__gt__» ⟨[.ref l,.ref b],[]⟩)
      (fun A R s=>s.heap.get? l=some {cls:=.type "tuple",dict:=dd,data:=.seq (x :: xs).toArray n,slots:=sl}/\s.heap.get? b=some {cls:=.type "tuple",dict:=de,data:=.seq (y :: ys).toArray m,slots:=sm}/\EqAt A.in1 s x y false/\IV A.in1 s x y g/\R (.ok (.ret (.bool g))) s):=
  .of_wp fun prog w A R s h=>by
    obtain ⟨hp,gg,d,tk,os⟩:=s
    obtain ⟨hl,hb,he,hg,h⟩:=h
    have f2:=ko
    wp_walk using dH hl,dH hb,oU _ (fun rest b s'=>b.1=none/\s'=⟨hp,gg,d,tk,os⟩/\∃ rest',rest=(x,y) :: rest') _
    case turn =>
      rintro ⟨y',x'⟩ rest b s' ⟨hb',rfl,rest',hz⟩
      injection hz with hyx hrest
      injection hyx with hy hx
      subst hy hx
      refine ai (he prog w _ _ ?_)
      have hri:∀ (E:ae->aj->Prop) (Q:ae->aj->Prop),Q (.bool g) ⟨hp,gg,d,tk,os⟩->aU (aW prog w) A.in1 (qW .Gt _ _) Q E ⟨hp,gg,d,tk,os⟩:=fun E Q q=>hg prog w E Q q
      wp_walk using hri
      exact ⟨_,rfl,by simpa using h⟩
    case fin =>
      rintro ⟨b1,b2⟩ s' ⟨hb',rfl,rest',hz⟩
      cases hz
    case h =>
      exact ⟨rfl,rfl,xs.zip ys,by simp⟩
theorem gtAt_heads {A:bP} {s:aj} {l b:aa} {x y:ae} {xs ys:List ae} {g:Bool} (hl:qL s.heap l (x :: xs).toArray) (hb:qL s.heap b (y :: ys).toArray) (hu:A.units < dM) (he:EqAt A.in1 s x y false) (hg:IV A.in1 s x y g):IV A s (.ref l) (.ref b) g:=fun prog w E Q h=>by
  obtain ⟨⟨c1,dd,t1,sl⟩,o1,rfl,n,rfl⟩:=id hl
  obtain ⟨⟨c2,de,t2,sm⟩,o2,rfl,m,rfl⟩:=id hb
  exact pz (op:=.Gt) ⟨_,o1,rfl⟩ ⟨_,o2,rfl⟩ xr wJ (vy _ _) (FC l b x y xs ys n m dd de sl sm g)
    ⟨o1,o2,he,hg,show Value.bool g≠Value.notImplemented/\Q (.bool g) s from ⟨(fun x=>nomatch x),h⟩⟩ hu
end HT
namespace L2
open PySem PySem.Spec PyProof.Rows
section
variable {X:Cx}
def rGtH:R2:=fun x y H Q=>∃ a b ka kb ns ms ra rb,x=.ref a/\y=.ref b/\H a=some (.tup (.ref ka :: ra))/\H b=some (.tup (.ref kb :: rb))/\H ka=some (.tup (ns.map V.int))/\H kb=some (.tup (ms.map V.int))/\ns≠ms/\Q (.bl (HT.lexLt ms ns)) H
theorem IW (hu:X.A.units + 1 < dM):OpR X (cU .Gt) rGtH:=by
  intro pins s σ H x y v u Q I rx ry h
  obtain ⟨a,b,ka,kb,ns,ms,ra,rb,rfl,rfl,ha,hb,hka,hkb,ne,q⟩:=h
  cases rx
  cases ry
  obtain ⟨its,r1,p1,_⟩:=I.tuple (SqT.of ha)
  obtain ⟨its2,r2,p2,_⟩:=I.tuple (SqT.of hb)
  obtain ⟨k1,s1,q1,_⟩:=I.tuple (SqT.of hka)
  obtain ⟨k2,s2,q2,_⟩:=I.tuple (SqT.of hkb)
  have i1:eV k1.toArray.toList ns:=intsAre_of s1
  have i2:eV k2.toArray.toList ms:=intsAre_of s2
  have hu1:X.A.in1.units < dM:=hu
  have e:=vz (A:=X.A.in1) I.hok hu1 hka hkb
  rw [decide_eq_false ne] at e
  cases r1 with
  | cons w1 r1 =>
    cases r2 with
    | cons w2 r2 =>
      cases w1
      cases w2
      exact HT.gtAt_heads p1 p2 (by omega) e (fun prog w E Q h=>HT.gt_tup q1 q2 i1 i2 hu1 h) _ _ _ _ ⟨.bl (HT.lexLt ms ns),H,I,rfl,q⟩
end
end L2
namespace L2
open PySem PySem.W PyProof.Rows HT
def gZ (a b:List Int):Prop:=lexLt b a=false
theorem gZ.refl (a:List Int):gZ a a:=zh a
theorem gZ.trans {a b c:List Int} (h1:gZ a b) (h2:gZ b c):gZ a c:=by
  unfold gZ at *
  cases e:lexLt c a with
  | false=>rfl
  | true =>
    cases f:lexLt a b with
    | true =>
      rw [lx_trans e f] at h2
      cases h2
    | false =>
      rw [qq f h1] at e
      rw [e] at h2
      cases h2
theorem gZ.of_lt {a b:List Int} (h:lexLt a b=true):gZ a b:=lx_asym h
theorem Do {a b c:List Int} (h:lexLt a b=true) (h2:gZ b c):lexLt a c=true:=by
  cases e:lexLt a c with
  | true=>rfl
  | false =>
    have z:gZ c a:=e
    have y:=h2.trans z
    unfold gZ at y
    rw [h] at y
    cases y
theorem gZ.anti {a b:List Int} (h1:gZ a b) (h2:gZ b a):a=b:=qq h2 h1
def KR {α:Type} (r:Nat->List Int) (n:Nat):KasT α->(α->Prop)->Prop
  | .ret a,Q=>Q a
  | .ask i j k,Q=>(i < n/\j < n/\i≠j)/\KR r n (k (lexLt (r i) (r j))) Q
section
variable {r:Nat->List Int} {n:Nat}
theorem KR.bind {α β:Type} {f:α->KasT β} {Q:β->Prop}:∀ {t:KasT α},KR r n t (fun a=>KR r n (f a) Q)->KR r n (t.bind f) Q
  | .ret _,h=>h
  | .ask _ _ k,⟨h1,h3⟩=>⟨h1,KR.bind h3⟩
theorem KR.sound {α:Type} {cmp:Nat->Nat->(Bool->aj->Prop)->aj->Prop} {s:aj} {Q:α->Prop} (hc:∀ i j (C:Bool->aj->Prop),i < n->j < n->i≠j->C (lexLt (r i) (r j)) s->cmp i j C s):∀ {t:KasT α},KR r n t Q->t.kasWp cmp (fun a s'=>s'=s/\Q a) s
  | .ret _,h=>⟨rfl,h⟩
  | .ask i j k,⟨⟨h1,h2,h4⟩,h3⟩=>hc i j _ h1 h2 h4 (KR.sound hc h3)
theorem FD {α:Type} {a b:KasT α} {Q:α->Prop} (h:KR r n a Q):KR r n (if true=true then a else b) Q:=by
  rw [if_pos rfl]
  exact h
theorem FE {α:Type} {a b:KasT α} {Q:α->Prop} (h:KR r n b Q):KR r n (if false=true then a else b) Q:=by
  rw [if_neg (by simp)]
  exact h
def Rk (r:Nat->List Int) (p:Array Nat) (i:Nat):List Int:=r (p.getD i 0)
def Pm (n:Nat) (p:Array Nat):Prop:=p.Perm (hV n).toArray
theorem Pm.size {p:Array Nat} (h:Pm n p):p.size=n:=by
  have:=h.size_eq
  simpa using this
theorem Pm.lt {p:Array Nat} (h:Pm n p) {i:Nat} (hi:i < n):p.getD i 0 < n:=by
  have hs:i < p.size:=by rw [h.size]; exact hi
  have e:p.getD i 0=p[i]:=by simp [mT,hs]
  rw [e]
  have m:p[i]∈p.toList:=by simp
  have z:=(hJ.mp h).mem_iff.mp m
  simpa using z
theorem Pm.two {p:Array Nat} (h:Pm n p) {i j:Nat} (hi:i < n) (hj:j < n) (ne:i≠j):p.getD i 0 < n/\p.getD j 0 < n/\p.getD i 0≠p.getD j 0:=by
  refine ⟨h.lt hi,h.lt hj,?_⟩
  have nd:p.toList.Nodup:=(hJ.mp h).nodup_iff.mpr (by simpa using List.nodup_range)
  have h1:i < p.size:=by rw [h.size]; exact hi
  have h2:j < p.size:=by rw [h.size]; exact hj
  have e1:p.getD i 0=p.toList[i]'(by simpa using h1):=by simp [mT,h1]
  have e2:p.getD j 0=p.toList[j]'(by simpa using h2):=by simp [mT,h2]
  rw [e1,e2]
  intro z
  rcases Dp ne with c | c
  · exact cY.mp nd i j _ _ c z
  · exact cY.mp nd j i _ _ c z.symm
theorem pC (p:Array Nat) (i:Nat):p.getD i 0=(p[i]?).getD 0:=by
  by_cases h:i < p.size
  · simp [mT,h]
  · simp [mT,h]
theorem Pm.rev {p:Array Nat} (h:Pm n p) (i j:Nat):Pm n (Kv p i j):=(mirror_perm _ _ _ _).trans h
theorem Pm.bub {p:Array Nat} (h:Pm n p) (i j:Nat):Pm n (bubble p i j):=(bubble_perm _ _ _).trans h
theorem zo {p:Array Nat} {i j:Nat} (hj:j<=p.size) (k:Nat):Rk r (Kv p i j) k=if i<=k/\k < j then Rk r p (i + j - 1 - k) else Rk r p k:=by
  unfold Rk Kv
  rw [pC,getElem?_mirror_all hj,pC,pC]
  split <;> rfl
theorem Dq {p:Array Nat} {src d:Nat} (hs:src < p.size) (hd:d<=src) (k:Nat):Rk r (bubble p src d) k=if k=src - d then Rk r p src else if src - d < k/\k<=src then Rk r p (k - 1) else Rk r p k:=by
  unfold Rk
  rw [pC,getElem?_bubble hs d hd,pC,pC,pC]
  repeat' split
  all_goals rfl
theorem rh {p:Array Nat} {i j:Nat} (hj:j<=p.size) (heq:∀ k,i<=k->k < j->Rk r p k=Rk r p (j - 1)) (k:Nat):Rk r (Kv p i j) k=Rk r p k:=by
  rw [zo hj]
  split
  · rw [heq k (by omega) (by omega),heq _ (by omega) (by omega)]
  · rfl
def Srt (r:Nat->List Int) (p:Array Nat) (m:Nat):Prop:=∀ i j,i<=j->j < m->gZ (Rk r p i) (Rk r p j)
def Fal (r:Nat->List Int) (p:Array Nat) (m:Nat):Prop:=∀ i j,i<=j->j < m->gZ (Rk r p j) (Rk r p i)
theorem Srt.one (p:Array Nat):Srt r p 1:=fun i j h1 h2=>by
  have:i=j:=by omega
  subst this
  exact gZ.refl _
theorem Srt.up {p:Array Nat} {x:Nat} (h1:1<=x) (h:Srt r p x) (l:gZ (Rk r p (x - 1)) (Rk r p x)):Srt r p (x + 1):=fun i j hij hj=>by
  by_cases c:j < x
  · exact h i j hij c
  · have:j=x:=by omega
    subst this
    by_cases d:i=j
    · subst d
      exact gZ.refl _
    · exact (h i (j - 1) (by omega) (by omega)).trans l
theorem Fal.up {p:Array Nat} {x:Nat} (h1:1<=x) (h:Fal r p x) (l:gZ (Rk r p x) (Rk r p (x - 1))):Fal r p (x + 1):=fun i j hij hj=>by
  by_cases c:j < x
  · exact h i j hij c
  · have:j=x:=by omega
    subst this
    by_cases d:i=j
    · subst d
      exact gZ.refl _
    · exact l.trans (h i (j - 1) (by omega) (by omega))
theorem Fal.eq {p p':Array Nat} {m:Nat} (e:∀ k,Rk r p' k=Rk r p k) (h:Fal r p m):Fal r p' m:=fun i j a b=>by
  rw [e,e]
  exact h i j a b
theorem zp {p:Array Nat} (hp:Pm n p) {N:Nat} (hN:N<=n) {Q:Nat->Prop} (h:∀ q,1<=q->q<=N->Srt r p q->(q=N\/lexLt (Rk r p q) (Rk r p (q - 1))=true)->Q q):∀ (f m:Nat),1<=m->m + f=N->Srt r p m->KR r n (kas_asc p f m) Q
  | 0,m,h1,hf,hs=>h m h1 (by omega) hs (.inl (by omega))
  | f + 1,m,h1,hf,hs=>by
    refine ⟨hp.two (by omega) (by omega) (by omega),?_⟩
    cases e:lexLt (r (p.getD m 0)) (r (p.getD (m - 1) 0)) with
    | true=>exact h m h1 (by omega) hs (.inr e)
    | false=>exact zp hp hN h f (m + 1) (by omega) (by omega) (hs.up h1 e)
theorem sY {N:Nat} (hN:N<=n) {Q:Array Nat×Nat×Nat->Prop} {m0:Nat} (h:∀ p m q,Pm n p->m0<=m->m<=N->Fal r p m->q + 1<=m->(∀ i,m - (q + 1)<=i->i < m->Rk r p i=Rk r p (m - 1))->Q (p,m,q)) :
    ∀ (f:Nat) (p:Array Nat) (m q:Nat),Pm n p->1<=m->m0<=m->m + f=N->Fal r p m->q + 1<=m->(∀ i,m - (q + 1)<=i->i < m->Rk r p i=Rk r p (m - 1))->KR r n (kas_desc f p m q) Q
  | 0,p,m,q,hp,h1,h0,hf,hs,hq,he=>h p m q hp h0 (by omega) hs hq he
  | f + 1,p,m,q,hp,h1,h0,hf,hs,hq,he=>by
    refine ⟨hp.two (by omega) (by omega) (by omega),?_⟩
    have hsz:m<=p.size:=by rw [hp.size]; omega
    cases e:lexLt (r (p.getD m 0)) (r (p.getD (m - 1) 0)) with
    | true =>
      refine FD ?_
      have up:=hs.up h1 (gZ.of_lt e)
      by_cases c:q > 0
      · rw [if_pos c]
        exact sY hN h f _ (m + 1) 0 (hp.rev _ _) (by omega) (by omega) (by omega) (up.eq (rh hsz he)) (by omega) (fun i a b=>by congr 1; omega)
      · rw [if_neg c]
        exact sY hN h f p (m + 1) 0 hp (by omega) (by omega) (by omega) up (by omega) (fun i a b=>by congr 1; omega)
    | false =>
      refine FE ?_
      refine ⟨hp.two (by omega) (by omega) (by omega),?_⟩
      cases d:lexLt (r (p.getD (m - 1) 0)) (r (p.getD m 0)) with
      | true =>
        refine FD ?_
        exact h p m q hp h0 (by omega) hs hq he
      | false =>
        refine FE ?_
        have eq:Rk r p m=Rk r p (m - 1):=qq e d
        refine sY hN h f p (m + 1) (q + 1) hp (by omega) (by omega) (by omega) (hs.up h1 (by rw [eq]; exact gZ.refl _)) (by omega) (fun i a b=>?_)
        rw [show m + 1 - 1=m by omega]
        by_cases c:i=m
        · subst c
          rfl
        · rw [eq]
          exact he i (by omega) (by omega)
theorem x8 {N:Nat} (hN:N<=n) {Q:Nat×Array Nat->Prop} (h:∀ m p,Pm n p->1<=m->m<=N->Srt r p m->Q (m,p)) {p:Array Nat} {m:Nat} (hp:Pm n p) (h1:1<=m) (hm:m<=N) (hs:Fal r p m):KR r n (kas_tail3 m N p) Q:=by
  unfold kas_tail3
  have hsz:m<=p.size:=by rw [hp.size]; omega
  refine KR.bind (zp (hp.rev 0 m) hN (fun q a b c _=>?_) (N - m) m h1 (by omega) fun i j hij hj=>?_)
  · exact h q _ (hp.rev 0 m) a b c
  · rw [zo hsz,zo hsz,if_pos (by omega),if_pos (by omega)]
    exact hs _ _ (by omega) (by omega)
theorem rS {N:Nat} (hN:N<=n) {Q:Nat×Array Nat->Prop} (h:∀ m p,Pm n p->1<=m->m<=N->Srt r p m->Q (m,p)) {p:Array Nat} {m:Nat} (hp:Pm n p) (hm:m + 1<=N) (hs:Fal r p (m + 1)):KR r n (kas_descPart m N p) Q:=by
  unfold kas_descPart
  refine KR.bind (sY (m0:=m + 1) hN (fun p' m' q hp' a b hs' hq he=>?_) (N - (m + 1)) p (m + 1) 0 hp (by omega) (aC _) (by omega) hs (by omega) (fun i a b=>by congr 1; omega))
  dsimp only
  have hsz:m'<=p'.size:=by rw [hp'.size]; omega
  by_cases c:q > 0
  · rw [if_pos c]
    exact x8 hN h (hp'.rev _ _) (by omega) b (hs'.eq (rh hsz he))
  · rw [if_neg c]
    exact x8 hN h hp' (by omega) b hs'
theorem Dr {Q:Nat×Array Nat->Prop} (h:∀ m p,Pm n p->1<=m->m<=n->Srt r p m->Q (m,p)) {p:Array Nat} (hp:Pm n p) (h1:1<=n):KR r n (kas_count n p) Q:=by
  unfold kas_count
  refine KR.bind (zp hp (aC n) (fun m m1 mn hs hor=>?_) (n - 1) 1 (aC _) (by omega) (Srt.one p))
  by_cases c:m=n
  · rw [if_pos (by simpa using c)]
    exact h m p hp m1 mn hs
  · rw [if_neg (by simpa using c)]
    have hlt:=hor.resolve_left c
    by_cases g:m > 1
    · rw [if_pos g]
      refine ⟨hp.two (by omega) (by omega) (by omega),?_⟩
      cases e:lexLt (r (p.getD 0 0)) (r (p.getD (m - 1) 0)) with
      | true =>
        refine FD ?_
        exact h m p hp m1 mn hs
      | false =>
        refine FE ?_
        have hsz:m<=p.size:=by rw [hp.size]; omega
        have hall:∀ k,0<=k->k < m->Rk r p k=Rk r p (m - 1):=fun k _ hk=>by
          have a1:=hs 0 k (by omega) hk
          have a2:=hs k (m - 1) (by omega) (by omega)
          exact a2.anti (gZ.trans (show gZ (Rk r p (m - 1)) (Rk r p 0) from e) a1)
        refine rS (aC n) h (hp.rev _ _) (by omega) (Fal.eq (rh hsz hall) ?_)
        refine Fal.up (by omega) (fun i j hij hj=>?_) (gZ.of_lt hlt)
        rw [hall i (by omega) (by omega),hall j (by omega) hj]
        exact gZ.refl _
    · rw [if_neg g]
      have:m=1:=by omega
      subst this
      exact rS (aC n) h hp (by omega) (Fal.up (aC _) (fun i j a b=>by
        have:i=j:=by omega
        subst this
        exact gZ.refl _) (gZ.of_lt hlt))
theorem tY {p:Array Nat} {k:Nat} (hp:Pm n p) (hk:k < n) (hs:Srt r p k) {Q:Nat->Prop} (h:∀ l,l<=k->(∀ i,i < l->gZ (Rk r p i) (Rk r p k))->(∀ i,l<=i->i < k->lexLt (Rk r p k) (Rk r p i)=true)->Q l) :
    ∀ (f l q:Nat),l<=q->q<=k->q - l<=f->(∀ i,i < l->gZ (Rk r p i) (Rk r p k))->(∀ i,q<=i->i < k->lexLt (Rk r p k) (Rk r p i)=true)->KR r n (kas_place p k f l q) Q
  | 0,l,q,a,b,c,lo,hi=>by
    have:l=q:=by omega
    subst this
    exact h l b lo hi
  | f + 1,l,q,a,b,c,lo,hi=>by
    unfold kas_place
    by_cases d:l ≥ q
    · rw [if_pos d]
      have:l=q:=by omega
      subst this
      exact h l b lo hi
    · rw [if_neg d]
      refine ⟨hp.two hk (by omega) (by omega),?_⟩
      cases e:lexLt (r (p.getD k 0)) (r (p.getD ((l + q) / 2) 0)) with
      | true =>
        refine FD ?_
        exact tY hp hk hs h f l _ (by omega) (by omega) (by omega) lo fun i h1 h2=>Do e (hs _ _ h1 h2)
      | false =>
        refine FE ?_
        exact tY hp hk hs h f _ q (by omega) (by omega) (by omega) (fun i h1=>(hs i ((l + q) / 2) (by omega) (by omega)).trans e) hi
theorem Dt {Q:Array Nat->Prop} (h:∀ p,Pm n p->Srt r p n->Q p):∀ (f:Nat) (p:Array Nat) (k:Nat),Pm n p->k + f=n->Srt r p k->KR r n (kas_bin f p k) Q
  | 0,p,k,hp,hf,hs=>h p hp (by rw [<- hf]; exact hs)
  | f + 1,p,k,hp,hf,hs=>by
    unfold kas_bin
    refine KR.bind (tY hp (by omega) hs (fun l hl lo hi=>?_) k 0 k (bj _) (aC _) (by omega) (fun i h=>absurd h (by omega)) (fun i a b=>absurd b (by omega)))
    refine Dt h f _ (k + 1) (hp.bub _ _) (by omega) fun i j hij hj=>?_
    have hks:k < p.size:=by rw [hp.size]; omega
    rw [Dq hks (by omega),Dq hks (by omega),show k - (k - l)=l by omega]
    repeat' split
    all_goals first
      | (exfalso; omega)
      | exact gZ.refl _
      | exact lo _ (by omega)
      | exact gZ.of_lt (hi _ (by omega) (by omega))
      | exact hs _ _ (by omega) (by omega)
theorem FF (h1:1<=n):KR r n (kas_sort n) (fun p=>Pm n p/\Srt r p n):=by
  unfold kas_sort
  refine KR.bind (Dr (fun m p hp m1 mn hs=>?_) (Array.Perm.refl _) h1)
  dsimp only
  by_cases c:m < n
  · rw [if_pos c]
    refine Dt (fun p hp hs=>⟨hp,hs⟩) _ p (max m 1) hp (by omega) ?_
    rw [show max m 1=m by omega]
    exact hs
  · rw [if_neg c]
    have:m=n:=by omega
    subst this
    exact ⟨hp,hs⟩
end
end L2
namespace L2
open PySem PySem.W PySem.Spec PyProof.Rows HT
section
variable {prog:aM} {w:bH} {A:bP} {E:ae->aj->Prop} {s:aj}
theorem sE {h0:cB} {a:aa} {vs:List ae} {n:Nat} {b:Bool} {P:Fin->aj->Prop} {r:Nat->List Int} (ho:s.heap.get? a=some (dI "list" vs.toArray n)) (k0:∀ c o,h0.get? c=some o->s.heap.get? c=some o) (ha0:h0.get? a=none) (h2:2<=vs.length) (h64:vs.length < 64)
    (hk:∀ h':cB,(∀ c o,h0.get? c=some o->h'.get? c=some o)->∀ Q:SortKind->aj->Prop,Q (yF false) {s with heap:=h'}->aU (aW prog w) A (keyKind' vs.toArray) Q E {s with heap:=h'})
    (hc:∀ h':cB,(∀ c o,h0.get? c=some o->h'.get? c=some o)->∀ i j (C:Bool->aj->Prop),i < vs.length->j < vs.length->i≠j->C (lexLt (r i) (r j)) {s with heap:=h'}->kas_ask prog w A (yF false) (jU b vs) i j C {s with heap:=h'})
    (h:∀ p,Pm vs.length p->Srt r p vs.length->P (.done (.ret .none)) {s with heap:=sortedHeap s.heap a vs (rT (jU b (p.toList.map fun i=>(jU b vs).getD i Value.none)))}) :
    aU (aW prog w) A (ig.«list.sort» ⟨[.ref a],[(jc "reverse",.bool b)]⟩) P E s:=by
  rw [list_sort_rev]
  have ha:a < s.heap.objs.size:=aK ho
  refine ai (listItems_at ho rfl ?_)
  refine ai (sW ho rfl ?_)
  obtain ⟨e1,ho1⟩:∃ e1,(s.heap.update a (cV fun _=>#[])).get? a=some (dI "list" #[] e1):=⟨_,get?_update_seq ho (fun _=>#[])⟩
  refine ai (xt ho1 rfl ?_)
  refine ai (wpAny_newTuple ?_)
  refine ai (sX ?_)
  refine c7 ?_
  have ho6:(((s.heap.update a (cV fun _=>#[])).push (dI "tuple" vs.toArray 0)).push (dI "list" #[] 0)).get? a=some (dI "list" #[] e1):=by
    rw [fg _ _ _ (by rw [tX,fZ]; exact aL (jd ha)),fg _ _ _ (by rw [fZ]; exact aL ha)]
    exact ho1
  have old6:∀ c o,h0.get? c=some o->(((s.heap.update a (cV fun _=>#[])).push (dI "tuple" vs.toArray 0)).push (dI "list" #[] 0)).get? c=some o:=fun c o e=>by
    have lt:c < s.heap.objs.size:=aK (k0 c o e)
    have ne:c≠a:=fun z=>by
      rw [z,ha0] at e
      cases e
    rw [fg _ _ _ (by rw [tX,fZ]; exact aL (jd lt)),fg _ _ _ (by rw [fZ]; exact aL lt),Bi _ _ _ _ ne]
    exact k0 c o e
  show aU (aW prog w) A _ P E {s with heap:=((s.heap.update a (cV fun _=>#[])).push (dI "tuple" vs.toArray 0)).push (dI "list" #[] 0)}
  dsimp only
  have step:∀ t:Sem Fin,aU (aW prog w) A t P E {s with heap:=((s.heap.update a (cV fun _=>#[])).push (dI "tuple" vs.toArray 0)).push (dI "list" #[] 0)} ->
      aU (aW prog w) A (if b=true then (do let _ <- E3 "list.sort.reverse"; t) else t) P E {s with heap:=((s.heap.update a (cV fun _=>#[])).push (dI "tuple" vs.toArray 0)).push (dI "list" #[] 0)}:=by
    intro t ht
    split
    · exact ai (zf ht)
    · exact ht
  refine step _ ?_
  have h2':¬ vs.toArray.size < 2:=by
    rw [av]
    omega
  rw [if_neg h2',if_neg h2']
  refine ai (hk _ old6 _ ?_)
  rw [kat_pairs b rfl]
  have el:=kat_len b vs
  refine ai (d9 (kat_run (ks:=jU b vs) (vs:=jU b vs) (κ:=yF false) (Q:=fun st' s'=>∃ p:Array Nat,arrOf st'=p.map (kas_item ((jU b vs).toArray.zip (jU b vs).toArray))/\failedOf st'=none/\s'={s with heap:=((s.heap.update a (cV fun _=>#[])).push (dI "tuple" vs.toArray 0)).push (dI "list" #[] 0)}/\Pm vs.length p/\Srt r p vs.length) (G:=fun p s'=>s'={s with heap:=((s.heap.update a (cV fun _=>#[])).push (dI "tuple" vs.toArray 0)).push (dI "list" #[] 0)}/\Pm vs.length p/\Srt r p vs.length) rfl (by rw [el]; exact h2) (by rw [el]; exact h64) (fun p st' s' hp har hf hg=>⟨p,har,hf,hg⟩) (by
    rw [el]
    exact KR.sound (hc _ old6) (FF (by omega)))) ?_ fun _ _ e=>e)
  rintro ⟨⟨⟩,st'⟩ s' ⟨p,har,hf,rfl,hpm,hsr⟩
  dsimp only
  have out:=kat_snds (ks:=jU b vs) (vs:=jU b vs) rfl har
  refine ai (xt ho6 rfl ?_)
  rw [out,kat_outs]
  have lp:(jU b (p.toList.map fun i=>(jU b vs).getD i Value.none)).length < 64:=by
    rw [kat_len,ar,fk,hpm.size]
    exact h64
  refine ai (sW ho6 rfl ?_ (hsz2:=by rw [av,mZ]; omega))
  rw [hf]
  simp only [bne_self_eq_false,iK,if_false]
  exact aN (h p hpm hsr)
theorem sorted_N {l:aa} {vs:List ae} {b:Bool} {Q:ae->aj->Prop} {r:Nat->List Int} (hl:s.heap.IsList l vs.toArray) (h2:2<=vs.length) (h64:vs.length < 64)
    (hk:∀ (A':bP) (E:ae->aj->Prop) (h':cB),A'.units<=A.units + 2->(∀ c o,s.heap.get? c=some o->h'.get? c=some o)->∀ Q:SortKind->aj->Prop,Q (yF false) {s with heap:=h'}->aU (aW prog w) A' (keyKind' vs.toArray) Q E {s with heap:=h'})
    (hc:∀ (A':bP) (h':cB),A'.units<=A.units + 2->(∀ c o,s.heap.get? c=some o->h'.get? c=some o)->∀ i j (C:Bool->aj->Prop),i < vs.length->j < vs.length->i≠j->C (lexLt (r i) (r j)) {s with heap:=h'}->kas_ask prog w A' (yF false) (jU b vs) i j C {s with heap:=h'})
    (h:∀ p,Pm vs.length p->Srt r p vs.length->Q (.ref (s.heap.objs.size + 1)) {s with heap:=BY s.heap vs (rT (jU b (p.toList.map fun i=>(jU b vs).getD i Value.none)))}) :
    aU (aW prog w) A (vV (.builtin "sorted") [.ref l] [(jc "reverse",.bool b)]) Q E s:=by
  refine Dl kind_sorted plain_sorted entry_sorted (args_sorted_rev _ _) ?_
  unfold ig.«sorted»
  refine ai (m:=checkCount "sorted" 1 1 _) (aN ?_)
  refine ai (collect_list hl ?_)
  refine ai (sX ?_)
  have hsz:((s.heap.push (dI "list" #[] 0)).update s.heap.objs.size (cV (·++vs.toArray))).objs.size=s.heap.objs.size + 1:=by
    rw [fZ,tX]
  have hoL:(((s.heap.push (dI "list" #[] 0)).update s.heap.objs.size (cV (·++vs.toArray))).push (dI "list" vs.toArray 0)).get? (s.heap.objs.size + 1)=some (dI "list" vs.toArray 0):=by
    rw [<- hsz]; exact cv _ rfl
  have k0:∀ c o,s.heap.get? c=some o->(((s.heap.push (dI "list" #[] 0)).update s.heap.objs.size (cV (·++vs.toArray))).push (dI "list" vs.toArray 0)).get? c=some o:=fun c o e=>by
    have lt:c < s.heap.objs.size:=aK e
    rw [fg _ _ _ (by rw [hsz]; exact aL (jd lt)),Bi _ _ _ _ (aL lt),fg _ _ _ (aL lt)]
    exact e
  have a0:s.heap.get? (s.heap.objs.size + 1)=none:=by
    cases e:s.heap.get? (s.heap.objs.size + 1) with
    | none=>rfl
    | some o =>
      have:=aK e
      exact absurd this (Nat.not_lt.mpr (fb _))
  show aU _ _ _ _ _ {s with heap:=((s.heap.push (dI "list" #[] 0)).update s.heap.objs.size (cV (·++vs.toArray))).push (dI "list" vs.toArray 0)}
  rw [hsz]
  refine ai (c7 (HA slot_list_sort ⟨_,hoL,rfl⟩ entry_list_sort (sE (h0:=s.heap) (r:=r) hoL k0 a0 h2 h64 (fun h' k Q q=>hk _ _ h' (aC _) k Q q) (fun h' k i j C hi hj ne q=>hc _ h' (aC _) k i j C hi hj ne q) fun p a1 a2=>⟨_,rfl,?_⟩) (IT _ _)))
  exact aN ⟨_,rfl,h p a1 a2⟩
end
end L2
namespace L2
open PySem PySem.W PySem.Spec PyProof.Rows HT
def zq (H:Hp) (z:V×List Int):Prop:=∃ a k ra,z.1=.ref a/\H a=some (.tup (.ref k :: ra))/\H k=some (.tup (z.2.map V.int))
theorem rj:∀ {xs:List V} {its:List ae},cS xs its->∀ (i:Nat),i < xs.length->∃ v,its.getD i Value.none=v/\∃ x,xs[i]?=some x/\RelV x v
  | _,_,.nil,i,h=>absurd h (by simp)
  | _,_,.cons a b,0,h=>⟨_,rfl,_,rfl,a⟩
  | _,_,.cons a b,i + 1,h=>by
    obtain ⟨v,e,x,h1,h2⟩:=rj b i (by simpa using h)
    exact ⟨v,by simpa using e,x,by simpa using h1,h2⟩
theorem vB {xs:List V} {its:List ae} (h:cS xs its) (d:V):∀ (is:List Nat),(∀ i∈is,i < xs.length)->cS (is.map fun i=>(xs.getD i d)) (is.map fun i=>its.getD i Value.none)
  | [],_=>.nil
  | i :: is,hb=>by
    obtain ⟨v,e,x,h1,h2⟩:=rj h i (hb i aw)
    refine .cons ?_ (vB h d is fun j hj=>hb j (ag _ hj))
    show RelV (xs.getD i d) (its.getD i Value.none)
    rw [e,dE,h1]
    exact h2
theorem zr {α:Type} (l:List α) (d:α):(hV l.length).map (fun i=>l.getD i d)=l:=by
  apply rR
  intro i
  rw [bQ]
  by_cases h:i < l.length
  · rw [List.getElem?_range h,Du,dE,ax h]
    rfl
  · rw [d8 (by simpa using h),d8 (by omega)]
    rfl
def mU:V×List Int:=(.non,[])
theorem Dv {zs:List (V×List Int)} (nd:(zs.map (·.2)).Nodup) {p:Array Nat} (hp:Pm zs.length p) (hs:Srt (fun i=>(zs.reverse.getD i mU).2) p zs.length) :
    ((p.toList.map fun i=>zs.reverse.getD i mU).reverse).Perm zs/\((p.toList.map fun i=>zs.reverse.getD i mU).reverse).Pairwise (fun a b=>HT.lexLt b.2 a.2=true):=by
  have pl:p.toList.Perm (hV zs.length):=by simpa using hJ.mp hp
  have pm:(p.toList.map fun i=>zs.reverse.getD i mU).Perm zs:=by
    refine (pl.map _).trans ?_
    have e:=zr zs.reverse mU
    rw [ir] at e
    rw [e]
    exact rV _
  refine ⟨(rV _).trans pm,List.pairwise_reverse.mpr (cY.mpr fun i j hi hj hij=>?_)⟩
  have nd2:((p.toList.map fun i=>zs.reverse.getD i mU).map (·.2)).Nodup:=(pm.map _).nodup_iff.mpr nd
  have li:i < zs.length:=by
    have:=pm.length_eq
    omega
  have lj:j < zs.length:=by
    have:=pm.length_eq
    omega
  have at_:∀ k (h:k < (p.toList.map fun i=>zs.reverse.getD i mU).length),(p.toList.map fun i=>zs.reverse.getD i mU)[k].2=Rk (fun i=>(zs.reverse.getD i mU).2) p k:=fun k h=>by
    have hk:k < p.size:=by simpa using h
    unfold Rk
    simp [mT,hk]
  have le:=hs i j (j6 hij) lj
  have ne:=cY.mp nd2 i j (by simpa using hi) (by simpa using hj) hij
  rw [at_ i hi,at_ j hj]
  refine lx_of_not le fun z=>ne ((ik _).trans (Eq.trans ?_ (ik _).symm))
  rw [at_ i hi,at_ j hj]
  exact z.symm
section
variable {X:Cx} {e:cX} {t:TA} {p pos kp bp:Pos} {j:Nat}
def IX (t:TA):TE:=fun σ H Q=>t σ H fun vs H1=>∃ (p:aa) (zs:List (V×List Int)),vs=[.ref p]/\H1 p=some (.lst (zs.map (·.1)))/\(∀ z∈zs,zq H1 z)/\(zs.map (·.2)).Nodup/\zs.length < 64 /\
  ∀ (l:aa) (zs':List (V×List Int)),H1 l=none->zs'.Perm zs->zs'.Pairwise (fun a b=>HT.lexLt b.2 a.2=true)->Q (.ref l) (upd H1 l (.lst (zs'.map (·.1))))
theorem vC {s:aj} {H:Hp} {P:aM} {w:bH} (ok:HOk P w H s.heap):∀ {zs:List (V×List Int)} {its:List ae},cS (zs.map (·.1)) its->(∀ z∈zs,zq H z)->∃ fs,KatTups s.heap its fs/\fs.length=its.length/\∀ f∈fs,∃ k o,f=.ref k/\s.heap.get? k=some o/\o.cls=.type "tuple"
  | [],_,r,_=>by
    cases r
    exact ⟨[],KatTups.nil,rfl,fun f hf=>by cases hf⟩
  | z :: zs,_,r,hz=>by
    cases r with
    | cons a b =>
      obtain ⟨fs,h1,h2,h3⟩:=vC ok b fun z hz'=>hz z (ag _ hz')
      obtain ⟨ad,k,ra,e1,e2,e3⟩:=hz z aw
      have a:RelV z.1 _:=a
      rw [e1] at a
      cases a
      obtain ⟨us,r1,o1,g1,c1,n1,d1⟩:=eB ok e2
      obtain ⟨ws,r2,o2,g2,c2,n2,d2⟩:=eB ok e3
      cases r1 with
      | cons a1 b1 =>
        cases a1
        refine ⟨.ref k :: fs,KatTups.cons g1 c1 d1 rfl h1,by rw [aP,aP,h2],fun f hf=>?_⟩
        rcases au.mp hf with y | y
        · exact ⟨k,o2,y,g2,c2⟩
        · exact h3 f y
theorem Dw {ke:cX} (hu:X.A.units + 5 < dM) (hg:Gl X "sorted") (hm:X.mg "sorted"=none) (ha:PA X [e] t) (hk:PE X ke (tC (.bl true))) (he:iw pos (cH [e] X.env)=[(false,eW e X.env)]:=by rfl)
    (hall:(lS pos (iA [⟨some "reverse",ke,kp⟩] X.env)).all (·.1.isSome)=true:=by rfl) (hkw:(lS pos (iA [⟨some "reverse",ke,kp⟩] X.env)).any (·.1.isNone)=false:=by rfl)
    (hnm:(lS pos (iA [⟨some "reverse",ke,kp⟩] X.env)).filterMap (·.1)=[jc "reverse"]:=by rfl) :
    PE X (.Call (.Name "sorted" p) [e] [⟨some "reverse",ke,kp⟩] pos) (IX t):=by
  intro pins s σ H Q I h
  refine gP (qM I hg hm boot_sorted ?_)
  refine callWith_kw (thn (ha pos pins s σ H _ I h) fun us s1 ⟨vs,H1,I1,r1,q1⟩=>?_) (by rw [he]; rfl) (by rw [he]; rfl) hall hkw
  obtain ⟨l,zs,rfl,hl,hz,nd,h64,q⟩:=q1
  obtain ⟨u,rfl,ru⟩:=vals1 r1
  cases ru
  refine kws_cons (thn (hk pins s1 σ H1 (fun v H2=>v=.bl true/\H2=H1) I1 (show _/\_ from ⟨rfl,rfl⟩)) fun v s2 hk2=>kws_nil ?_)
  obtain ⟨y,H2,I2,r2,e1,e2⟩:=hk2
  subst e1 e2
  cases r2
  rw [hnm]
  obtain ⟨its,n,rv,ho,hzz⟩:=I2.lst hl
  have hlen:=rv.length
  rw [ar] at hlen
  show aU _ _ (vV (.builtin "sorted") [.ref l] [(jc "reverse",.bool true)]) _ _ _
  by_cases c:its.length < 2
  · refine zm (l:=l) (vs:=its) ⟨_,ho,rfl,n,rfl⟩ c ?_
    obtain ⟨ep,he'⟩:=sortedAll_at s2.heap its its.toArray
    have two:2<=aA:=by decide
    have z:=I2.laid (a:=s2.heap.objs.size + 1) (o:=.lst (zs.map (·.1))) (t':=s2.toks) (fun _ _=>sortedAll_old) (fb _) (h':=BY s2.heap its its.toArray) ⟨by rw [ar]; omega,its,ep,rv,he'⟩
    refine ⟨.ref (s2.heap.objs.size + 1),_,z,rfl,q _ zs (I2.hok.fresh (fb _)) (iJ _) ?_⟩
    match zs,hlen with
    | [],_=>exact List.Pairwise.nil
    | [_],_=>exact mK _ _
    | _ :: _ :: _,hlen=>exact absurd c (by rw [<- hlen]; simp)
  · have crev:∀ {α:Type} (l:List α),jU true l=l.reverse:=fun l=>rfl
    refine sorted_N (l:=l) (vs:=its) (r:=fun i=>(zs.reverse.getD i mU).2) ⟨_,ho,rfl,n,rfl⟩ (by omega) (by omega) (fun A' E' h' hA k Q' q'=>?_) (fun A' h' hA k i j C hi hj ne q'=>?_) fun p hp hs=>?_
    · have I3:=(I2.kept (t':=s2.toks) k).hok
      obtain ⟨fs,h1,h2,h3⟩:=vC (s:={s2 with heap:=h'}) I3 rv hz
      refine kat_kind (T:=.type "tuple") h1 (by omega) (fun v hv=>?_) (by rfl) ?_
      · obtain ⟨kk,o,rfl,g,cl⟩:=h3 v hv
        rw [<- cl]
        exact (Looks.ld g).andThen .now
      · exact q'
    · have I3:=(I2.kept (t':=s2.toks) k).hok
      have vr:=rv.reverse
      rw [<- sZ] at vr
      have at_:∀ m,m < its.length->∃ (a kk:aa) (us ws:List ae),its.reverse.getD m Value.none=.ref a/\qL h' a (.ref kk :: us).toArray/\qL h' kk ws.toArray/\eV ws (zs.reverse.getD m mU).2/\H2 kk=some (.tup ((zs.reverse.getD m mU).2.map V.int)):=fun m hm=>by
        have hm':m < zs.reverse.length:=by rw [ir]; omega
        obtain ⟨v,ev,x,hx,rx⟩:=rj vr m (by rw [ar]; exact hm')
        rw [bQ,ax hm'] at hx
        cases hx
        have ez:zs.reverse.getD m mU=zs.reverse[m]:=by rw [dE,ax hm']; rfl
        obtain ⟨ad,kk,ra,e1,e2,e3⟩:=hz _ (List.mem_reverse.mp (mO hm'))
        have rx:RelV (zs.reverse[m]).1 v:=rx
        rw [e1] at rx
        cases rx
        obtain ⟨us,r1,t1⟩:=eB (s:={s2 with heap:=h'}) I3 e2
        obtain ⟨ws,r2,t2⟩:=eB (s:={s2 with heap:=h'}) I3 e3
        cases r1 with
        | cons a1 b1 =>
          cases a1
          exact ⟨ad,kk,_,ws,ev,t1,t2,by rw [ez]; exact intsAre_of r2,by rw [ez]; exact e3⟩
      obtain ⟨a1,k1,us1,ws1,g1,t1,u1,i1,m1⟩:=at_ i hi
      obtain ⟨a2,k2,us2,ws2,g2,t2,u2,i2,m2⟩:=at_ j hj
      have neK:(zs.reverse.getD i mU).2≠(zs.reverse.getD j mU).2:=by
        have nd2:((zs.reverse).map (·.2)).Nodup:=((rV zs).map _).nodup_iff.mpr nd
        have h1:i < zs.reverse.length:=by rw [ir]; omega
        have h2:j < zs.reverse.length:=by rw [ir]; omega
        rw [dE,ax h1,dE,ax h2]
        show (zs.reverse[i]).2≠(zs.reverse[j]).2
        rcases Dp ne with c | c
        · exact fun z=>cY.mp nd2 i j (by simpa using h1) (by simpa using h2) c ((ik _).trans (z.trans (ik _).symm))
        · exact fun z=>cY.mp nd2 j i (by simpa using h2) (by simpa using h1) c ((ik _).trans (z.symm.trans (ik _).symm))
      have eq:=vz (s:={s2 with heap:=h'}) (A:=A') I3 (by omega) m1 m2
      rw [decide_eq_false neK] at eq
      show aU _ A' (keyLt' (yF false) (its.reverse.getD i Value.none) (its.reverse.getD j Value.none)) C _ _
      rw [g1,g2]
      obtain ⟨o1,y1,_,n1,d1⟩:=id t1
      obtain ⟨o2,y2,_,n2,d2⟩:=id t2
      refine kat_lt (s:={s2 with heap:=h'}) y1 d1 y2 d2 (kat_cons (eq _ _ _ _ (kat_no (kat_one _ _ (HT.lt_tupInts u1 u2 i1 i2 (by omega) q')))))
    · have hp':Pm zs.length p:=by rw [hlen]; exact hp
      obtain ⟨pk1,pk2⟩:=Dv nd hp' (by rw [hlen]; exact hs)
      have vr:=rv.reverse
      rw [<- sZ] at vr
      have vo:=(vB vr V.non p.toList fun i hi=>by
        rw [ar,ir]
        have:=(hJ.mp hp').mem_iff.mp hi
        simpa using this).reverse
      have ev:(p.toList.map fun i=>(zs.reverse.map (·.1)).getD i V.non).reverse=((p.toList.map fun i=>zs.reverse.getD i mU).reverse).map (·.1):=by
        refine Eq.trans ?_ sZ.symm
        rw [dX]
        congr 1
        refine iu fun i _=>?_
        show (zs.reverse.map (·.1)).getD i V.non=(zs.reverse.getD i mU).1
        rw [dE,bQ,dE]
        cases zs.reverse[i]? <;> rfl
      rw [ev] at vo
      obtain ⟨ep,he'⟩:=sortedAll_at s2.heap its (rT (p.toList.map fun i=>its.reverse.getD i Value.none).reverse)
      have z:=I2.laid (a:=s2.heap.objs.size + 1) (o:=.lst (((p.toList.map fun i=>zs.reverse.getD i mU).reverse).map (·.1))) (t':=s2.toks) (fun _ _=>sortedAll_old) (fb _) (h':=BY s2.heap its (rT (p.toList.map fun i=>its.reverse.getD i Value.none).reverse)) ⟨by
        rw [ar,pk1.length_eq]
        have:64<=aA:=by decide
        omega,_,ep,vo,he'⟩
      exact ⟨.ref (s2.heap.objs.size + 1),_,z,rfl,q _ _ (I2.hok.fresh (fb _)) pk1 pk2⟩
end
end L2
namespace PySem
open SeqAt MeetsSeq MeetsSeq2 MeetsSeq3 SeqRoads2
section
variable {prog:aM} {w:bH} {A:bP} {s:aj}
variable {K:Type} [DecidableEq K] {knd:KeyKind prog w K}
end
end PySem
namespace L2
open PySem PySem.Spec PyProof.Rows PySem.SeqAt
section
variable {X:Cx}
end
end L2
namespace L2
open PySem PySem.Spec PyProof.Rows
section
variable {X:Cx}
theorem tZ:∀ {ys:List Str} {us:List ae},cS (ys.map V.str) us->StrsAre us ys
  | [],_,.nil=>.nil
  | _ :: _,_,.cons ⟨t,e⟩ r=>e ▸ .cons _ t (tZ r)
def jsz (z:Str) (ys:List Str):Nat:=(ys.map fun x=>x.length).sum + ys.length * z.length
def rJoin (K:af):V->List V->Hp->VK->Prop:=fun x vs H Q=>∃ z l ys,x=.str z/\vs=[.ref l]/\(SqL K H l (ys.map V.str)\/SqT K H l (ys.map V.str))/\jsz z ys<=16777216/\Q (.str (Bj z ys)) H
theorem FH:MtR X "str.join" (rJoin X.K):=by
  intro pins s σ H x vs v us Q I rx rv h
  obtain ⟨z,l,ys,rfl,rfl,hl,hz,q⟩:=h
  obtain ⟨t,rfl⟩:=rx
  obtain ⟨u,rfl,ru⟩:=rv.one
  cases ru
  rcases hl with hl | hl
  · obtain ⟨its,r,pl,_⟩:=I.list hl
    exact join_list pl.isList (by simpa using tZ r) hz fun t' k=>⟨.str _,H,I.tok _,⟨_,rfl⟩,q⟩
  · obtain ⟨its,r,pl,_⟩:=I.tuple hl
    exact join_tuple pl (by simpa using tZ r) hz fun t' k=>⟨.str _,H,I.tok _,⟨_,rfl⟩,q⟩
theorem IY (hu:X.A.units + 50 < dM):OpR X (cU .NotEq) (fun x y H Q=>∃ p q xs,x=.ref p/\y=.ref q/\H p=some (.lst xs)/\H q=some (.lst [])/\Q (.bl (!xs.isEmpty)) H):=by
  intro pins s σ H x y v u Q I rx ry h
  obtain ⟨p,q,xs,rfl,rfl,h1,h2,k⟩:=h
  cases xs with
  | nil=>exact C9 hu pins s σ H _ _ v u Q I rx ry ⟨1,p,q,by omega,rfl,rfl,.inr (.inl ⟨p,q,[],[],rfl,rfl,h1,h2,.nil⟩),k⟩
  | cons a xs =>
    cases rx
    cases ry
    obtain ⟨us,r1,i1⟩:=gj I.hok h1
    obtain ⟨vs,r2,i2⟩:=gj I.hok h2
    cases r2
    have hl:=r1.length
    exact SeqAt.RcNeAt.lists_lengths i1 i2 (by
      cases us with
      | nil=>cases hl
      | cons b us=>simp) (by omega) X.prog X.w _ _ ⟨.bl true,H,I,rfl,k⟩
end
end L2
namespace L2
open PySem PySem.Spec PyProof.Rows
section
variable {X:Cx}
end
theorem Dx {n m:Nat} {g:TG} {tc:TT} {te:TE} {σ:St} {H:Hp} {Q:VK} (Pv:Nat->List V->Hp->Prop) (h0:Pv 0 [] H) (hl:∀ i ys H,i<=m->Pv i ys H->ys.length < aA)
    (hs:∀ i ys H,i < m->Pv i ys H->g (.int (0 + i)) (cC n none++σ) H fun σ2 H2=>σ2.drop n=σ/\tc σ2 H2 fun b H3=>if b=true then te σ2 H3 fun y H4=>Pv (i + 1) (ys++[y]) H4 else Pv (i + 1) ys H3)
    (hd:∀ ys H,Pv m ys H->∀ p,H p=none->Q (.ref p) (upd H p (.lst ys))) :
    ∃ W:Nat->Nat->List V->Hp->Prop,(∃ k,W 0 k [] H)/\∀ i k ys H,W i k ys H->ys.length < aA/\(((Itr 0 m).stop i H/\∀ p,H p=none->Q (.ref p) (upd H p (.lst ys))) \/
      ((Itr 0 m).go i H/\∃ N:List V->Hp->Prop,(∀ ys' H',N ys' H'->∃ k',k' < k/\W (i + 1) k' ys' H')/\∀ x H',(Itr 0 m).yld i H x H'->g x (cC n none++σ) H' fun σ2 H2=>σ2.drop n=σ/\tc σ2 H2 fun b H3 =>
        if b=true then te σ2 H3 fun y H4=>N (ys++[y]) H4 else N ys H3)):=by
  refine ⟨fun i k ys H=>k=m - i/\i<=m/\Pv i ys H,⟨m,by simp,bj _,h0⟩,?_⟩
  rintro i k ys H ⟨rfl,hi,pv'⟩
  refine ⟨hl i ys H hi pv',?_⟩
  by_cases lt:i < m
  · refine .inr ⟨lt,Pv (i + 1),fun ys' H' p'=>⟨m - (i + 1),by omega,rfl,lt,p'⟩,fun x H' y=>?_⟩
    obtain ⟨e,y⟩:=y
    subst e y
    exact hs i ys _ lt pv'
  · have e:i=m:=by omega
    subst e
    exact .inl ⟨aC _,hd ys H pv'⟩
end L2
namespace My
open PySem L2
def top (i:Nat):df:=PySem.Challenge.pw_momentloom_k60_books_let_by.main.body.getD i (.Pass ⟨0,0,0,0⟩)
abbrev kK:df:=fY (top 3) 0
abbrev lW:df:=fY (top 4) 0
abbrev nY:df:=fY (top 5) 0
abbrev pD:df:=fY (top 6) 0
abbrev nZ:df:=fY (top 7) 0
abbrev n6:df:=fY (top 8) 0
abbrev jV:df:=top 10
abbrev fy:df:=top 11
abbrev gk:df:=top 12
abbrev dQ:df:=top 13
abbrev lX:df:=fY (top 15) 0
abbrev iE:df:=fY (top 15) 1
abbrev eG:df:=fY (top 15) 2
abbrev eC:df:=fY (top 15) 3
abbrev gp:df:=fY (top 15) 4
abbrev wK:df:=top 16
abbrev lY:df:=top 17
abbrev gB:df:=top 18
abbrev kr:df:=top 19
abbrev gR:df:=top 20
abbrev kZ:df:=top 21
abbrev lu:df:=top 22
abbrev lA:df:=top 23
abbrev lB:df:=top 24
abbrev lC:df:=top 25
abbrev lD:df:=top 27
abbrev lZ:df:=fY (top 28) 0
abbrev iP:df:=fY (top 29) 0
abbrev iQ:df:=fY (top 29) 1
abbrev ji:df:=top 30
abbrev l8:df:=top 32
abbrev qv:df:=top 33
abbrev n9:df:=fY (top 35) 0
abbrev fX:df:=top 36
abbrev kL:df:=fY (top 37) 0
abbrev fh:df:=fY (top 37) 2
abbrev gC:df:=fY (top 37) 3
abbrev gs:df:=top 38
abbrev qx:df:=top 39
abbrev oJ:df:=top 40
abbrev lE:df:=top 42
abbrev kx:df:=top 44
abbrev fc:df:=top 45
abbrev iF:df:=top 46
abbrev iG:df:=top 48
abbrev gm:df:=top 49
abbrev gz:df:=top 50
abbrev eA:df:=top 51
abbrev jW:df:=top 52
abbrev lF:df:=top 53
abbrev md:df:=top 54
abbrev jj:df:=top 55
abbrev Dy:df:=top 56
end My
namespace My
open PySem L2
structure Df (K:af) (mg:Str->Option ae) (x:Str) (st:df) (ps:List Str) (f:aa) (fd:bY):Prop where
  F:Fun K x x st f fd
  b:Binds K fd ps []
  m:mg x=some (.ref f)
structure Bl (mg:Str->Option ae):Prop where
  len:mg "len"=none
  abs:mg "abs"=none
  isi:mg "isinstance"=none
  list:mg "list"=none
  tuple:mg "tuple"=none
  str:mg "str"=none
  int:mg "int"=none
  bool:mg "bool"=none
  range:mg "range"=none
  max:mg "max"=none
  dict:mg "dict"=none
theorem boot_abs:eP "abs"=some (.builtin "abs"):=by decide +kernel
theorem oa:eP "isinstance"=some (.builtin "isinstance"):=by decide +kernel
theorem boot_list:eP "list"=some (.type "list"):=by decide +kernel
theorem boot_tuple:eP "tuple"=some (.type "tuple"):=by decide +kernel
theorem boot_int:eP "int"=some (.type "int"):=by decide +kernel
theorem boot_bool:eP "bool"=some (.type "bool"):=by decide +kernel
theorem boot_dict:eP "dict"=some (.type "dict"):=by decide +kernel
def But (p:aa) (H H':Hp):Prop:=∀ b o,H b=some o->b≠p->H' b=some o
theorem But.refl (p:aa) (H:Hp):But p H H:=fun _ _ e _=>e
theorem But.trans {p:aa} {H H1 H2:Hp} (a:But p H H1) (b:But p H1 H2):But p H H2:=fun c o e n=>b c o (a c o e n) n
theorem But.upd (p:aa) (H:Hp) (o:HO):But p H (upd H p o):=fun b u e n=>by rw [aJ n]; exact e
theorem But.same {p:aa} {H H1 H2:Hp} (a:But p H H1) (b:bM H1 H2):But p H H2:=fun c o e n=>b c o (a c o e n)
theorem aD {H:Hp} {p:aa} (h:H p=none) (o:HO):bM H (upd H p o):=fun b u q=>by rw [aJ (aG q h)]; exact q
theorem jv {c:Prop} [Decidable c] (h:decide c=true):c:=of_decide_eq_true h
theorem jF {c:Prop} [Decidable c] (h:¬ decide c=true):¬ c:=fun z=>h (decide_eq_true z)
theorem lt2:2<=aA:=by decide
theorem lt5:5<=aA:=by decide
end My
namespace My
open PySem L2
def zt:V->Prop
  | .int _=>True
  | .str _=>True
  | _=>False
def Tree (H:Hp):Nat->V->Prop
  | 0,v=>zt v
  | n + 1,v=>zt v\/∃ p xs,v=.ref p/\(H p=some (.lst xs)\/H p=some (.tup xs))/\xs.length < 1000/\∀ x∈xs,Tree H n x
def Alike (H H':Hp):Nat->V->V->Prop
  | 0,v,v'=>v'=v
  | n + 1,v,v'=>(zt v/\v'=v)\/(∃ p p' xs ys,v=.ref p/\v'=.ref p'/\H p=some (.lst xs)/\H' p'=some (.lst ys)/\aO (Alike H H' n) xs ys) \/
      ∃ p p' xs ys,v=.ref p/\v'=.ref p'/\H p=some (.tup xs)/\H' p'=some (.tup ys)/\aO (Alike H H' n) xs ys
theorem Alike.mono {H H1 H2:Hp} (s:bM H1 H2):∀ {n:Nat} {v v':V},Alike H H1 n v v'->Alike H H2 n v v'
  | 0,_,_,h=>h
  | n + 1,v,v',h=>by
    rcases h with h | ⟨p,p',xs,ys,e1,e2,h1,h2,r⟩ | ⟨p,p',xs,ys,e1,e2,h1,h2,r⟩
    · exact .inl h
    · exact .inr (.inl ⟨p,p',xs,ys,e1,e2,h1,s _ _ h2,L2.Paired.imp' (fun _ _ z=>Alike.mono s z) r⟩)
    · exact .inr (.inr ⟨p,p',xs,ys,e1,e2,h1,s _ _ h2,L2.Paired.imp' (fun _ _ z=>Alike.mono s z) r⟩)
theorem Tree.same {H H1:Hp} (s:bM H H1):∀ {n:Nat} {v:V},Tree H n v->Tree H1 n v
  | 0,_,h=>h
  | n + 1,v,h=>by
    rcases h with h | ⟨p,xs,e,h1,h2,h3⟩
    · exact .inl h
    · exact .inr ⟨p,xs,e,h1.imp (s _ _) (s _ _),h2,fun x hx=>Tree.same s (h3 x hx)⟩
theorem Alike.from {H H0 H1:Hp} (s:bM H H0):∀ {n:Nat} {v v':V},Tree H n v->Alike H0 H1 n v v'->Alike H H1 n v v'
  | 0,_,_,_,h=>h
  | n + 1,v,v',t,h=>by
    rcases t with t | ⟨q,zs,e,t1,t2,t3⟩
    · rcases h with h | ⟨p,p',xs,ys,e1,e2,h1,h2,r⟩ | ⟨p,p',xs,ys,e1,e2,h1,h2,r⟩
      · exact .inl h
      · rw [e1] at t
        exact t.elim
      · rw [e1] at t
        exact t.elim
    · rcases h with h | ⟨p,p',xs,ys,e1,e2,h1,h2,r⟩ | ⟨p,p',xs,ys,e1,e2,h1,h2,r⟩
      · exact .inl h
      · rw [e] at e1
        cases e1
        rcases t1 with t1 | t1
        · have z:=s _ _ t1
          rw [h1] at z
          cases z
          refine .inr (.inl ⟨q,p',zs,ys,e,e2,t1,h2,?_⟩)
          clear h1 t1 t2 h2
          induction r with
          | nil=>exact .nil
          | cons a b ih=>exact .cons (Alike.from s (t3 _ aw) a) (ih fun x hx=>t3 x (ag _ hx))
        · have z:=s _ _ t1
          rw [h1] at z
          cases z
      · rw [e] at e1
        cases e1
        rcases t1 with t1 | t1
        · have z:=s _ _ t1
          rw [h1] at z
          cases z
        · have z:=s _ _ t1
          rw [h1] at z
          cases z
          refine .inr (.inr ⟨q,p',zs,ys,e,e2,t1,h2,?_⟩)
          clear h1 t1 t2 h2
          induction r with
          | nil=>exact .nil
          | cons a b ih=>exact .cons (Alike.from s (t3 _ aw) a) (ih fun x hx=>t3 x (ag _ hx))
theorem Dz {K:af}:eS K (.type "int") (.type "list")=some false:=by kernel_rfl
theorem DG {K:af}:eS K (.type "str") (.type "list")=some false:=by kernel_rfl
theorem DH {K:af}:eS K (.type "int") (.type "tuple")=some false:=by kernel_rfl
theorem DI {K:af}:eS K (.type "str") (.type "tuple")=some false:=by kernel_rfl
theorem IZ {K:af}:eS K (.type "list") (.type "list")=some true:=by rfl
theorem I9 {K:af}:eS K (.type "tuple") (.type "list")=some false:=by kernel_rfl
theorem Ja {K:af}:eS K (.type "tuple") (.type "tuple")=some true:=by rfl
def Nw (H G:Hp):Hp:=fun a=>if H a=none then G a else none
theorem x9 {H G:Hp} {a:aa} (n:H a=none):Nw H G a=G a:=if_pos n
theorem nw_le {H G:Hp}:bM (Nw H G) G:=fun a o e=>by
  unfold Nw at e
  by_cases c:H a=none
  · rw [if_pos c] at e
    exact e
  · rw [if_neg c] at e
    cases e
theorem tf {H G G':Hp} (s:bM G G'):bM (Nw H G) (Nw H G'):=fun a o e=>by
  by_cases c:H a=none
  · rw [x9 c] at e |-
    exact s _ _ e
  · unfold Nw at e
    rw [if_neg c] at e
    cases e
theorem Aj {H0 H G:Hp} (d:∀ a,H a=none->H0 a=none):bM (Nw H G) (Nw H0 G):=fun a o e=>by
  by_cases c:H a=none
  · rw [x9 c] at e
    rw [x9 (d a c)]
    exact e
  · unfold Nw at e
    rw [if_neg c] at e
    cases e
theorem qy {H G:Hp} (s:bM H G):∀ a,G a=none->H a=none:=fun a n=>by
  cases z:H a with
  | none=>rfl
  | some o =>
    rw [s _ _ z] at n
    cases n
section
variable {P:aM} {w:bH} {K:af} {mg:Str->Option ae} {base:cB} {f fC fI CM CS:aa} {fd fdC fdI:bY}
def og (n:Nat):Sp:=fun vs H Q _=>∃ v,vs=[v]/\Tree H n v/\∀ (v':V) (H':Hp),bM H H'->Alike H (Nw H H') n v v'->Q v' H'
theorem scC:bV ["thing"] ["thing"] (aQ lD):=⟨rfl,rfl,rfl,by decide +kernel,rfl,by decide +kernel,by decide +kernel⟩
theorem Ak:(["part","thing"]:List Str).Nodup:=by decide +kernel
theorem vD {α β:Type} {R:α->β->Prop} {xs:List α} {ys:List β} {i:Nat} {x:α} {y:β} (r:aO R (xs.take i) ys) (hx:xs[i]?=some x) (h:R x y):aO R (xs.take (i + 1)) (ys++[y]):=by
  have e:xs.take (i + 1)=xs.take i++[x]:=by rw [fi,hx]; rfl
  rw [e]
  exact dR r h
theorem ya {n:Nat} (D:Df K mg "copied" lD ["thing"] f fd) (B:Bl mg) (G:bT P w K mg base CX0 (n + 1) f fd ["thing"] (og n)):bT P w K mg base CX0 (n + 2) f fd ["thing"] (og (n + 1)):=by
  refine D.F.ok scC (fun vs H Q E h=>?_) (fun cdv A outer s H vs Q E hr h=>?_)
  · obtain ⟨v,rfl,_⟩:=h
    rfl
  obtain ⟨v,rfl,ht,q⟩:=h
  refine ⟨_,ak (cZ (lO (dA ju (by rfl) B.isi oa (aq (pv 0) (aq (pY (v:=.ty "list") (by rfl) B.list boot_list rfl) ao))))
      (aF (bX (sP ["part"] (ia.closed (by decide +kernel) (by decide +kernel) rfl (by decide +kernel) (by intro n hn; rcases aH.mp hn with rfl; decide +kernel)) rfl (gW (pv 0)) (fun _ _ _ _=>dy (i:=0) Ak rfl (Or.inl rfl)) (fun _ _ _ _=>jI)
        (fun _ _ _ _=>aS G hr rfl D.m D.F.kp D.b .nil cm (aq (pv 0) ao))))) cy)
    (ak (cZ (lO (dA ju (by rfl) B.isi oa (aq (pv 0) (aq (pY (v:=.ty "tuple") (by rfl) B.tuple boot_tuple rfl) ao))))
      (aF (bX (iC uN (by rfl) B.tuple boot_tuple (aq (sP ["part"] (ia.closed (by decide +kernel) (by decide +kernel) rfl (by decide +kernel) (by intro n hn; rcases aH.mp hn with rfl; decide +kernel)) rfl (Im (pv 0)) (fun _ _ _ _=>dy (i:=0) Ak rfl (Or.inl rfl)) (fun _ _ _ _=>jI)
        (fun _ _ _ _=>aS G hr rfl D.m D.F.kp D.b .nil cm (aq (pv 0) ao))) ao)))) cy)
    (aF (bX (pv 0)))),?_⟩
  have big:1000 < aA:=by decide
  rcases ht with ht | ⟨p,xs,rfl,hp,hl,hx⟩
  · cases v with
    | int i =>
      refine ⟨_,rfl,_,"list",_,false,rfl,.int i,Dz,_,rfl,fV ?_⟩
      refine ⟨_,rfl,_,"tuple",_,false,rfl,.int i,DH,_,rfl,fV ?_⟩
      exact ⟨_,rfl,q _ _ (bM.refl H) (.inl ⟨trivial,rfl⟩)⟩
    | str x =>
      refine ⟨_,rfl,_,"list",_,false,rfl,.str x,DG,_,rfl,fV ?_⟩
      refine ⟨_,rfl,_,"tuple",_,false,rfl,.str x,DI,_,rfl,fV ?_⟩
      exact ⟨_,rfl,q _ _ (bM.refl H) (.inl ⟨trivial,rfl⟩)⟩
    | non=>exact ht.elim
    | bl b=>exact ht.elim
    | byt b=>exact ht.elim
    | flt b=>exact ht.elim
    | ref a=>exact ht.elim
    | ty a=>exact ht.elim
  · rcases hp with hp | hp
    · refine ⟨_,rfl,_,"list",_,true,rfl,.lst hp,IZ,_,rfl,gF ?_⟩
      refine ⟨_,rfl,p,rfl,⟨_,SqL.of hp⟩,qZ (K:=K) (a:=p) (xs:=xs) (fun i ys H1=>i<=xs.length/\ys.length=i/\bM H H1/\aO (Alike H (Nw H H1) n) (xs.take i) ys) ⟨bj _,rfl,bM.refl H,.nil⟩ ?_ ?_ ?_⟩
      · rintro i ys H1 hi ⟨_,h1,h2,_⟩
        exact ⟨SqL.of (h2 _ _ hp),by omega⟩
      · rintro i x ys H1 hi ⟨h0,h1,h2,h3⟩
        have hm:x∈xs:=cw hi
        have lt:i < xs.length:=(aB.mp hi).1
        refine ⟨rfl,?_⟩
        unfold uP
        refine gF ?_
        refine ⟨_,rfl,x,rfl,Tree.same h2 (hx x hm),fun v' H2 s2 al=>?_⟩
        exact ⟨lt,by rw [aE,h1]; rfl,h2.trans s2,vD (L2.Paired.imp' (fun _ _ z=>Alike.mono (tf s2) z) h3) hi (Alike.mono (Aj (qy h2)) (Alike.from h2 (hx x hm) al))⟩
      · rintro ys H1 ⟨_,h1,h2,h3⟩ l hl'
        rw [dG] at h3
        refine q _ _ (h2.trans (aD hl' _)) (.inr (.inl ⟨p,l,xs,ys,rfl,rfl,hp,(by rw [x9 (qy h2 _ hl')]; exact ah),L2.Paired.imp' (fun _ _ z=>Alike.mono (tf (aD hl' _)) z) h3⟩))
    · refine ⟨_,rfl,_,"list",_,false,rfl,.tup hp,I9,_,rfl,fV ?_⟩
      refine ⟨_,rfl,_,"tuple",_,true,rfl,.tup hp,Ja,_,rfl,gF ?_⟩
      refine ⟨_,rfl,p,rfl,⟨_,SqT.of hp⟩,C2 (K:=K) (a:=p) (xs:=xs) (Q:=fun v H1=>∃ z ys,[v]=[V.ref z]/\((SqL K H1 z ys/\∀ l,H1 l=none->Q (.ref l) (upd H1 l (.tup ys)))\/(SqT K H1 z ys/\Q (.ref z) H1))) (fun i ys H1=>i<=xs.length/\ys.length=i/\bM H H1/\aO (Alike H (Nw H H1) n) (xs.take i) ys) ⟨bj _,rfl,bM.refl H,.nil⟩ ?_ ?_ ?_⟩
      · rintro i ys H1 hi ⟨_,h1,h2,_⟩
        exact ⟨SqT.of (h2 _ _ hp),by omega⟩
      · rintro i x ys H1 hi ⟨h0,h1,h2,h3⟩
        have hm:x∈xs:=cw hi
        have lt:i < xs.length:=(aB.mp hi).1
        refine ⟨rfl,?_⟩
        unfold uP
        refine gF ?_
        refine ⟨_,rfl,x,rfl,Tree.same h2 (hx x hm),fun v' H2 s2 al=>?_⟩
        exact ⟨lt,by rw [aE,h1]; rfl,h2.trans s2,vD (L2.Paired.imp' (fun _ _ z=>Alike.mono (tf s2) z) h3) hi (Alike.mono (Aj (qy h2)) (Alike.from h2 (hx x hm) al))⟩
      · rintro ys H1 ⟨_,h1,h2,h3⟩ l hl'
        rw [dG] at h3
        refine ⟨l,ys,rfl,.inl ⟨SqL.of ah,fun t ht=>?_⟩⟩
        have s3:bM H1 (upd (upd H1 l (.lst ys)) t (.tup ys)):=(aD hl' _).trans (aD ht _)
        exact q _ _ (h2.trans s3) (.inr (.inr ⟨p,t,xs,ys,rfl,rfl,hp,(by rw [x9 (qy (h2.trans (aD hl' (.lst ys))) _ ht)]; exact ah),L2.Paired.imp' (fun _ _ z=>Alike.mono (tf s3) z) h3⟩))
theorem yb (D:Df K mg "copied" lD ["thing"] f fd) (B:Bl mg):bT P w K mg base CX0 1 f fd ["thing"] (og 0):=by
  refine D.F.ok scC (fun vs H Q E h=>?_) (fun cdv A outer s H vs Q E hr h=>?_)
  · obtain ⟨v,rfl,_⟩:=h
    rfl
  obtain ⟨v,rfl,ht,q⟩:=h
  refine ⟨_,ak (cZ (lO (dA ju (by rfl) B.isi oa (aq (pv 0) (aq (pY (v:=.ty "list") (by rfl) B.list boot_list rfl) ao)))) uZ cy)
    (ak (cZ (lO (dA ju (by rfl) B.isi oa (aq (pv 0) (aq (pY (v:=.ty "tuple") (by rfl) B.tuple boot_tuple rfl) ao)))) uZ cy)
    (aF (bX (pv 0)))),?_⟩
  have ht:zt v:=ht
  cases v with
  | int i =>
    refine ⟨_,rfl,_,"list",_,false,rfl,.int i,Dz,_,rfl,fV ?_⟩
    refine ⟨_,rfl,_,"tuple",_,false,rfl,.int i,DH,_,rfl,fV ?_⟩
    exact ⟨_,rfl,q _ _ (bM.refl H) rfl⟩
  | str x =>
    refine ⟨_,rfl,_,"list",_,false,rfl,.str x,DG,_,rfl,fV ?_⟩
    refine ⟨_,rfl,_,"tuple",_,false,rfl,.str x,DI,_,rfl,fV ?_⟩
    exact ⟨_,rfl,q _ _ (bM.refl H) rfl⟩
  | non=>exact ht.elim
  | bl b=>exact ht.elim
  | byt b=>exact ht.elim
  | flt b=>exact ht.elim
  | ref a=>exact ht.elim
  | ty a=>exact ht.elim
theorem vE (D:Df K mg "copied" lD ["thing"] f fd) (B:Bl mg):∀ n:Nat,bT P w K mg base CX0 (n + 1) f fd ["thing"] (og n)
  | 0=>yb D B
  | n + 1=>ya D B (vE D B n)
structure MdT (K:af) (mg:Str->Option ae) (CM CS:aa):Prop where
  clM:Cls K CM
  clS:Cls K CS
  nM:eE K CM "machines"
  nB:eE K CS "boxes"
  nQ:eE K CS "queues"
  nD:eE K CS "drawn"
  nS:eE K CS "sent"
  mM:mg "Model"=some (.ref CM)
  mS:mg "State"=some (.ref CS)
def spMI (CM:aa) (n:Nat):Sp:=fun vs H Q _=>∃ (m dx:aa) (v:V),vs=[.ref m,v]/\H m=some (.ins CM dx [])/\Tree H n v/\∀ (v':V) (H':Hp),bM H H'->Alike H (Nw H H') n v v'->Q .non (upd H' m (.ins CM dx (dh "machines" v' [])))
theorem scMI:bV ["self","machines"] ["self","machines"] (aQ lZ):=⟨rfl,rfl,rfl,by decide +kernel,rfl,by decide +kernel,by decide +kernel⟩
theorem ok_MI {n:Nat} (F:Fun K "__init__" "Model.__init__" lZ f fd) (DC:Df K mg "copied" lD ["thing"] fC fdC) (B:Bl mg) (T:MdT K mg CM CS):bT P w K mg base CX0 (n + 2) f fd ["self","machines"] (spMI CM n):=by
  have GC:bT P w K mg base CX0 (n + 1) fC fdC ["thing"] (og n):=vE DC B n
  refine F.ok scMI (fun vs H Q E h=>?_) (fun cdv A outer s H vs Q E hr h=>?_)
  · obtain ⟨m,dx,v,rfl,_⟩:=h
    rfl
  obtain ⟨m,dx,v,rfl,hm,ht,q⟩:=h
  refine ⟨_,aF (e9 (pv 0) (aS GC hr rfl DC.m DC.F.kp DC.b .nil cm (aq (pv 1) ao)) rfl),?_⟩
  refine ⟨_,rfl,v,rfl,ht,fun v' H' s1 al=>?_⟩
  exact ⟨_,rfl,m,CM,dx,[],rfl,s1 _ _ hm,T.clM,T.nM,(by show 0 < 1000; decide),q v' H' s1 al⟩
def me (b q d e:V):List (Str×V):=dh "sent" e (dh "drawn" d (dh "queues" q (dh "boxes" b [])))
def Jb (CS:aa):Sp:=fun vs H Q _=>∃ (m dx:aa) (b q d e:V),vs=[.ref m,b,q,d,e]/\H m=some (.ins CS dx [])/\∀ H':Hp,H' m=some (.ins CS dx (me b q d e))->But m H H'->Q .non H'
theorem scSI:bV ["self","boxes","queues","drawn","sent"] ["self","boxes","queues","drawn","sent"] (aQ iP):=⟨rfl,rfl,rfl,by decide +kernel,rfl,by decide +kernel,by decide +kernel⟩
theorem gx (f:Str) (v:V) (fs:List (Str×V)):(dh f v fs).length<=fs.length + 1:=by
  induction fs with
  | nil=>exact aC _
  | cons p r ih =>
    unfold dh
    split
    · rw [aP,aP]
      omega
    · rw [aP,aP]
      omega
theorem HB (F:Fun K "__init__" "State.__init__" iP f fd) (T:MdT K mg CM CS):bT P w K mg base CX0 1 f fd ["self","boxes","queues","drawn","sent"] (Jb CS):=by
  refine F.ok scSI (fun vs H Q E h=>?_) (fun cdv A outer s H vs Q E hr h=>?_)
  · obtain ⟨m,dx,b,q,d,e,rfl,_⟩:=h
    rfl
  obtain ⟨m,dx,b,q,d,e,rfl,hm,k⟩:=h
  refine ⟨_,ak (e9 (pv 0) (pv 1) rfl) (ak (e9 (pv 0) (pv 2) rfl) (ak (e9 (pv 0) (pv 3) rfl) (aF (e9 (pv 0) (pv 4) rfl)))),?_⟩
  have l1:=gx "boxes" b []
  have l2:=gx "queues" q (dh "boxes" b [])
  have l3:=gx "drawn" d (dh "queues" q (dh "boxes" b []))
  simp only [cM] at l1
  refine ⟨_,rfl,_,rfl,m,CS,dx,[],rfl,hm,T.clS,T.nB,(by show 0 < 1000; decide),_,rfl,_,rfl,m,CS,dx,_,rfl,ah,T.clS,T.nQ,(by omega),_,rfl,_,rfl,m,CS,dx,_,rfl,ah,T.clS,T.nD,(by omega),_,rfl,_,rfl,m,CS,dx,_,rfl,ah,T.clS,T.nS,(by omega),?_⟩
  exact k _ ah (((But.upd m H _).trans (But.upd m _ _)).trans ((But.upd m _ _).trans (But.upd m _ _)))
theorem FJ:bV ["model","at","machine","queues","name"] ["model","at"] (aQ ji):=⟨rfl,rfl,rfl,by decide +kernel,rfl,by decide +kernel,by decide +kernel⟩
end
end My
namespace My
open PySem L2
section
variable {κ:Type} [DecidableEq κ]
abbrev o8 (ps:List (κ×V)) (m:List (κ×V)):List (κ×V):=ps.foldl (fun m p=>iV m p.1 p.2) m
end
theorem oK {H H':Hp} {n:Nat} {a:aa} {xs:List V} {y:V} (ha:H a=some (.lst xs)) (z:Alike H H' (n + 1) (.ref a) y):∃ (a':aa) (ys:List V),y=.ref a'/\H' a'=some (.lst ys)/\aO (Alike H H' n) xs ys:=by
  rcases z with ⟨z,_⟩ | ⟨p,p',xs',ys,e1,e2,h1,h2,r⟩ | ⟨p,p',xs',ys,e1,e2,h1,h2,r⟩
  · exact z.elim
  · cases e1
    rw [ha] at h1
    cases h1
    exact ⟨p',ys,e2,h2,r⟩
  · cases e1
    rw [ha] at h1
    cases h1
theorem rm {H H':Hp} {n:Nat} {a:aa} {xs:List V} {y:V} (ha:H a=some (.tup xs)) (z:Alike H H' (n + 1) (.ref a) y):∃ (a':aa) (ys:List V),y=.ref a'/\H' a'=some (.tup ys)/\aO (Alike H H' n) xs ys:=by
  rcases z with ⟨z,_⟩ | ⟨p,p',xs',ys,e1,e2,h1,h2,r⟩ | ⟨p,p',xs',ys,e1,e2,h1,h2,r⟩
  · exact z.elim
  · cases e1
    rw [ha] at h1
    cases h1
  · cases e1
    rw [ha] at h1
    cases h1
    exact ⟨p',ys,e2,h2,r⟩
theorem eI {H H':Hp} {n:Nat} {v y:V} (hv:zt v) (z:Alike H H' n v y):y=v:=by
  cases n with
  | zero=>exact z
  | succ n =>
    rcases z with ⟨_,z⟩ | ⟨p,p',xs',ys,e1,e2,h1,h2,r⟩ | ⟨p,p',xs',ys,e1,e2,h1,h2,r⟩
    · exact z
    · rw [e1] at hv
      exact hv.elim
    · rw [e1] at hv
      exact hv.elim
theorem hU {H H':Hp} {n:Nat} {xs ys:List V} (r:aO (Alike H H' n) xs ys):(∀ x∈xs,zt x)->ys=xs:=by
  induction r with
  | nil=>exact fun _=>rfl
  | cons a b ih =>
    intro h
    rw [eI (h _ aw) a,ih fun x hx=>h x (ag _ hx)]
def fx (H:Hp) (ps:List (Str×Int)) (vs:List V):Prop:=sR H (ps.map fun p=>(Sum.inr p.1,V.int p.2)) vs
theorem fx.same {H H':Hp} (s:bM H H'):∀ {ps:List (Str×Int)} {vs:List V},fx H ps vs->fx H' ps vs
  | [],_,h=>by
    cases h
    exact .nil
  | p :: ps,_,h=>by
    cases h with
    | cons a b =>
      obtain ⟨t,e,h⟩:=a
      exact .cons ⟨t,e,s _ _ h⟩ (fx.same s (ps:=ps) b)
theorem fx.alike {H H':Hp} {n:Nat}:∀ {ps:List (Str×Int)} {vs ys:List V},fx H ps vs->aO (Alike H H' (n + 1)) vs ys->fx H' ps ys
  | [],_,_,h,r=>by
    cases h
    cases r
    exact .nil
  | p :: ps,_,_,h,r=>by
    cases h with
    | cons a b =>
      cases r with
      | cons r1 r2 =>
        obtain ⟨t,rfl,h⟩:=a
        obtain ⟨t',ys,rfl,h',rr⟩:=rm h r1
        have e:=hU rr (fun x hx=>by
          simp only [au,aR,or_false] at hx
          rcases hx with rfl | rfl
          · exact trivial
          · exact trivial)
        rw [e] at h'
        exact .cons ⟨t',rfl,h'⟩ (fx.alike (ps:=ps) b r2)
theorem fx.length {H:Hp} {ps:List (Str×Int)} {vs:List V} (h:fx H ps vs):ps.length=vs.length:=by
  have z:=aT h
  rw [ar] at z
  exact z
theorem fx.tree {H:Hp} {n:Nat}:∀ {ps:List (Str×Int)} {vs:List V},fx H ps vs->∀ x∈vs,Tree H (n + 1) x
  | [],_,h,x,hx=>by
    cases h
    cases hx
  | p :: ps,_,h,x,hx=>by
    cases h with
    | cons a b =>
      rcases au.mp hx with rfl | hx
      · obtain ⟨t,rfl,h⟩:=a
        refine .inr ⟨t,_,rfl,.inr h,(by show 2 < 1000; decide),fun y hy=>?_⟩
        simp only [au,aR,or_false] at hy
        rcases hy with rfl | rfl
        · cases n <;> first | exact trivial | exact .inl trivial
        · cases n <;> first | exact trivial | exact .inl trivial
      · exact fx.tree (ps:=ps) b x hx
section
variable {P:aM} {w:bH} {K:af} {mg:Str->Option ae} {base:cB} {f fI CM CS:aa} {fd fdI:bY}
abbrev Jc (ps:List (Str×Int)):List (Key×V):=o8 (ps.map fun p=>((Sum.inr p.1:Key),V.int p.2)) []
abbrev quT (qs:List Str) (ls:List aa):List (Key×V):=o8 ((qs.zip ls).map fun p=>((Sum.inr p.1:Key),V.ref p.2)) []
structure New (H H':Hp) (CS st:aa) (ps:List (Str×Int)) (qs:List Str) (dx bd qd:aa) (ls:List aa):Prop where
  hst:H' st=some (.ins CS dx (me (.ref bd) (.ref qd) (.int 0) (.int 0)))
  hbd:H' bd=some (.dK (Jc ps))
  hqd:H' qd=some (.dK (quT qs ls))
  len:ls.length=qs.length
  nd:ls.Nodup
  li:∀ l∈ls,H l=none/\H' l=some (.lst [])
  ost:H st=none
  obd:H bd=none
  oqd:H qd=none
  ne:qd≠bd
  same:bM H H'
def yc (CM CS:aa):Sp:=fun vs H Q _=>∃ (m dx l t b q:aa) (fs:List (Str×V)) (n0 x3 x4:V) (i:Nat) (ms vb:List V) (ps:List (Str×Int)) (qs:List Str),vs=[.ref m,.int (i:Int)]/\H m=some (.ins CM dx fs)/\fs.lookup ("machines":Str)=some (V.ref l) /\
  H l=some (.lst ms)/\ms[i]?=some (.ref t)/\H t=some (.tup [n0,.ref b,.ref q,x3,x4])/\H b=some (.lst vb)/\fx H ps vb/\ps.length<=100/\H q=some (.lst (qs.map V.str))/\qs.length<=100 /\
  ∀ (st dx bd qd:aa) (ls:List aa) (H':Hp),New H H' CS st ps qs dx bd qd ls->Q (.ref st) H'
theorem DJ {α β:Type} {xs:List α} {ys:List β} {i:Nat} {x:α} {y:β} (hl:ys.length=i) (hx:xs[i]?=some x):(xs.take (i + 1)).zip (ys++[y])=(xs.take i).zip ys++[(x,y)]:=by
  have lt:i < xs.length:=(aB.mp hx).1
  have e:xs.take (i + 1)=xs.take i++[x]:=by rw [fi,hx]; rfl
  rw [e,List.zip_append (by rw [cG,hl]; omega)]
  rfl
theorem Bm (D:Df K mg "first_state" ji ["model","at"] f fd) (MS:Mk K CS fI) (FI:Fun K "__init__" "State.__init__" iP fI fdI) (bI:Binds K fdI ["self","boxes","queues","drawn","sent"] []) (B:Bl mg) (T:MdT K mg CM CS) :
    bT P w K mg base CX0 3 f fd ["model","at"] (yc CM CS):=by
  have GI:bT P w K mg base CX0 1 fI fdI ["self","boxes","queues","drawn","sent"] (Jb CS):=HB FI T
  refine D.F.ok FJ (fun vs H Q E h=>?_) (fun cdv A outer s H vs Q E hr h=>?_)
  · obtain ⟨m,dx,l,t,b,q,fs,n0,x3,x4,i,ms,vb,ps,qs,rfl,_⟩:=h
    rfl
  obtain ⟨m,dx,l,t,b,q,fs,n0,x3,x4,i,ms,vb,ps,qs,rfl,hm,hfs,hl,hi,ht,hb,hps,lps,hq,lqs,k⟩:=h
  have hu:=o5 hr
  refine ⟨_,ak (bz (i:=2) FJ.nd rfl (Or.inl rfl) (bZ dZ (cN (pv 0) rfl) (pv 1) (fun _ _=>rfl)))
    (ak (bz (i:=3) FJ.nd rfl (Or.inl rfl) qh)
    (ak (iy cQ rfl (gW (bZ cF (pv 2) ay (fun _ _=>rfl))) (dy (i:=4) FJ.nd rfl (Or.inl rfl)) (aF (lV hu (pv 3) (pv 4) (eT ao) rfl)))
    (aF (bX (oF MS GI hr (by rfl) T.mS bI .nil cm (aq (iC (zg rfl) (by rfl) B.dict boot_dict (aq (bZ cF (pv 2) ay (fun _ _=>rfl)) ao)) (aq (pv 3) (aq ay (aq ay ao))))))))),?_⟩
  refine ⟨_,rfl,m,CM,dx,_,_,rfl,hm,T.clM,T.nM,hfs,_,rfl,l,_,_,_,rfl,rfl,SqL.of hl,jh hi,?_⟩
  intro d hd
  have s1:bM H (upd H d (.dK [])):=aD hd _
  have big:1000 < aA:=by decide
  have a2:atI [n0,V.ref b,V.ref q,x3,x4] 2=some (V.ref q):=rfl
  have a1:atI [n0,V.ref b,V.ref q,x3,x4] 1=some (V.ref b):=rfl
  refine ⟨_,rfl,t,_,_,_,rfl,rfl,SqT.of (s1 _ _ ht),a2,q,rfl,⟨_,SqL.of (s1 _ _ hq)⟩,iL (K:=K) (a:=q) (xs:=qs.map V.str) (fun j σ G=>∃ (v4:Option V) (ls:List aa),σ=[some (.ref m),some (.int (i:Int)),some (.ref t),some (.ref d),v4]/\j<=qs.length/\G d=some (.dK (quT (qs.take j) ls))/\ls.length=j/\ls.Nodup/\(∀ z∈ls,H z=none/\G z=some (.lst []))/\bM H G)
    ⟨none,[],rfl,bj _,ah,rfl,i0,(fun z hz=>by cases hz),s1⟩ ?_ ?_ ?_⟩
  · rintro j σ G _ ⟨v4,ls,rfl,_,_,_,_,_,sm⟩
    exact SqL.of (sm _ _ hq)
  · rintro j x σ G hj ⟨v4,ls,rfl,jl,hG,ll,nd,li,sm⟩
    obtain ⟨nm,hnm,rfl⟩:∃ nm,qs[j]?=some nm/\x=V.str nm:=by
      rw [bQ] at hj
      cases e:qs[j]? with
      | none=>rw [e] at hj; cases hj
      | some nm=>rw [e] at hj; cases hj; exact ⟨nm,rfl,rfl⟩
    have jlt:j < qs.length:=(aB.mp hnm).1
    refine ⟨bj _,fun z hz=>?_⟩
    have nzd:d≠z:=aG hG hz
    have hG':upd G z (.lst []) d=some (.dK (quT (qs.take j) ls)):=by rw [aJ nzd]; exact hG
    have lt:(quT (qs.take j) ls).length < aA:=by
      have q1:=xZ ((((qs.take j).zip ls).map fun p=>((Sum.inr p.1:Key),V.ref p.2))) []
      rw [ar,oh,cG] at q1
      simp only [cM] at q1
      exact iO q1 (by omega)
    refine ⟨_,rfl,_,rfl,d,_,rfl,sj.k (k:=Sum.inr nm) hG' lt,?_⟩
    have fz:H z=none:=sm.free hz
    have nin:z∉ls:=fun c=>by
      have q1:=(li z c).2
      rw [hz] at q1
      cases q1
    refine ⟨_,ls++[z],rfl,jlt,?_,by rw [aE,ll]; rfl,Aa nd nin,fun y hy=>?_,?_⟩
    · show upd _ d _ d=_
      rw [ah]
      show some (HO.dK (iV (quT (qs.take j) ls) (Sum.inr nm) (.ref z)))=some (HO.dK (quT (qs.take (j + 1)) (ls++[z])))
      unfold quT
      rw [DJ ll hnm,cA]
      unfold o8
      rw [DK]
      rfl
    · rcases cq.mp hy with c | c
      · obtain ⟨c1,c2⟩:=li y c
        refine ⟨c1,?_⟩
        rw [aJ (kT c2 hG (by intro e; cases e)),aJ (aG c2 hz)]
        exact c2
      · rw [aH.mp c]
        refine ⟨fz,?_⟩
        rw [aJ nzd.symm]
        exact ah
    · intro c o hc
      have c2:=sm _ _ hc
      have cd:c≠d:=aG hc hd
      rw [aJ cd,aJ (aG c2 hz)]
      exact c2
  · rintro σ G ⟨v4,ls,rfl,jl,hG,ll,nd,li,sm⟩
    rw [ar] at ll hG
    rw [dG] at hG
    refine ⟨_,rfl,t,_,_,_,rfl,rfl,SqT.of (sm _ _ ht),a1,b,vb,_,rfl,sm _ _ hb,fx.same sm hps,by rw [ar]; omega,fun e he=>?_⟩
    have s2:bM G (upd G e (.dK (Jc ps))):=aD he _
    refine ⟨_,rfl,?_⟩
    intro x dx' nx ndx nex
    refine ⟨x,dx',_,_,_,_,rfl,ah,fun H' hx bt=>⟨rfl,k x dx' e d ls H' ?_⟩⟩
    have up:∀ {c:aa} {o:HO},upd G e (.dK (Jc ps)) c=some o->H' c=some o:=fun {c o} hc=>by
      have cx:c≠x:=aG hc nx
      refine bt c o ?_ cx
      rw [aJ cx,aJ (aG hc ndx)]
      exact hc
    exact ⟨hx,up ah,up (s2 _ _ hG),ll,nd,fun z hz=>⟨(li z hz).1,up (s2 _ _ (li z hz).2)⟩,sm.free (s2.free nx),sm.free he,hd,aG hG he,fun c o hc=>up (s2 _ _ (sm _ _ hc))⟩
end
end My
namespace My
open PySem L2
section
variable {κ:Type} [DecidableEq κ]
theorem zu:∀ (ps m:List (κ×V)),((m++ps).map (·.1)).Nodup->o8 ps m=m++ps
  | [],m,_=>by simp [o8]
  | p :: r,m,h=>by
    have nk:kf m p.1=none:=by
      cases e:kf m p.1 with
      | none=>rfl
      | some v =>
        exfalso
        rw [cA,bR] at h
        exact (gS.mp h).2.2 p.1 (Fh e) p.1 aw rfl
    show o8 r (iV m p.1 p.2)=_
    rw [CW p.2 nk,zu r (m++[(p.1,p.2)]) (by rw [i5]; exact h),i5]
    rfl
end
theorem fx.tups {H H':Hp} (s:∀ t xs,H t=some (.tup xs)->H' t=some (.tup xs)):∀ {ps:List (Str×Int)} {vs:List V},fx H ps vs->fx H' ps vs
  | [],_,h=>by
    cases h
    exact .nil
  | p :: ps,_,h=>by
    cases h with
    | cons a b =>
      obtain ⟨t,e,h⟩:=a
      exact .cons ⟨t,e,s _ _ h⟩ (fx.tups s (ps:=ps) b)
end My
namespace My
open PySem L2
def Al:List Str:=["plus","less","times","part","rest","below","same"]
inductive Fm where
  | num (n:Int)
  | box (x:Str)
  | long (x:Str)
  | got (j:Bool)
  | now
  | two (k:Str) (f g:Fm)
def Fm.depth:Fm->Nat
  | .two _ f g=>max f.depth g.depth + 1
  | _=>1
inductive Rs where
  | ok (r:Int)
  | nought
  | great
def yd (k:Str) (a b:Int):Rs:=
  if k="plus" then .ok (a + b) else if k="less" then .ok (a - b) else if k="times" then .ok (a * b) else if k="below" then .ok (if a < b then 1 else 0)
  else if k="same" then .ok (if a=b then 1 else 0) else if b=0 then .nought else if k="part" then .ok (a.fdiv b) else .ok (a.fmod b)
def qz (r:Int):Int:=if r < 0 then -r else r
def cap:Rs->Rs
  | .ok r=>if 10 ^ 15 < qz r then .great else .ok r
  | .nought=>.nought
  | .great=>.great
structure wL where
  bx:Str->Int
  lg:Str->Nat
  g0:Int
  g1:Int
  nw:Int
def ev (e:wL):Fm->Rs
  | .num n=>.ok n
  | .box x=>.ok (e.bx x)
  | .long x=>.ok (e.lg x)
  | .got j=>.ok (if j then e.g1 else e.g0)
  | .now=>.ok e.nw
  | .two k f g=>match ev e f with
    | .ok a=>(match ev e g with
      | .ok b=>cap (yd k a b)
      | .nought=>.nought
      | .great=>.great)
    | .nought=>.nought
    | .great=>.great
def Wo (a:Int):Prop:=-(10 ^ 15)<=a/\a<=10 ^ 15
structure wL.Ok (e:wL) (bs qs:List Str):Prop where
  bx:∀ x∈bs,Wo (e.bx x)
  lg:∀ x∈qs,e.lg x<=1000
  g0:Wo e.g0
  g1:Wo e.g1
  nw:Wo e.nw
inductive gG (bs qs:List Str) (H:Hp):V->Fm->Prop where
  | num {t:aa} {n:Int}:H t=some (.tup [.str "number",.int n])->Wo n->gG bs qs H (.ref t) (.num n)
  | box {t:aa} {x:Str}:H t=some (.tup [.str "box",.str x])->x∈bs->gG bs qs H (.ref t) (.box x)
  | long {t:aa} {x:Str}:H t=some (.tup [.str "long",.str x])->x∈qs->gG bs qs H (.ref t) (.long x)
  | got {t:aa} {j:Bool}:H t=some (.tup [.str "got",.int (if j then 1 else 0)])->gG bs qs H (.ref t) (.got j)
  | now {t:aa}:H t=some (.tup [.str "now"])->gG bs qs H (.ref t) .now
  | two {t:aa} {k:Str} {u v:V} {f g:Fm}:H t=some (.tup [.str k,u,v])->k∈Al->gG bs qs H u f->gG bs qs H v g->gG bs qs H (.ref t) (.two k f g)
theorem gG.mono {bs qs:List Str} {H H':Hp} {v:V} {f:Fm} (h:gG bs qs H v f) (s:∀ t xs,H t=some (.tup xs)->H' t=some (.tup xs)):gG bs qs H' v f:=by
  induction h with
  | num h1 h2=>exact .num (s _ _ h1) h2
  | box h1 h2=>exact .box (s _ _ h1) h2
  | long h1 h2=>exact .long (s _ _ h1) h2
  | got h1=>exact .got (s _ _ h1)
  | now h1=>exact .now (s _ _ h1)
  | two h1 h2 _ _ i1 i2=>exact .two (s _ _ h1) h2 i1 i2
theorem gG.same {bs qs:List Str} {H H':Hp} {v:V} {f:Fm} (h:gG bs qs H v f) (s:bM H H'):gG bs qs H' v f:=h.mono fun _ _ e=>s _ _ e
theorem DQ {r:Int} (h:¬ 10 ^ 15 < qz r):Wo r:=by
  unfold qz at h
  unfold Wo
  split at h <;> omega
theorem DV {r:Int} (h:Wo r):¬ 10 ^ 15 < qz r:=by
  unfold Wo at h
  unfold qz
  split <;> omega
theorem Jd {x:Rs} {r:Int} (h:cap x=.ok r):Wo r:=by
  cases x with
  | ok y =>
    unfold cap at h
    dsimp only at h
    by_cases c:10 ^ 15 < qz y
    · rw [if_pos c] at h
      cases h
    · rw [if_neg c] at h
      cases h
      exact DQ c
  | nought=>cases h
  | great=>cases h
theorem lg_wo {n:Nat} (h:n<=1000):Wo (n:Int):=by
  unfold Wo
  omega
theorem rW {bs qs:List Str} {H:Hp} {e:wL} (ok:e.Ok bs qs) {v:V} {f:Fm} (h:gG bs qs H v f):∀ {r:Int},ev e f=.ok r->Wo r:=by
  induction h with
  | num h1 h2 =>
    intro r q
    unfold ev at q
    cases q
    exact h2
  | box h1 h2 =>
    intro r q
    unfold ev at q
    cases q
    exact ok.bx _ h2
  | long h1 h2 =>
    intro r q
    unfold ev at q
    cases q
    exact lg_wo (ok.lg _ h2)
  | @got t j h1 =>
    intro r q
    unfold ev at q
    cases q
    cases j
    · exact ok.g0
    · exact ok.g1
  | now h1 =>
    intro r q
    unfold ev at q
    cases q
    exact ok.nw
  | @two t k u v f g h1 h2 _ _ i1 i2 =>
    intro r q
    unfold ev at q
    cases e1:ev e f with
    | ok a =>
      rw [e1] at q
      cases e2:ev e g with
      | ok b =>
        rw [e2] at q
        exact Jd q
      | nought=>rw [e2] at q; cases q
      | great=>rw [e2] at q; cases q
    | nought=>rw [e1] at q; cases q
    | great=>rw [e1] at q; cases q
def vF (CN CG:aa) (r:Rs) (Q:VK) (E:XK) (H:Hp):Prop:=match r with
  | .ok r=>Q (.int r) H
  | .nought=>E (.ref CN) none H
  | .great=>E (.ref CG) none H
section
variable {P:aM} {w:bH} {K:af} {mg:Str->Option ae} {base:cB} {f fD fT fL CN CG CM CS:aa} {fd fdD fdT fdL:bY}
structure Fts (K:af) (mg:Str->Option ae) (CN CG:aa):Prop where
  mN:mg "Nought"=some (.ref CN)
  mG:mg "Great"=some (.ref CG)
  xN:dD K CN pB "ValueError.__new__"=true
  xG:dD K CG pB "ValueError.__new__"=true
  nn:c5 K (.ref CN) (.ref CN)=some true
  gn:c5 K (.ref CG) (.ref CN)=some false
  gg:c5 K (.ref CG) (.ref CG)=some true
def HC (CN:aa):Sp:=fun vs H Q E=>∃ (k:Str) (a b:Int),vs=[.str k,.int a,.int b]/\Wo b/\(b=0->E (.ref CN) none H)/\(¬ b=0->k="part"->Q (.int (a.fdiv b)) H)/\(¬ b=0->¬ k="part"->Q (.int (a.fmod b)) H)
theorem scDv:bV ["kind","first","second"] ["kind","first","second"] (aQ dQ):=⟨rfl,rfl,rfl,by decide +kernel,rfl,by decide +kernel,by decide +kernel⟩
theorem wM {a b:Int} (h:V.int a=V.int b):a=b:=V.int.inj h
theorem rn {a b:Str} (h:V.str a=V.str b):a=b:=V.str.inj h
theorem Je (D:Df K mg "number_of_division" dQ ["kind","first","second"] f fd) (T:Fts K mg CN CG):bT P w K mg base (CXo P w) 1 f fd ["kind","first","second"] (HC CN):=by
  refine D.F.okX scDv (fun vs H Q E h=>?_) (fun cdv A outer s H vs Q E hr h=>?_)
  · obtain ⟨k,a,b,rfl,_⟩:=h
    rfl
  obtain ⟨k,a,b,rfl,hb,h1,h2,h3⟩:=h
  refine ⟨_,ak (cZ (cu ff (pv 2) ay (cE _)) (aF (jR dN rfl rfl T.mN T.xN (aq bU ao))) cy)
    (ak (cZ (cu ff (pv 0) bU (cE _)) (aF (bX (cP C4 (pv 1) (pv 2)))) cy)
    (aF (bX (cP E5 (pv 1) (pv 2))))),?_⟩
  refine ⟨_,rfl,rfl,_,rfl,?_⟩
  refine jt (fun c=>?_) (fun c=>?_)
  · exact ⟨(by show 1<=aA; decide),h1 (wM (jv c))⟩
  · have nb:¬ b=0:=fun z=>jF c (by rw [z])
    refine ⟨_,rfl,rfl,_,rfl,?_⟩
    refine jt (fun c2=>?_) (fun c2=>?_)
    · refine ⟨_,rfl,_,rfl,_,_,rfl,rfl,⟨nb,?_⟩,h2 nb (rn (jv c2))⟩
      unfold Wo at hb
      omega
    · exact ⟨_,rfl,_,rfl,_,_,rfl,rfl,nb,h3 nb (fun z=>jF c2 (by rw [z]))⟩
def HD (CN CG:aa):Sp:=fun vs H Q E=>∃ (k:Str) (a b:Int),vs=[.str k,.int a,.int b]/\Wo a/\Wo b/\vF CN CG (yd k a b) Q E H
theorem scTw:bV ["kind","first","second"] ["kind","first","second"] (aQ gk):=⟨rfl,rfl,rfl,by decide +kernel,rfl,by decide +kernel,by decide +kernel⟩
theorem Jf (D:Df K mg "number_of_two" gk ["kind","first","second"] f fd) (DD:Df K mg "number_of_division" dQ ["kind","first","second"] fD fdD) (T:Fts K mg CN CG) :
    bT P w K mg base (CXo P w) 2 f fd ["kind","first","second"] (HD CN CG):=by
  have GD:bT P w K mg base (CXo P w) 1 fD fdD ["kind","first","second"] (HC CN):=Je DD T
  refine D.F.okX scTw (fun vs H Q E h=>?_) (fun cdv A outer s H vs Q E hr h=>?_)
  · obtain ⟨k,a,b,rfl,_⟩:=h
    rfl
  obtain ⟨k,a,b,rfl,ha,hb,h⟩:=h
  unfold yd at h
  refine ⟨_,ak (cZ (cu ff (pv 0) bU (cE _)) (aF (bX (cP fJ (pv 1) (pv 2)))) cy)
    (ak (cZ (cu ff (pv 0) bU (cE _)) (aF (bX (cP pf (pv 1) (pv 2)))) cy)
    (ak (cZ (cu ff (pv 0) bU (cE _)) (aF (bX (cP qQ (pv 1) (pv 2)))) cy)
    (ak (cZ (cu ff (pv 0) bU (cE _)) (aF (bX (pZ (cu tI (pv 1) (pv 2) (cE _)) ay ay))) cy)
    (ak (cZ (cu ff (pv 0) bU (cE _)) (aF (bX (pZ (cu ff (pv 1) (pv 2) (cE _)) ay ay))) cy)
    (aF (bX (aS GD hr rfl DD.m DD.F.kp DD.b .nil (dN.passes fun _ _ _ z=>z) (aq (pv 0) (aq (pv 1) (aq (pv 2) ao)))))))))),?_⟩
  refine ⟨_,rfl,rfl,_,rfl,jt (fun c=>?_) (fun c=>?_)⟩
  · rw [if_pos (rn (jv c))] at h
    exact ⟨_,rfl,_,rfl,_,_,rfl,rfl,h⟩
  rw [if_neg fun z=>jF c (by rw [z])] at h
  refine ⟨_,rfl,rfl,_,rfl,jt (fun c=>?_) (fun c=>?_)⟩
  · rw [if_pos (rn (jv c))] at h
    exact ⟨_,rfl,_,rfl,_,_,rfl,rfl,h⟩
  rw [if_neg fun z=>jF c (by rw [z])] at h
  refine ⟨_,rfl,rfl,_,rfl,jt (fun c=>?_) (fun c=>?_)⟩
  · rw [if_pos (rn (jv c))] at h
    refine ⟨_,rfl,_,rfl,_,_,rfl,rfl,.inl ⟨?_,?_⟩,h⟩
    · unfold Wo at ha; omega
    · unfold Wo at ha; omega
  rw [if_neg fun z=>jF c (by rw [z])] at h
  refine ⟨_,rfl,rfl,_,rfl,jt (fun c=>?_) (fun c=>?_)⟩
  · rw [if_pos (rn (jv c))] at h
    refine ⟨_,rfl,_,rfl,_,_,rfl,rfl,_,rfl,jt (fun c2=>?_) (fun c2=>?_)⟩
    · rw [if_pos (jv c2)] at h
      exact h
    · rw [if_neg (jF c2)] at h
      exact h
  rw [if_neg fun z=>jF c (by rw [z])] at h
  refine ⟨_,rfl,rfl,_,rfl,jt (fun c=>?_) (fun c=>?_)⟩
  · rw [if_pos (rn (jv c))] at h
    refine ⟨_,rfl,_,rfl,rfl,_,rfl,jt (fun c2=>?_) (fun c2=>?_)⟩
    · rw [if_pos (wM (jv c2))] at h
      exact h
    · rw [if_neg fun z=>jF c2 (by rw [z])] at h
      exact h
  rw [if_neg fun z=>jF c (by rw [z])] at h
  refine ⟨_,rfl,_,rfl,_,rfl,k,a,b,rfl,hb,fun z=>?_,fun z1 z2=>?_,fun z1 z2=>?_⟩
  · rw [if_pos z] at h
    exact h
  · rw [if_neg z1,if_pos z2] at h
    exact h
  · rw [if_neg z1,if_neg z2] at h
    exact h
structure Holds (K:af) (CS:aa) (bs qs:List Str) (H:Hp) (st gl:aa) (e:wL):Prop where
  ex:∃ (dx bd qd:aa) (fs:List (Str×V)) (bk qk:List (Key×V)),H st=some (.ins CS dx fs)/\fs.lookup ("boxes":Str)=some (.ref bd)/\fs.lookup ("queues":Str)=some (.ref qd)/\H bd=some (.dK bk)/\H qd=some (.dK qk) /\
    (∀ x∈bs,kf bk (Sum.inr x)=some (.int (e.bx x)))/\(∀ x∈qs,∃ l xs,kf qk (Sum.inr x)=some (.ref l)/\H l=some (.lst xs)/\xs.length=e.lg x)
  hgl:H gl=some (.lst [.int e.g0,.int e.g1])
def DX (K:af) (CS:aa) (bs qs:List Str):Sp:=fun vs H Q _=>∃ (v:V) (F:Fm) (st gl:aa) (e:wL),vs=[v,.ref st,.int e.nw,.ref gl]/\gG bs qs H v F/\F.depth<=1/\Holds K CS bs qs H st gl e/\∀ r,ev e F=.ok r->Q (.int r) H
theorem scLf:bV ["formula","state","now","got","kind"] ["formula","state","now","got"] (aQ fy):=⟨rfl,rfl,rfl,by decide +kernel,rfl,by decide +kernel,by decide +kernel⟩
theorem DY:¬ (("box":Str)="number")/\¬ (("long":Str)="number")/\¬ (("long":Str)="box")/\¬ (("got":Str)="number")/\¬ (("got":Str)="box")/\¬ (("got":Str)="long")/\¬ (("now":Str)="number")/\¬ (("now":Str)="box")/\¬ (("now":Str)="long")/\¬ (("now":Str)="got"):=by decide +kernel
theorem sF {a b:Str} (h:¬ a=b):decide (V.str a=V.str b)=false:=decide_eq_false fun z=>h (V.str.inj z)
theorem Bn (a:Str):decide (V.str a=V.str a)=true:=decide_eq_true rfl
theorem lG {c:Bool} {b:Bool} {p q:Prop} (h:c=b) (t:if b=true then p else q):if c=true then p else q:=by
  rw [h]
  exact t
theorem FK {bs qs:List Str} (D:Df K mg "number_of_leaf" fy ["formula","state","now","got"] f fd) (T:MdT K mg CM CS) (B:Bl mg):bT P w K mg base CX0 1 f fd ["formula","state","now","got"] (DX K CS bs qs):=by
  refine D.F.ok scLf (fun vs H Q E h=>?_) (fun cdv A outer s H vs Q E hr h=>?_)
  · obtain ⟨v,F,st,gl,e,rfl,_⟩:=h
    rfl
  obtain ⟨v,F,st,gl,e,rfl,hF,hd,⟨⟨dx,bd,qd,fs,bk,qk,h1,h2,h3,h4,h5,h6,h7⟩,h8⟩,q⟩:=h
  have hu:=o5 hr
  refine ⟨_,ak (bz (i:=4) scLf.nd rfl (Or.inl rfl) (bZ cF (pv 0) ay (fun _ _=>rfl)))
    (ak (cZ (cu ff (pv 4) bU (cE _)) (aF (bX (bZ cF (pv 0) ay (fun _ _=>rfl)))) cy)
    (ak (cZ (cu ff (pv 4) bU (cE _)) (aF (bX (qg hu (cN (pv 1) rfl) (bZ cF (pv 0) ay (fun _ _=>rfl)) (fun _ _=>rfl)))) cy)
    (ak (cZ (cu ff (pv 4) bU (cE _)) (aF (bX (dA gY (by rfl) B.len cI (aq (qg hu (cN (pv 1) rfl) (bZ cF (pv 0) ay (fun _ _=>rfl)) (fun _ _=>rfl)) ao)))) cy)
    (ak (cZ (cu ff (pv 4) bU (cE _)) (aF (bX (bZ dZ (pv 3) (bZ cF (pv 0) ay (fun _ _=>rfl)) (fun _ _=>rfl)))) cy)
    (aF (bX (pv 2))))))),?_⟩
  obtain ⟨k1,k2,k3,k4,k5,k6,k7,k8,k9,k10⟩:=DY
  cases hF with
  | @num t n ht hn =>
    refine ⟨_,rfl,t,_,_,_,rfl,rfl,SqT.of ht,rfl,_,rfl,rfl,_,rfl,lG (Bn _) (gF ?_)⟩
    exact ⟨_,rfl,t,_,_,_,rfl,rfl,SqT.of ht,rfl,q _ rfl⟩
  | @box t x ht hx =>
    refine ⟨_,rfl,t,_,_,_,rfl,rfl,SqT.of ht,rfl,_,rfl,rfl,_,rfl,lG (sF k1) (fV ?_)⟩
    refine ⟨_,rfl,rfl,_,rfl,lG (Bn _) (gF ?_)⟩
    exact ⟨_,rfl,st,CS,dx,_,_,rfl,h1,T.clS,T.nB,h2,_,rfl,t,_,_,_,rfl,rfl,SqT.of ht,rfl,bd,_,rfl,(by have z:=qf.k (k:=Sum.inr x) h4; rw [h6 x hx] at z; exact z),q _ rfl⟩
  | @long t x ht hx =>
    obtain ⟨l,xs,g1,g2,g3⟩:=h7 x hx
    refine ⟨_,rfl,t,_,_,_,rfl,rfl,SqT.of ht,rfl,_,rfl,rfl,_,rfl,lG (sF k2) (fV ?_)⟩
    refine ⟨_,rfl,rfl,_,rfl,lG (sF k3) (fV ?_)⟩
    refine ⟨_,rfl,rfl,_,rfl,lG (Bn _) (gF ?_)⟩
    exact ⟨_,rfl,st,CS,dx,_,_,rfl,h1,T.clS,T.nQ,h3,_,rfl,t,_,_,_,rfl,rfl,SqT.of ht,rfl,qd,_,rfl,(by have z:=qf.k (k:=Sum.inr x) h5; rw [g1] at z; exact z),l,xs,rfl,.inl (SqL.of g2),q _ (by rw [g3]; rfl)⟩
  | @got t j ht =>
    refine ⟨_,rfl,t,_,_,_,rfl,rfl,SqT.of ht,rfl,_,rfl,rfl,_,rfl,lG (sF k4) (fV ?_)⟩
    refine ⟨_,rfl,rfl,_,rfl,lG (sF k5) (fV ?_)⟩
    refine ⟨_,rfl,rfl,_,rfl,lG (sF k6) (fV ?_)⟩
    refine ⟨_,rfl,rfl,_,rfl,lG (Bn _) (gF ?_)⟩
    cases j
    · exact ⟨_,rfl,_,rfl,t,_,_,_,rfl,rfl,SqT.of ht,rfl,gl,_,_,_,rfl,rfl,SqL.of h8,rfl,q _ rfl⟩
    · exact ⟨_,rfl,_,rfl,t,_,_,_,rfl,rfl,SqT.of ht,rfl,gl,_,_,_,rfl,rfl,SqL.of h8,rfl,q _ rfl⟩
  | @now t ht =>
    refine ⟨_,rfl,t,_,_,_,rfl,rfl,SqT.of ht,rfl,_,rfl,rfl,_,rfl,lG (sF k7) (fV ?_)⟩
    refine ⟨_,rfl,rfl,_,rfl,lG (sF k8) (fV ?_)⟩
    refine ⟨_,rfl,rfl,_,rfl,lG (sF k9) (fV ?_)⟩
    refine ⟨_,rfl,rfl,_,rfl,lG (sF k10) (fV ?_)⟩
    exact ⟨_,rfl,q _ rfl⟩
  | @two t k u v f1 f2 ht hk h1 h2 =>
    have z1:0 < f1.depth:=by cases f1 <;> exact je _
    unfold Fm.depth at hd
    omega
def DZ (K:af) (CS CN CG:aa) (bs qs:List Str) (n:Nat):Sp:=fun vs H Q E=>∃ (v:V) (F:Fm) (st gl:aa) (e:wL),vs=[v,.ref st,.int e.nw,.ref gl]/\gG bs qs H v F/\F.depth<=n/\Holds K CS bs qs H st gl e/\e.Ok bs qs/\vF CN CG (ev e F) Q E H
theorem D0:bV ["formula","state","now","got","first","second","number"] ["formula","state","now","got"] (aQ jV):=⟨rfl,rfl,rfl,by decide +kernel,rfl,by decide +kernel,by decide +kernel⟩
theorem FL {bs qs:List Str} {H:Hp} {v:V} {F:Fm} (h:gG bs qs H v F):(∃ t xs,v=.ref t/\H t=some (.tup xs)/\¬ (xs.length:Int)=3/\F.depth<=1/\∀ e:wL,∃ r,ev e F=.ok r) \/
    ∃ t k u w f g,v=.ref t/\F=.two k f g/\H t=some (.tup [.str k,u,w])/\k∈Al/\gG bs qs H u f/\gG bs qs H w g:=by
  cases h with
  | num h1 h2=>exact .inl ⟨_,_,rfl,h1,by show ¬ ((2:Nat):Int)=3; decide,aC _,fun e=>⟨_,rfl⟩⟩
  | box h1 h2=>exact .inl ⟨_,_,rfl,h1,by show ¬ ((2:Nat):Int)=3; decide,aC _,fun e=>⟨_,rfl⟩⟩
  | long h1 h2=>exact .inl ⟨_,_,rfl,h1,by show ¬ ((2:Nat):Int)=3; decide,aC _,fun e=>⟨_,rfl⟩⟩
  | got h1=>exact .inl ⟨_,_,rfl,h1,by show ¬ ((2:Nat):Int)=3; decide,aC _,fun e=>⟨_,rfl⟩⟩
  | now h1=>exact .inl ⟨_,_,rfl,h1,by show ¬ ((1:Nat):Int)=3; decide,aC _,fun e=>⟨_,rfl⟩⟩
  | two h1 h2 h3 h4=>exact .inr ⟨_,_,_,_,_,_,rfl,rfl,h1,h2,h3,h4⟩
theorem FM {bs qs:List Str} {n:Nat} (D:Df K mg "worth_of" jV ["formula","state","now","got"] f fd) (DT:Df K mg "number_of_two" gk ["kind","first","second"] fT fdT) (DD:Df K mg "number_of_division" dQ ["kind","first","second"] fD fdD)
    (DL:Df K mg "number_of_leaf" fy ["formula","state","now","got"] fL fdL) (T:Fts K mg CN CG) (TM:MdT K mg CM CS) (B:Bl mg) (G:bT P w K mg base (CXo P w) (n + 2) f fd ["formula","state","now","got"] (DZ K CS CN CG bs qs n)) :
    bT P w K mg base (CXo P w) (n + 3) f fd ["formula","state","now","got"] (DZ K CS CN CG bs qs (n + 1)):=by
  have GT:bT P w K mg base (CXo P w) 2 fT fdT ["kind","first","second"] (HD CN CG):=Jf DT DD T
  have GL:bT P w K mg base CX0 1 fL fdL ["formula","state","now","got"] (DX K CS bs qs):=FK DL TM B
  refine D.F.okX D0 (fun vs H Q E h=>?_) (fun cdv A outer s H vs Q E hr h=>?_)
  · obtain ⟨v,F,st,gl,e,rfl,_⟩:=h
    rfl
  obtain ⟨v,F,st,gl,e,rfl,hF,hd,ho,eo,h⟩:=h
  have r2:dP 2 _:=hr.mono (by omega)
  have r1:dP 1 _:=hr.mono (by omega)
  refine ⟨_,ak (cZ (cu ff (dA gY (by rfl) B.len cI (aq (pv 0) ao)) ay (cE _))
      (ak (bz (i:=4) D0.nd rfl (Or.inl rfl) (aS G hr rfl D.m D.F.kp D.b .nil (dN.passes fun _ _ _ z=>z) (aq (bZ cF (pv 0) ay (fun _ _=>rfl)) (aq (pv 1) (aq (pv 2) (aq (pv 3) ao))))))
      (ak (bz (i:=5) D0.nd rfl (Or.inl rfl) (aS G hr rfl D.m D.F.kp D.b .nil (dN.passes fun _ _ _ z=>z) (aq (bZ cF (pv 0) ay (fun _ _=>rfl)) (aq (pv 1) (aq (pv 2) (aq (pv 3) ao))))))
      (aF (bz (i:=6) D0.nd rfl (Or.inl rfl) (aS GT r2 rfl DT.m DT.F.kp DT.b .nil (dN.passes fun _ _ _ z=>z) (aq (bZ cF (pv 0) ay (fun _ _=>rfl)) (aq (pv 4) (aq (pv 5) ao))))))))
      (aF (bz (i:=6) D0.nd rfl (Or.inl rfl) (aS GL r1 rfl DL.m DL.F.kp DL.b .nil cm (aq (pv 0) (aq (pv 1) (aq (pv 2) (aq (pv 3) ao))))))))
    (ak (cZ (cu tJ (dA xH (by rfl) B.abs boot_abs (aq (pv 6) ao)) (cP vY ay ay) (cE _)) (aF (jR dN rfl rfl T.mG T.xG (aq bU ao))) cy)
    (aF (bX (pv 6)))),?_⟩
  have c15:Cg 10 15:=⟨by decide,by decide,by decide⟩
  have l1:1<=aA:=by decide
  rcases FL hF with ⟨t,xs,rfl,ht,hx,hd1,hv⟩ | ⟨t,k,u,v',f1,f2,rfl,rfl,ht,hk,h1,h2⟩
  · obtain ⟨r,hr'⟩:=hv e
    refine ⟨_,rfl,t,_,rfl,.inr (SqT.of ht),rfl,_,rfl,jt (fun c=>absurd (wM (jv c)) hx) (fun c=>?_)⟩
    refine ⟨_,rfl,_,rfl,_,rfl,_,rfl,.ref t,F,st,gl,e,rfl,hF,hd1,ho,fun r' hr2=>?_⟩
    refine ⟨_,rfl,_,rfl,_,_,rfl,rfl,c15,_,_,rfl,rfl,_,rfl,jt (fun c=>?_) (fun c=>?_)⟩
    · exact absurd (jv c) (DV (rW eo hF hr2))
    · rw [hr2] at h
      exact ⟨_,rfl,h⟩
  · have d1:f1.depth<=n:=by
      unfold Fm.depth at hd
      omega
    have d2:f2.depth<=n:=by
      unfold Fm.depth at hd
      omega
    refine ⟨_,rfl,t,_,rfl,.inr (SqT.of ht),rfl,_,rfl,jt (fun c=>?_) (fun c=>absurd rfl (jF c))⟩
    refine ⟨_,rfl,t,_,_,_,rfl,rfl,SqT.of ht,rfl,_,rfl,_,rfl,_,rfl,u,f1,st,gl,e,rfl,h1,d1,ho,eo,?_⟩
    unfold ev at h
    cases e1:ev e f1 with
    | nought=>rw [e1] at h; exact h
    | great=>rw [e1] at h; exact h
    | ok a =>
      rw [e1] at h
      refine ⟨_,rfl,t,_,_,_,rfl,rfl,SqT.of ht,rfl,_,rfl,_,rfl,_,rfl,v',f2,st,gl,e,rfl,h2,d2,ho,eo,?_⟩
      cases e2:ev e f2 with
      | nought=>rw [e2] at h; exact h
      | great=>rw [e2] at h; exact h
      | ok b =>
        rw [e2] at h
        have h:vF CN CG (cap (yd k a b)) Q E H:=h
        refine ⟨_,rfl,t,_,_,_,rfl,rfl,SqT.of ht,rfl,_,rfl,_,rfl,k,a,b,rfl,rW eo h1 e1,rW eo h2 e2,?_⟩
        cases e3:yd k a b with
        | nought=>rw [e3] at h; exact h
        | great=>rw [e3] at h; exact h
        | ok r =>
          rw [e3] at h
          have h':vF CN CG (if 10 ^ 15 < qz r then .great else .ok r) Q E H:=h
          refine ⟨_,rfl,_,rfl,_,_,rfl,rfl,c15,_,_,rfl,rfl,_,rfl,jt (fun c=>?_) (fun c=>?_)⟩
          · rw [if_pos (show 10 ^ 15 < qz r from jv c)] at h'
            exact ⟨l1,h'⟩
          · rw [if_neg (show ¬ 10 ^ 15 < qz r from jF c)] at h'
            exact ⟨_,rfl,h'⟩
theorem Bo (F:Fm):0 < F.depth:=by cases F <;> exact je _
theorem HE {bs qs:List Str} (D:Df K mg "worth_of" jV ["formula","state","now","got"] f fd) (DT:Df K mg "number_of_two" gk ["kind","first","second"] fT fdT) (DD:Df K mg "number_of_division" dQ ["kind","first","second"] fD fdD)
    (DL:Df K mg "number_of_leaf" fy ["formula","state","now","got"] fL fdL) (T:Fts K mg CN CG) (TM:MdT K mg CM CS) (B:Bl mg):∀ n:Nat,bT P w K mg base (CXo P w) (n + 2) f fd ["formula","state","now","got"] (DZ K CS CN CG bs qs n)
  | 0=>by
    have no:∀ vs H Q E,¬ DZ K CS CN CG bs qs 0 vs H Q E:=fun vs H Q E h=>by
      obtain ⟨v,F,st,gl,e,_,_,hd,_⟩:=h
      have:=Bo F
      omega
    exact ⟨fun vs H Q E h=>absurd h (no vs H Q E),fun A outer s H args us vs Q E _ _ _ _ h=>absurd h (no vs H Q E)⟩
  | n + 1=>FM D DT DD DL T TM B (HE D DT DD DL T TM B n)
end
end My
namespace My
open PySem L2
mutual
inductive Dd where
  | put (x:Str) (f:Fm)
  | push (q:Str) (f:Fm)
  | pull (q x:Str) (o:Ds)
  | draw (x:Str) (f:Fm)
  | send (to:Int) (sg:Str) (sp:Fm) (rk:Int) (a b:Fm)
  | ife (f:Fm) (t e:Ds)
  | fin
inductive Ds where
  | nil
  | cons (d:Dd) (r:Ds)
end
inductive Flt where
  | nought
  | great
  | full
  | dry
  | span
  | late
structure Ev where
  t:Int
  r:Int
  fr:Int
  c:Int
  to:Int
  sg:Str
  a:Int
  b:Int
structure Wk where
  bx:List (Str×Int)
  qu:List (Str×List Int)
  dr:Nat
  se:Int
  wr:List Str
  out:List Ev
  en:Bool
  rk:List Fm
  qn:List Str
def Wk.len (w:Wk):Nat:=w.out.length + w.rk.length
def ua (ps:List (Str×Int)) (x:Str):Int:=(ps.lookup x).getD 0
def iW (ps:List (Str×List Int)) (x:Str):List Int:=(ps.lookup x).getD []
def mh {α:Type} (ps:List (Str×α)) (x:Str) (n:α):List (Str×α):=ps.map fun p=>if p.1=x then (p.1,n) else p
def kM (xs:List Str) (x:Str):List Str:=if x∈xs then xs else xs++[x]
def ye (h:Ev) (w:Wk):wL:=⟨ua w.bx,fun q=>(iW w.qu q).length,h.a,h.b,h.t⟩
def rck (h:Ev) (w:Wk) (f:Fm) (k:Wk->Int->Except Flt Wk):Except Flt Wk:=match ev (ye h w) f with
  | .ok n=>k {w with rk:=w.rk++[f]} n
  | .nought=>.error .nought
  | .great=>.error .great
def Ea (w:Wk) (x:Str) (n:Int):Wk:={w with bx:=mh w.bx x n,wr:=kM w.wr x}
def sendW (h:Ev) (w:Wk) (to:Int) (sg:Str) (rk t a b:Int):Wk:={w with se:=w.se + 1,out:=w.out++[⟨t,rk,h.to,w.se,to,sg,a,b⟩]}
mutual
def doD (h:Ev) (ds:List Int):Dd->Wk->Except Flt Wk
  | .put x f,w=>rck h w f fun w n=>.ok (Ea w x n)
  | .push q f,w=>rck h w f fun w n=>if 30<=(iW w.qu q).length then .error .full else .ok {w with qu:=mh w.qu q (iW w.qu q++[n]),wr:=kM w.wr q,qn:=kM w.qn q}
  | .pull q x o,w=>match iW w.qu q with
    | []=>doS h ds o {w with qn:=kM w.qn q}
    | n :: ns=>.ok {w with qu:=mh w.qu q ns,bx:=mh w.bx x n,wr:=kM (kM w.wr x) q,qn:=kM w.qn q}
  | .draw x f,w=>rck h w f fun w n=>if n < 1 then .error .nought else if ds=[] then .error .dry else .ok (Ea {w with dr:=w.dr + 1} x (ds.getD (w.dr % ds.length) 0 % n))
  | .send to sg sp rk a b,w=>rck h w sp fun w n=>if n < 1\/10 ^ 6 < n then .error .span else rck h w a fun w x=>rck h w b fun w y=>if 10 ^ 12 < h.t + n then .error .late else .ok (sendW h w to sg rk (h.t + n) x y)
  | .ife f t e,w=>rck h w f fun w n=>if n=0 then doS h ds e w else doS h ds t w
  | .fin,w=>.ok {w with en:=true}
def doS (h:Ev) (ds:List Int):Ds->Wk->Except Flt Wk
  | .nil,w=>.ok w
  | .cons d r,w=>match doD h ds d w with
    | .ok w'=>doS h ds r w'
    | .error e=>.error e
end
mutual
def Dd.deep:Dd->Nat
  | .pull _ _ o=>o.deep + 1
  | .ife _ t e=>max t.deep e.deep + 1
  | _=>0
def Ds.deep:Ds->Nat
  | .nil=>0
  | .cons d r=>max d.deep r.deep
end
def kA (H:Hp) (R:List V->Prop) (v:V):Prop:=∃ l vs,v=.ref l/\H l=some (.lst vs)/\vs.length < 1000/\R vs
def FmI (bs qs:List Str) (H:Hp) (v:V) (f:Fm):Prop:=gG bs qs H v f/\f.depth<=15
mutual
def dY (bs qs:List Str) (H:Hp):Dd->V->Prop
  | .put x f,v=>∃ t u,v=.ref t/\H t=some (.tup [.str "put",.str x,u])/\x∈bs/\FmI bs qs H u f
  | .push q f,v=>∃ t u,v=.ref t/\H t=some (.tup [.str "push",.str q,u])/\q∈qs/\FmI bs qs H u f
  | .pull q x o,v=>∃ t u,v=.ref t/\H t=some (.tup [.str "pull",.str q,.str x,u])/\q∈qs/\x∈bs/\kA H (eJ bs qs H o) u
  | .draw x f,v=>∃ t u,v=.ref t/\H t=some (.tup [.str "draw",.str x,u])/\x∈bs/\FmI bs qs H u f
  | .send to sg sp rk a b,v=>∃ t u u1 u2,v=.ref t/\H t=some (.tup [.str "send",.int to,.str sg,u,.int rk,u1,u2])/\FmI bs qs H u sp/\FmI bs qs H u1 a/\FmI bs qs H u2 b
  | .ife f x y,v=>∃ t u u1 u2,v=.ref t/\H t=some (.tup [.str "if",u,u1,u2])/\FmI bs qs H u f/\kA H (eJ bs qs H x) u1/\kA H (eJ bs qs H y) u2
  | .fin,v=>∃ t,v=.ref t/\H t=some (.tup [.str "end"])
def eJ (bs qs:List Str) (H:Hp):Ds->List V->Prop
  | .nil,vs=>vs=[]
  | .cons d r,vs=>∃ v vr,vs=v :: vr/\dY bs qs H d v/\eJ bs qs H r vr
end
theorem kA.same {H H':Hp} (s:bM H H') {R R':List V->Prop} (f:∀ vs,R vs->R' vs) {v:V} (h:kA H R v):kA H' R' v:=by
  obtain ⟨l,vs,e,h1,h2,h3⟩:=h
  exact ⟨l,vs,e,s _ _ h1,h2,f vs h3⟩
theorem FmI.same {bs qs:List Str} {H H':Hp} (s:bM H H') {v:V} {f:Fm} (h:FmI bs qs H v f):FmI bs qs H' v f:=⟨h.1.same s,h.2⟩
mutual
theorem dY.same {bs qs:List Str} {H H':Hp} (s:bM H H'):∀ (d:Dd) (v:V),dY bs qs H d v->dY bs qs H' d v
  | .put x f,v,h=>by
    obtain ⟨t,u,e,h1,h2,h3⟩:=(by simpa only [dY] using h)
    simp only [dY]
    exact ⟨t,u,e,s _ _ h1,h2,h3.same s⟩
  | .push q f,v,h=>by
    obtain ⟨t,u,e,h1,h2,h3⟩:=(by simpa only [dY] using h)
    simp only [dY]
    exact ⟨t,u,e,s _ _ h1,h2,h3.same s⟩
  | .pull q x o,v,h=>by
    obtain ⟨t,u,e,h1,h2,h3,h4⟩:=(by simpa only [dY] using h)
    simp only [dY]
    exact ⟨t,u,e,s _ _ h1,h2,h3,h4.same s (eJ.same s o)⟩
  | .draw x f,v,h=>by
    obtain ⟨t,u,e,h1,h2,h3⟩:=(by simpa only [dY] using h)
    simp only [dY]
    exact ⟨t,u,e,s _ _ h1,h2,h3.same s⟩
  | .send to sg sp rk a b,v,h=>by
    obtain ⟨t,u,u1,u2,e,h1,h2,h3,h4⟩:=(by simpa only [dY] using h)
    simp only [dY]
    exact ⟨t,u,u1,u2,e,s _ _ h1,h2.same s,h3.same s,h4.same s⟩
  | .ife f x y,v,h=>by
    obtain ⟨t,u,u1,u2,e,h1,h2,h3,h4⟩:=(by simpa only [dY] using h)
    simp only [dY]
    exact ⟨t,u,u1,u2,e,s _ _ h1,h2.same s,h3.same s (eJ.same s x),h4.same s (eJ.same s y)⟩
  | .fin,v,h=>by
    obtain ⟨t,e,h1⟩:=(by simpa only [dY] using h)
    simp only [dY]
    exact ⟨t,e,s _ _ h1⟩
theorem eJ.same {bs qs:List Str} {H H':Hp} (s:bM H H'):∀ (d:Ds) (vs:List V),eJ bs qs H d vs->eJ bs qs H' d vs
  | .nil,vs,h=>by
    simpa only [eJ] using h
  | .cons d r,vs,h=>by
    obtain ⟨v,vr,e,h1,h2⟩:=(by simpa only [eJ] using h)
    simp only [eJ]
    exact ⟨v,vr,e,dY.same s d v h1,eJ.same s r vr h2⟩
end
def gH (H:Hp) (v:V) (e:Ev):Prop:=∃ t k,v=.ref t/\H t=some (.tup [.ref k,.int e.to,.str e.sg,.int e.a,.int e.b])/\H k=some (.tup [.int e.t,.int e.r,.int e.fr,.int e.c])
theorem gH.same {H H':Hp} (s:bM H H') {v:V} {e:Ev} (h:gH H v e):gH H' v e:=by
  obtain ⟨t,k,e1,h1,h2⟩:=h
  exact ⟨t,k,e1,s _ _ h1,s _ _ h2⟩
def boK (ps:List (Str×Int)):List (Key×V):=ps.map fun p=>((Sum.inr p.1:Key),V.int p.2)
def quK (ps:List (Str×aa)):List (Key×V):=ps.map fun p=>((Sum.inr p.1:Key),V.ref p.2)
def wrK (xs:List Str):List (Key×V):=xs.map fun x=>((Sum.inr x:Key),V.bl true)
theorem qA {α:Type} (g:α->V) (x:Str):∀ ps:List (Str×α),kf (ps.map fun p=>((Sum.inr p.1:Key),g p.2)) (Sum.inr x)=(ps.lookup x).map g
  | []=>rfl
  | p :: ps=>by
    rw [bR]
    by_cases c:p.1=x
    · rw [nC (by rw [c])]
      obtain ⟨a,b⟩:=p
      dsimp only at c
      subst c
      rw [bJ]
      rfl
    · rw [nF (fun z=>c (jm z)),qA g x ps]
      obtain ⟨a,b⟩:=p
      dsimp only at c
      rw [cD]
      have:(x == a)=false:=beq_eq_false_iff_ne.mpr fun z=>c z.symm
      rw [this]
theorem FN {α:Type} (g:α->V) (x:Str) (n:α) {ps:List (Str×α)} (h:(ps.lookup x).isSome=true):iV (ps.map fun p=>((Sum.inr p.1:Key),g p.2)) (Sum.inr x) (g n)=(mh ps x n).map fun p=>((Sum.inr p.1:Key),g p.2):=by
  unfold iV
  rw [jQ,qA,qI,h,if_pos rfl]
  unfold mh
  rw [dX,dX]
  apply iu
  intro p _
  by_cases c:p.1=x
  · simp only [oW,c,if_true]
  · simp only [oW,if_neg c,if_neg (fun z=>c (jm z):¬ (Sum.inr p.1:Key)=Sum.inr x)]
theorem Am (xs:List Str) (x:Str):kf (wrK xs) (Sum.inr x)=if x∈xs then some (.bl true) else none:=by
  induction xs with
  | nil=>rfl
  | cons y xs ih =>
    unfold wrK at ih |-
    rw [bR]
    by_cases c:y=x
    · rw [nC (by rw [c]),if_pos (by rw [c]; exact aw)]
    · rw [nF (fun z=>c (jm z)),ih]
      by_cases m:x∈xs
      · rw [if_pos m,if_pos (ag _ m)]
      · rw [if_neg m,if_neg]
        intro z
        rcases au.mp z with z | z
        · exact c z.symm
        · exact m z
theorem An (xs:List Str) (x:Str):iV (wrK xs) (Sum.inr x) (.bl true)=wrK (kM xs x):=by
  unfold iV
  rw [jQ,Am]
  by_cases m:x∈xs
  · rw [if_pos m]
    unfold kM
    rw [if_pos m]
    show (if true=true then _ else _)=_
    rw [if_pos rfl]
    unfold wrK
    rw [dX]
    apply iu
    intro y _
    by_cases c:y=x
    · simp only [oW,c,if_true]
    · simp only [oW,if_neg (fun z=>c (jm z):¬ (Sum.inr y:Key)=Sum.inr x)]
  · rw [if_neg m]
    unfold kM
    rw [if_neg m]
    show (if false=true then _ else _)=_
    rw [if_neg (by decide)]
    unfold wrK
    rw [cA]
    rfl
theorem vG {α:Type} (ps:List (Str×α)) (x:Str) (n:α):(mh ps x n).map (·.1)=ps.map (·.1):=by
  unfold mh
  rw [dX]
  apply iu
  intro p _
  show (if p.1=x then (p.1,n) else p).1=p.1
  split <;> rfl
theorem lH {α:Type} {x:Str}:∀ {ps:List (Str×α)},x∈ps.map (·.1)->∃ a,ps.lookup x=some a/\(x,a)∈ps
  | [],h=>by cases h
  | p :: ps,h=>by
    obtain ⟨k,a⟩:=p
    by_cases c:x=k
    · subst c
      exact ⟨a,bJ,aw⟩
    · have h':x∈ps.map (·.1):=by
        rcases au.mp h with z | z
        · exact absurd z c
        · exact z
      obtain ⟨b,h1,h2⟩:=lH h'
      refine ⟨b,?_,ag _ h2⟩
      rw [cD,beq_eq_false_iff_ne.mpr c]
      exact h1
theorem yf {α:Type} {x:Str} {n:α} {ps:List (Str×α)} {q:Str×α} (h:q∈mh ps x n):q∈ps\/q.2=n:=by
  obtain ⟨p,hp,e⟩:=cL.mp h
  by_cases c:p.1=x
  · rw [if_pos c] at e
    subst e
    exact .inr rfl
  · rw [if_neg c] at e
    subst e
    exact .inl hp
end My
namespace My
open PySem L2
structure DT (K:af) (mg:Str->Option ae) (CD:aa):Prop where
  cl:Cls K CD
  nM:eE K CD "machine"
  nH:eE K CD "happening"
  nS:eE K CD "state"
  nW:eE K CD "written"
  nO:eE K CD "outgoing"
  nE:eE K CD "ends"
  nR:eE K CD "reckoned"
  nQ:eE K CD "queued"
  mD:mg "Doing"=some (.ref CD)
def dF (m h:V) (st wd od:aa) (en:Bool) (rd ud:aa):List (Str×V):=[("machine",m),("happening",h),("state",.ref st),("written",.ref wd),("outgoing",.ref od),("ends",.bl en),("reckoned",.ref rd),("queued",.ref ud)]
abbrev zv:List Str:=["machine","happening","state","written","outgoing","ends","reckoned","queued"]
theorem Jg (m h:V) (st wd od:aa) (en:Bool) (rd ud:aa):(dF m h st wd od en rd ud).lookup ("machine":Str)=some m:=bJ
theorem dJ {k x:Str} {v:V} {r:List (Str×V)} (h:(x == k)=false):((k,v) :: r).lookup x=r.lookup x:=by rw [cD,h]
theorem FO (m h:V) (st wd od:aa) (en:Bool) (rd ud:aa):(dF m h st wd od en rd ud).lookup ("happening":Str)=some h:=by
  unfold dF
  rw [dJ (by decide +kernel),bJ]
theorem uU (m h:V) (st wd od:aa) (en:Bool) (rd ud:aa):(dF m h st wd od en rd ud).lookup ("state":Str)=some (.ref st):=by
  unfold dF
  rw [dJ (by decide +kernel),dJ (by decide +kernel),bJ]
theorem Eb (m h:V) (st wd od:aa) (en:Bool) (rd ud:aa):(dF m h st wd od en rd ud).lookup ("written":Str)=some (.ref wd):=by
  unfold dF
  rw [dJ (by decide +kernel),dJ (by decide +kernel),dJ (by decide +kernel),bJ]
theorem dF_o (m h:V) (st wd od:aa) (en:Bool) (rd ud:aa):(dF m h st wd od en rd ud).lookup ("outgoing":Str)=some (.ref od):=by
  unfold dF
  rw [dJ (by decide +kernel),dJ (by decide +kernel),dJ (by decide +kernel),dJ (by decide +kernel),bJ]
theorem dF_e (m h:V) (st wd od:aa) (en:Bool) (rd ud:aa):(dF m h st wd od en rd ud).lookup ("ends":Str)=some (.bl en):=by
  unfold dF
  rw [dJ (by decide +kernel),dJ (by decide +kernel),dJ (by decide +kernel),dJ (by decide +kernel),dJ (by decide +kernel),bJ]
theorem dF_r (m h:V) (st wd od:aa) (en:Bool) (rd ud:aa):(dF m h st wd od en rd ud).lookup ("reckoned":Str)=some (.ref rd):=by
  unfold dF
  rw [dJ (by decide +kernel),dJ (by decide +kernel),dJ (by decide +kernel),dJ (by decide +kernel),dJ (by decide +kernel),dJ (by decide +kernel),bJ]
theorem dF_u (m h:V) (st wd od:aa) (en:Bool) (rd ud:aa):(dF m h st wd od en rd ud).lookup ("queued":Str)=some (.ref ud):=by
  unfold dF
  rw [dJ (by decide +kernel),dJ (by decide +kernel),dJ (by decide +kernel),dJ (by decide +kernel),dJ (by decide +kernel),dJ (by decide +kernel),dJ (by decide +kernel),bJ]
theorem mP (m h:V) (st wd od:aa) (en:Bool) (rd ud:aa) {x:Str} (hx:zv.contains x=false):(dF m h st wd od en rd ud).lookup x=none:=by
  have z:∀ k∈zv,(x == k)=false:=fun k hk=>beq_eq_false_iff_ne.mpr fun e=>by
    rw [e,oM.mpr hk] at hx
    cases hx
  unfold dF
  rw [dJ (z _ (by simp)),dJ (z _ (by simp)),dJ (z _ (by simp)),dJ (z _ (by simp)),dJ (z _ (by simp)),dJ (z _ (by simp)),dJ (z _ (by simp)),dJ (z _ (by simp))]
  rfl
theorem sne {a b:Str} (h:(a == b)=false):¬ a=b:=fun e=>by
  rw [e,beq_self_eq_true] at h
  cases h
theorem Jh (m h:V) (st wd od:aa) (en:Bool) (rd ud:aa):dh "queued" (.ref ud) (dh "reckoned" (.ref rd) (dh "ends" (.bl en) (dh "outgoing" (.ref od) (dh "written" (.ref wd) (dh "state" (.ref st) (dh "happening" h (dh "machine" m [])))))))=dF m h st wd od en rd ud:=by
  simp only [dF,dh,if_neg (sne (a:="machine") (b:="happening") (by decide +kernel)),if_neg (sne (a:="machine") (b:="state") (by decide +kernel)),if_neg (sne (a:="machine") (b:="written") (by decide +kernel)),if_neg (sne (a:="machine") (b:="outgoing") (by decide +kernel)),if_neg (sne (a:="machine") (b:="ends") (by decide +kernel)),if_neg (sne (a:="machine") (b:="reckoned") (by decide +kernel)),if_neg (sne (a:="machine") (b:="queued") (by decide +kernel)),if_neg (sne (a:="happening") (b:="state") (by decide +kernel)),if_neg (sne (a:="happening") (b:="written") (by decide +kernel)),if_neg (sne (a:="happening") (b:="outgoing") (by decide +kernel)),if_neg (sne (a:="happening") (b:="ends") (by decide +kernel)),if_neg (sne (a:="happening") (b:="reckoned") (by decide +kernel)),if_neg (sne (a:="happening") (b:="queued") (by decide +kernel)),if_neg (sne (a:="state") (b:="written") (by decide +kernel)),if_neg (sne (a:="state") (b:="outgoing") (by decide +kernel)),if_neg (sne (a:="state") (b:="ends") (by decide +kernel)),if_neg (sne (a:="state") (b:="reckoned") (by decide +kernel)),if_neg (sne (a:="state") (b:="queued") (by decide +kernel)),if_neg (sne (a:="written") (b:="outgoing") (by decide +kernel)),if_neg (sne (a:="written") (b:="ends") (by decide +kernel)),if_neg (sne (a:="written") (b:="reckoned") (by decide +kernel)),if_neg (sne (a:="written") (b:="queued") (by decide +kernel)),if_neg (sne (a:="outgoing") (b:="ends") (by decide +kernel)),if_neg (sne (a:="outgoing") (b:="reckoned") (by decide +kernel)),if_neg (sne (a:="outgoing") (b:="queued") (by decide +kernel)),if_neg (sne (a:="ends") (b:="reckoned") (by decide +kernel)),if_neg (sne (a:="ends") (b:="queued") (by decide +kernel)),if_neg (sne (a:="reckoned") (b:="queued") (by decide +kernel))]
theorem Ji (m h:V) (st wd od:aa) (en e2:Bool) (rd ud:aa):dh "ends" (.bl e2) (dF m h st wd od en rd ud)=dF m h st wd od e2 rd ud:=by
  simp only [dF,dh,if_neg (sne (a:="machine") (b:="ends") (by decide +kernel)),if_neg (sne (a:="happening") (b:="ends") (by decide +kernel)),if_neg (sne (a:="state") (b:="ends") (by decide +kernel)),if_neg (sne (a:="written") (b:="ends") (by decide +kernel)),if_neg (sne (a:="outgoing") (b:="ends") (by decide +kernel)),if_true]
theorem jk (b q d e:V):me b q d e=([("boxes",b),("queues",q),("drawn",d),("sent",e)]:List (Str×V)):=by
  simp only [me,dh,if_neg (sne (a:="boxes") (b:="queues") (by decide +kernel)),if_neg (sne (a:="boxes") (b:="drawn") (by decide +kernel)),if_neg (sne (a:="boxes") (b:="sent") (by decide +kernel)),if_neg (sne (a:="queues") (b:="drawn") (by decide +kernel)),if_neg (sne (a:="queues") (b:="sent") (by decide +kernel)),if_neg (sne (a:="drawn") (b:="sent") (by decide +kernel))]
theorem Jj (b q d e d':V):dh "drawn" d' (me b q d e)=me b q d' e:=by
  rw [jk,jk]
  simp only [dh,if_neg (sne (a:="boxes") (b:="drawn") (by decide +kernel)),if_neg (sne (a:="queues") (b:="drawn") (by decide +kernel)),if_true]
theorem Jk (b q d e e':V):dh "sent" e' (me b q d e)=me b q d e':=by
  rw [jk,jk]
  simp only [dh,if_neg (sne (a:="boxes") (b:="sent") (by decide +kernel)),if_neg (sne (a:="queues") (b:="sent") (by decide +kernel)),if_neg (sne (a:="drawn") (b:="sent") (by decide +kernel)),if_true]
theorem FP (b q d e:V):(me b q d e).lookup ("boxes":Str)=some b:=by rw [jk,bJ]
theorem FQ (b q d e:V):(me b q d e).lookup ("queues":Str)=some q:=by rw [jk,dJ (by decide +kernel),bJ]
theorem Jl (b q d e:V):(me b q d e).lookup ("drawn":Str)=some d:=by rw [jk,dJ (by decide +kernel),dJ (by decide +kernel),bJ]
theorem Jm (b q d e:V):(me b q d e).lookup ("sent":Str)=some e:=by rw [jk,dJ (by decide +kernel),dJ (by decide +kernel),dJ (by decide +kernel),bJ]
theorem st_no (b q d e:V) {x:Str} (hx:(["boxes","queues","drawn","sent"]:List Str).contains x=false):(me b q d e).lookup x=none:=by
  have z:∀ k∈(["boxes","queues","drawn","sent"]:List Str),(x == k)=false:=fun k hk=>beq_eq_false_iff_ne.mpr fun e=>by
    rw [e,oM.mpr hk] at hx
    cases hx
  rw [jk,dJ (z _ (by simp)),dJ (z _ (by simp)),dJ (z _ (by simp)),dJ (z _ (by simp))]
  rfl
theorem Ec (b q d e:V):(me b q d e).length < 1000:=by
  rw [jk]
  show 4 < 1000
  decide
theorem Jn (m h:V) (st wd od:aa) (en:Bool) (rd ud:aa):(dF m h st wd od en rd ud).length < 1000:=by show 8 < 1000; decide
structure Lay where
  d:aa
  dx:aa
  st:aa
  dxs:aa
  bd:aa
  qd:aa
  wd:aa
  od:aa
  rd:aa
  ud:aa
  m:V
  hv:V
  qa:List (Str×aa)
def Lay.all (L:Lay):List aa:=L.d :: L.st :: L.bd :: L.qd :: L.wd :: L.od :: L.rd :: L.ud :: L.qa.map (·.2)
def fH (G:Hp):List (Str×aa)->List (Str×List Int)->Prop:=aO fun p q=>p.1=q.1/\G p.2=some (.lst (q.2.map V.int))
structure oX (bs qs:List Str) (w:Wk):Prop where
  kb:w.bx.map (·.1)=bs
  kq:w.qu.map (·.1)=qs
  nb:bs.Nodup
  nq:qs.Nodup
  wb:∀ p∈w.bx,Wo p.2
  wq:∀ p∈w.qu,p.2.length<=30/\∀ n∈p.2,Wo n
  nw:w.wr.Nodup
  sw:∀ x∈w.wr,x∈bs++qs
  nu:w.qn.Nodup
  su:∀ x∈w.qn,x∈bs++qs
  wo:∀ e∈w.out,Wo e.a/\Wo e.b
  fw:(bs++qs).length < 100
structure Dg (CD CS:aa) (bs qs:List Str) (H0 G:Hp) (L:Lay) (h:Ev) (ds:List Int) (w:Wk):Prop where
  sm:bM H0 G
  hd:G L.d=some (.ins CD L.dx (dF L.m L.hv L.st L.wd L.od w.en L.rd L.ud))
  hst:G L.st=some (.ins CS L.dxs (me (.ref L.bd) (.ref L.qd) (.int w.dr) (.int w.se)))
  hb:G L.bd=some (.dK (boK w.bx))
  hq:G L.qd=some (.dK (quK L.qa))
  hl:fH G L.qa w.qu
  hw:G L.wd=some (.dK (wrK w.wr))
  ho:∃ vs,G L.od=some (.lst vs)/\aO (gH G) vs w.out
  hr:∃ rs,G L.rd=some (.lst rs)/\aO (FmI bs qs H0) rs w.rk
  hu:G L.ud=some (.dK (wrK w.qn))
  hh:gH H0 L.hv h
  hm:∃ t x1 x2 x3 x4 dl,L.m=.ref t/\H0 t=some (.tup [x1,x2,x3,.ref dl,x4])/\H0 dl=some (.lst (ds.map V.int))
  nd:L.all.Nodup
  fr:∀ a∈L.all,H0 a=none
  ok:oX bs qs w
  wt:Wo h.t
  wa:Wo h.a
  wb:Wo h.b
section
variable {CD CS:aa} {bs qs:List Str} {H0 G G':Hp} {L:Lay} {h:Ev} {ds:List Int} {w:Wk}
theorem fH.keep (k:∀ a u,G a=some u->a∈L.qa.map (·.2)->G' a=some u) {qa:List (Str×aa)} {qu:List (Str×List Int)} (sub:∀ p∈qa,p∈L.qa) (q:fH G qa qu):fH G' qa qu:=by
  unfold fH at q |-
  induction q with
  | nil=>exact .nil
  | cons a _ ih=>exact .cons ⟨a.1,k _ _ a.2 (cL.mpr ⟨_,sub _ aw,rfl⟩)⟩ (ih fun p hp=>sub p (ag _ hp))
theorem Paired.mono {α β:Type} {R S:α->β->Prop} (f:∀ a b,R a b->S a b) {xs:List α} {ys:List β} (r:aO R xs ys):aO S xs ys:=L2.Paired.imp' f r
theorem Dg.same (g:Dg CD CS bs qs H0 G L h ds w) (s:bM G G'):Dg CD CS bs qs H0 G' L h ds w:=by
  obtain ⟨vs,o1,o2⟩:=g.ho
  obtain ⟨rs,r1,r2⟩:=g.hr
  exact ⟨g.sm.trans s,s _ _ g.hd,s _ _ g.hst,s _ _ g.hb,s _ _ g.hq,g.hl.keep (L:=L) (fun a u e _=>s _ _ e) (fun _ hp=>hp),s _ _ g.hw,⟨vs,s _ _ o1,Paired.mono (fun _ _ z=>z.same s) o2⟩,⟨rs,s _ _ r1,r2⟩,s _ _ g.hu,g.hh,g.hm,g.nd,g.fr,g.ok,g.wt,g.wa,g.wb⟩
structure Lay.Ne (L:Lay):Prop where
  ds:L.d≠L.st
  db:L.d≠L.bd
  dq:L.d≠L.qd
  dw:L.d≠L.wd
  do_:L.d≠L.od
  dr:L.d≠L.rd
  du:L.d≠L.ud
  dl:∀ a∈L.qa.map (·.2),L.d≠a
  sb:L.st≠L.bd
  sq:L.st≠L.qd
  sw:L.st≠L.wd
  so:L.st≠L.od
  sr:L.st≠L.rd
  su:L.st≠L.ud
  sl:∀ a∈L.qa.map (·.2),L.st≠a
  bq:L.bd≠L.qd
  bw:L.bd≠L.wd
  bo:L.bd≠L.od
  br:L.bd≠L.rd
  bu:L.bd≠L.ud
  bl:∀ a∈L.qa.map (·.2),L.bd≠a
  qw:L.qd≠L.wd
  qo:L.qd≠L.od
  qr:L.qd≠L.rd
  qu:L.qd≠L.ud
  ql:∀ a∈L.qa.map (·.2),L.qd≠a
  wo:L.wd≠L.od
  wr:L.wd≠L.rd
  wu:L.wd≠L.ud
  wl:∀ a∈L.qa.map (·.2),L.wd≠a
  or:L.od≠L.rd
  ou:L.od≠L.ud
  ol:∀ a∈L.qa.map (·.2),L.od≠a
  ru:L.rd≠L.ud
  rl:∀ a∈L.qa.map (·.2),L.rd≠a
  ul:∀ a∈L.qa.map (·.2),L.ud≠a
  ll:(L.qa.map (·.2)).Nodup
theorem Lay.ne (nd:L.all.Nodup):L.Ne:=by
  unfold Lay.all at nd
  have cut:∀ {a:aa} {xs:List aa},(a :: xs).Nodup->(∀ b∈xs,a≠b)/\xs.Nodup:=fun {a xs} z=>by
    obtain ⟨z1,z2⟩:=cK.mp z
    exact ⟨fun b hb e=>z1 (by rw [e]; exact hb),z2⟩
  obtain ⟨a1,nd⟩:=cut nd
  obtain ⟨a2,nd⟩:=cut nd
  obtain ⟨a3,nd⟩:=cut nd
  obtain ⟨a4,nd⟩:=cut nd
  obtain ⟨a5,nd⟩:=cut nd
  obtain ⟨a6,nd⟩:=cut nd
  obtain ⟨a7,nd⟩:=cut nd
  obtain ⟨a8,nd⟩:=cut nd
  have i1:∀ {b:aa} {xs:List aa},b∈b :: xs:=aw
  have i2:∀ {a b:aa} {xs:List aa},b∈xs->b∈a :: xs:=fun z=>ag _ z
  exact ⟨a1 _ i1,a1 _ (i2 i1),a1 _ (i2 (i2 i1)),a1 _ (i2 (i2 (i2 i1))),a1 _ (i2 (i2 (i2 (i2 i1)))),a1 _ (i2 (i2 (i2 (i2 (i2 i1))))),a1 _ (i2 (i2 (i2 (i2 (i2 (i2 i1)))))),fun a ha=>a1 _ (i2 (i2 (i2 (i2 (i2 (i2 (i2 ha))))))),a2 _ i1,a2 _ (i2 i1),a2 _ (i2 (i2 i1)),a2 _ (i2 (i2 (i2 i1))),a2 _ (i2 (i2 (i2 (i2 i1)))),a2 _ (i2 (i2 (i2 (i2 (i2 i1))))),fun a ha=>a2 _ (i2 (i2 (i2 (i2 (i2 (i2 ha)))))),a3 _ i1,a3 _ (i2 i1),a3 _ (i2 (i2 i1)),a3 _ (i2 (i2 (i2 i1))),a3 _ (i2 (i2 (i2 (i2 i1)))),fun a ha=>a3 _ (i2 (i2 (i2 (i2 (i2 ha))))),a4 _ i1,a4 _ (i2 i1),a4 _ (i2 (i2 i1)),a4 _ (i2 (i2 (i2 i1))),fun a ha=>a4 _ (i2 (i2 (i2 (i2 ha)))),a5 _ i1,a5 _ (i2 i1),a5 _ (i2 (i2 i1)),fun a ha=>a5 _ (i2 (i2 (i2 ha))),a6 _ i1,a6 _ (i2 i1),fun a ha=>a6 _ (i2 (i2 ha)),a7 _ i1,fun a ha=>a7 _ (i2 ha),fun a ha=>a8 _ ha,nd⟩
theorem kC {a:aa} {o:HO} (nt:∀ xs,G a≠some (.tup xs)) {vs:List V} {es:List Ev} (r:aO (gH G) vs es):aO (gH (upd G a o)) vs es:=
  Paired.mono (fun v e z=>by
    obtain ⟨t,k,e1,h1,h2⟩:=z
    refine ⟨t,k,e1,?_,?_⟩
    · rw [aJ fun y=>nt _ (by rw [<- y]; exact h1)]
      exact h1
    · rw [aJ fun y=>nt _ (by rw [<- y]; exact h2)]
      exact h2) r
theorem Dg.sm_upd (g:Dg CD CS bs qs H0 G L h ds w) {a:aa} (ha:a∈L.all) (o:HO):bM H0 (upd G a o):=fun b u e=>by
  rw [aJ (aG e (g.fr a ha))]
  exact g.sm _ _ e
theorem in_d:L.d∈L.all:=aw
theorem HF:L.st∈L.all:=ag _ aw
theorem HG:L.bd∈L.all:=ag _ (ag _ aw)
theorem in_qd:L.qd∈L.all:=ag _ (ag _ (ag _ aw))
theorem in_wd:L.wd∈L.all:=ag _ (ag _ (ag _ (ag _ aw)))
theorem HH:L.od∈L.all:=ag _ (ag _ (ag _ (ag _ (ag _ aw))))
theorem in_rd:L.rd∈L.all:=ag _ (ag _ (ag _ (ag _ (ag _ (ag _ aw)))))
theorem in_ud:L.ud∈L.all:=ag _ (ag _ (ag _ (ag _ (ag _ (ag _ (ag _ aw))))))
theorem in_l {a:aa} (h:a∈L.qa.map (·.2)):a∈L.all:=ag _ (ag _ (ag _ (ag _ (ag _ (ag _ (ag _ (ag _ h)))))))
theorem aX {o o':HO} {a b:aa} (e:G a=some o) (n:a≠b):upd G b o' a=some o:=by rw [aJ n]; exact e
theorem kD {o:HO} {a:aa} (e:G a=some o) (n:∀ xs,o≠.tup xs):∀ xs,G a≠some (.tup xs):=fun xs z=>by
  rw [e] at z
  cases z
  exact n xs rfl
theorem Dg.box (g:Dg CD CS bs qs H0 G L h ds w) {x:Str} {n:Int} (wn:Wo n):Dg CD CS bs qs H0 (upd G L.bd (.dK (boK (mh w.bx x n)))) L h ds {w with bx:=mh w.bx x n}:=by
  have N:=Lay.ne g.nd
  obtain ⟨vs,o1,o2⟩:=g.ho
  obtain ⟨rs,r1,r2⟩:=g.hr
  refine ⟨g.sm_upd HG _,aX g.hd N.db,aX g.hst N.sb,ah,aX g.hq N.bq.symm,g.hl.keep (L:=L) (fun a u e m=>aX e (N.bl a m).symm) (fun _ hp=>hp),aX g.hw N.bw.symm,⟨vs,aX o1 N.bo.symm,kC (kD g.hb (fun _ z=>by cases z)) o2⟩,⟨rs,aX r1 N.br.symm,r2⟩,aX g.hu N.bu.symm,g.hh,g.hm,g.nd,g.fr,?_,g.wt,g.wa,g.wb⟩
  obtain ⟨kb,kq,nb,nq,wb,wq,nw,sw,nu,su,wo,fw⟩:=g.ok
  refine ⟨(vG _ _ _).trans kb,kq,nb,nq,fun p hp=>?_,wq,nw,sw,nu,su,wo,fw⟩
  rcases yf hp with z | z
  · exact wb p z
  · rw [z]
    exact wn
theorem Ao {xs:List Str} {x:Str} (h:xs.Nodup):(kM xs x).Nodup:=by
  unfold kM
  by_cases c:x∈xs
  · rw [if_pos c]
    exact h
  · rw [if_neg c]
    refine gS.mpr ⟨h,by simp,fun a ha b hb=>?_⟩
    rw [aH.mp hb]
    exact fun z=>c (by rw [<- z]; exact ha)
theorem yg {xs:List Str} {x y:Str} (h:y∈kM xs x):y∈xs\/y=x:=by
  unfold kM at h
  by_cases c:x∈xs
  · rw [if_pos c] at h
    exact .inl h
  · rw [if_neg c] at h
    rcases cq.mp h with z | z
    · exact .inl z
    · exact .inr (aH.mp z)
theorem Ee {xs:List Str}:∀ {ys:List Str},xs.Nodup->(∀ x∈xs,x∈ys)->xs.length<=ys.length:=by
  induction xs with
  | nil=>intro ys _ _; exact bj _
  | cons x xs ih =>
    intro ys nd s
    obtain ⟨n1,n2⟩:=cK.mp nd
    have hx:x∈ys:=s x aw
    have:=ih (ys:=ys.erase x) n2 fun z hz=>(List.mem_erase_of_ne (fun e=>n1 (by rw [<- e]; exact hz))).mpr (s z (ag _ hz))
    rw [List.length_erase_of_mem hx] at this
    have:=List.length_pos_of_mem hx
    rw [aP]
    omega
theorem oX.few (k:oX bs qs w):w.wr.length < 100:=iO (Ee k.nw k.sw) k.fw
theorem oX.few2 (k:oX bs qs w):w.qn.length < 100:=iO (Ee k.nu k.su) k.fw
theorem Ap (xs:List Str):(wrK xs).length=xs.length:=ar _
theorem eU:1000 < aA:=by decide
theorem Dg.wrote (g:Dg CD CS bs qs H0 G L h ds w) {x:Str} (hx:x∈bs++qs):Dg CD CS bs qs H0 (upd G L.wd (.dK (wrK (kM w.wr x)))) L h ds {w with wr:=kM w.wr x}:=by
  have N:=Lay.ne g.nd
  obtain ⟨vs,o1,o2⟩:=g.ho
  obtain ⟨rs,r1,r2⟩:=g.hr
  refine ⟨g.sm_upd in_wd _,aX g.hd N.dw,aX g.hst N.sw,aX g.hb N.bw,aX g.hq N.qw,g.hl.keep (L:=L) (fun a u e m=>aX e (N.wl a m).symm) (fun _ hp=>hp),ah,⟨vs,aX o1 N.wo.symm,kC (kD g.hw (fun _ z=>by cases z)) o2⟩,⟨rs,aX r1 N.wr.symm,r2⟩,aX g.hu N.wu.symm,g.hh,g.hm,g.nd,g.fr,?_,g.wt,g.wa,g.wb⟩
  obtain ⟨kb,kq,nb,nq,wb,wq,nw,sw,nu,su,wo,fw⟩:=g.ok
  refine ⟨kb,kq,nb,nq,wb,wq,Ao nw,fun y hy=>?_,nu,su,wo,fw⟩
  rcases yg hy with z | z
  · exact sw y z
  · rw [z]
    exact hx
theorem fH.at_ {x:Str}:∀ {qa:List (Str×aa)} {qu:List (Str×List Int)},fH G qa qu->x∈qu.map (·.1)->∃ l,qa.lookup x=some l/\G l=some (.lst ((iW qu x).map V.int))/\l∈qa.map (·.2)
  | _,_,.nil,m=>by cases m
  | (k,l) :: qa,(k',xs) :: qu,.cons a b,m=>by
    obtain ⟨e,ha⟩:=a
    dsimp only at e ha
    subst e
    by_cases c:x=k
    · subst c
      refine ⟨l,bJ,?_,aw⟩
      unfold iW
      rw [bJ]
      exact ha
    · have m':x∈qu.map (·.1):=by
        rcases au.mp m with z | z
        · exact absurd z c
        · exact z
      obtain ⟨l',h1,h2,h3⟩:=fH.at_ b m'
      refine ⟨l',?_,?_,ag _ h3⟩
      · rw [cD,beq_eq_false_iff_ne.mpr c]
        exact h1
      · unfold iW at h2 |-
        rw [cD,beq_eq_false_iff_ne.mpr c]
        exact h2
theorem oj {α:Type} {x:Str} {a:α}:∀ {ps:List (Str×α)},ps.lookup x=some a->(x,a)∈ps
  | [],h=>by cases h
  | (k,b) :: ps,h=>by
    by_cases c:x=k
    · subst c
      rw [bJ] at h
      cases h
      exact aw
    · rw [cD,beq_eq_false_iff_ne.mpr c] at h
      exact ag _ (oj h)
theorem Bp {α:Type} {x:Str} {n:α} {ps:List (Str×α)} (h:x∉ps.map (·.1)):mh ps x n=ps:=by
  unfold mh
  have:∀ p∈ps,(if p.1=x then (p.1,n) else p)=p:=fun p hp=>if_neg fun e=>h (cL.mpr ⟨p,hp,e⟩)
  rw [iu this]
  exact List.map_id _
theorem fH.set {x:Str} {l:aa} {ns:List Int}:∀ {qa:List (Str×aa)} {qu:List (Str×List Int)},fH G qa qu->(qa.map (·.2)).Nodup->(qu.map (·.1)).Nodup->qa.lookup x=some l->fH (upd G l (.lst (ns.map V.int))) qa (mh qu x ns)
  | _,_,.nil,_,_,e=>by cases e
  | (k,l0) :: qa,(k',xs) :: qu,.cons a b,nd,nk,e=>by
    obtain ⟨ek,ha⟩:=a
    dsimp only at ek ha
    subst ek
    obtain ⟨n1,n2⟩:=cK.mp nd
    obtain ⟨m1,m2⟩:=cK.mp nk
    by_cases c:x=k
    · subst c
      rw [bJ] at e
      cases e
      show fH _ _ ((if x=x then (x,ns) else (x,xs)) :: mh qu x ns)
      rw [if_pos rfl,Bp m1]
      refine .cons ⟨rfl,ah⟩ ?_
      refine fH.keep (L:=⟨0,0,0,0,0,0,0,0,0,0,.non,.non,qa⟩) (G:=G) (fun a u e m=>aX e fun z=>n1 (by rw [<- z]; exact m)) (fun _ hp=>hp) b
    · rw [cD,beq_eq_false_iff_ne.mpr c] at e
      show fH _ _ ((if k=x then (k,ns) else (k,xs)) :: mh qu x ns)
      rw [if_neg fun z=>c z.symm]
      refine .cons ⟨rfl,aX ha fun z=>n1 ?_⟩ (fH.set b n2 m2 e)
      show l0∈qa.map (·.2)
      rw [show l0=l from z]
      exact cL.mpr ⟨_,oj e,rfl⟩
theorem Dg.queue (g:Dg CD CS bs qs H0 G L h ds w) {x:Str} {l:aa} {ns:List Int} (hl:L.qa.lookup x=some l) (len:ns.length<=30) (wn:∀ n∈ns,Wo n):Dg CD CS bs qs H0 (upd G l (.lst (ns.map V.int))) L h ds {w with qu:=mh w.qu x ns}:=by
  have N:=Lay.ne g.nd
  have ml:l∈L.qa.map (·.2):=cL.mpr ⟨_,oj hl,rfl⟩
  obtain ⟨vs,o1,o2⟩:=g.ho
  obtain ⟨rs,r1,r2⟩:=g.hr
  obtain ⟨kb,kq,nb,nq,wb,wq,nw,sw,nu,su,wo,fw⟩:=g.ok
  have gl:∃ xs,G l=some (.lst xs):=by
    have key:∀ {qa:List (Str×aa)} {qu:List (Str×List Int)},fH G qa qu->l∈qa.map (·.2)->∃ xs,G l=some (.lst xs):=fun {qa qu} q=>by
      induction q with
      | nil=>intro m; cases m
      | cons a _ ih =>
        intro m
        rcases au.mp m with z | z
        · rw [z]
          exact ⟨_,a.2⟩
        · exact ih z
    exact key g.hl ml
  obtain ⟨xs,gl⟩:=gl
  refine ⟨g.sm_upd (in_l ml) _,aX g.hd (N.dl l ml),aX g.hst (N.sl l ml),aX g.hb (N.bl l ml),aX g.hq (N.ql l ml),g.hl.set N.ll (by rw [kq]; exact nq) hl,aX g.hw (N.wl l ml),⟨vs,aX o1 (N.ol l ml),kC (kD gl (fun _ z=>by cases z)) o2⟩,⟨rs,aX r1 (N.rl l ml),r2⟩,aX g.hu (N.ul l ml),g.hh,g.hm,g.nd,g.fr,?_,g.wt,g.wa,g.wb⟩
  refine ⟨kb,(vG _ _ _).trans kq,nb,nq,wb,fun p hp=>?_,nw,sw,nu,su,wo,fw⟩
  rcases yf hp with z | z
  · exact wq p z
  · rw [z]
    exact ⟨len,wn⟩
theorem Dg.counts (g:Dg CD CS bs qs H0 G L h ds w) (dr:Nat) (se:Int):Dg CD CS bs qs H0 (upd G L.st (.ins CS L.dxs (me (.ref L.bd) (.ref L.qd) (.int dr) (.int se)))) L h ds {w with dr:=dr,se:=se}:=by
  have N:=Lay.ne g.nd
  obtain ⟨vs,o1,o2⟩:=g.ho
  obtain ⟨rs,r1,r2⟩:=g.hr
  obtain ⟨kb,kq,nb,nq,wb,wq,nw,sw,nu,su,wo,fw⟩:=g.ok
  exact ⟨g.sm_upd HF _,aX g.hd N.ds,ah,aX g.hb N.sb.symm,aX g.hq N.sq.symm,g.hl.keep (L:=L) (fun a u e m=>aX e (N.sl a m).symm) (fun _ hp=>hp),aX g.hw N.sw.symm,⟨vs,aX o1 N.so.symm,kC (kD g.hst (fun _ z=>by cases z)) o2⟩,⟨rs,aX r1 N.sr.symm,r2⟩,aX g.hu N.su.symm,g.hh,g.hm,g.nd,g.fr,⟨kb,kq,nb,nq,wb,wq,nw,sw,nu,su,wo,fw⟩,g.wt,g.wa,g.wb⟩
theorem Dg.sent (g:Dg CD CS bs qs H0 G L h ds w) {vs:List V} {v:V} {e:Ev} (hv:G L.od=some (.lst vs)) (he:gH G v e) (we:Wo e.a/\Wo e.b):Dg CD CS bs qs H0 (upd G L.od (.lst (vs++[v]))) L h ds {w with out:=w.out++[e]}:=by
  have N:=Lay.ne g.nd
  obtain ⟨vs',o1,o2⟩:=g.ho
  obtain ⟨rs,r1,r2⟩:=g.hr
  rw [hv] at o1
  cases o1
  obtain ⟨kb,kq,nb,nq,wb,wq,nw,sw,nu,su,wo,fw⟩:=g.ok
  refine ⟨g.sm_upd HH _,aX g.hd N.do_,aX g.hst N.so,aX g.hb N.bo,aX g.hq N.qo,g.hl.keep (L:=L) (fun a u e m=>aX e (N.ol a m).symm) (fun _ hp=>hp),aX g.hw N.wo,⟨_,ah,?_⟩,⟨rs,aX r1 N.or.symm,r2⟩,aX g.hu N.ou.symm,g.hh,g.hm,g.nd,g.fr,⟨kb,kq,nb,nq,wb,wq,nw,sw,nu,su,fun x hx=>(cq.mp hx).elim (wo x) fun z=>by rw [aH.mp z]; exact we,fw⟩,g.wt,g.wa,g.wb⟩
  exact kC (kD hv (fun _ z=>by cases z)) (dR o2 he)
theorem Dg.ended (g:Dg CD CS bs qs H0 G L h ds w):Dg CD CS bs qs H0 (upd G L.d (.ins CD L.dx (dF L.m L.hv L.st L.wd L.od true L.rd L.ud))) L h ds {w with en:=true}:=by
  have N:=Lay.ne g.nd
  obtain ⟨vs,o1,o2⟩:=g.ho
  obtain ⟨rs,r1,r2⟩:=g.hr
  obtain ⟨kb,kq,nb,nq,wb,wq,nw,sw,nu,su,wo,fw⟩:=g.ok
  exact ⟨g.sm_upd in_d _,ah,aX g.hst N.ds.symm,aX g.hb N.db.symm,aX g.hq N.dq.symm,g.hl.keep (L:=L) (fun a u e m=>aX e (N.dl a m).symm) (fun _ hp=>hp),aX g.hw N.dw.symm,⟨vs,aX o1 N.do_.symm,kC (kD g.hd (fun _ z=>by cases z)) o2⟩,⟨rs,aX r1 N.dr.symm,r2⟩,aX g.hu N.du.symm,g.hh,g.hm,g.nd,g.fr,⟨kb,kq,nb,nq,wb,wq,nw,sw,nu,su,wo,fw⟩,g.wt,g.wa,g.wb⟩
theorem Dg.reckoned (g:Dg CD CS bs qs H0 G L h ds w) {rs:List V} {v:V} {F:Fm} (hr:G L.rd=some (.lst rs)) (hF:FmI bs qs H0 v F):Dg CD CS bs qs H0 (upd G L.rd (.lst (rs++[v]))) L h ds {w with rk:=w.rk++[F]}:=by
  have N:=Lay.ne g.nd
  obtain ⟨vs,o1,o2⟩:=g.ho
  obtain ⟨rs',r1,r2⟩:=g.hr
  rw [hr] at r1
  cases r1
  obtain ⟨kb,kq,nb,nq,wb,wq,nw,sw,nu,su,wo,fw⟩:=g.ok
  exact ⟨g.sm_upd in_rd _,aX g.hd N.dr,aX g.hst N.sr,aX g.hb N.br,aX g.hq N.qr,g.hl.keep (L:=L) (fun a u e m=>aX e (N.rl a m).symm) (fun _ hp=>hp),aX g.hw N.wr,⟨vs,aX o1 N.or,kC (kD hr (fun _ z=>by cases z)) o2⟩,⟨_,ah,dR r2 hF⟩,aX g.hu N.ru.symm,g.hh,g.hm,g.nd,g.fr,⟨kb,kq,nb,nq,wb,wq,nw,sw,nu,su,wo,fw⟩,g.wt,g.wa,g.wb⟩
theorem Dg.queued (g:Dg CD CS bs qs H0 G L h ds w) {x:Str} (hx:x∈bs++qs):Dg CD CS bs qs H0 (upd G L.ud (.dK (wrK (kM w.qn x)))) L h ds {w with qn:=kM w.qn x}:=by
  have N:=Lay.ne g.nd
  obtain ⟨vs,o1,o2⟩:=g.ho
  obtain ⟨rs,r1,r2⟩:=g.hr
  obtain ⟨kb,kq,nb,nq,wb,wq,nw,sw,nu,su,wo,fw⟩:=g.ok
  refine ⟨g.sm_upd in_ud _,aX g.hd N.du,aX g.hst N.su,aX g.hb N.bu,aX g.hq N.qu,g.hl.keep (L:=L) (fun a u e m=>aX e (N.ul a m).symm) (fun _ hp=>hp),aX g.hw N.wu,⟨vs,aX o1 N.ou,kC (kD g.hu (fun _ z=>by cases z)) o2⟩,⟨rs,aX r1 N.ru,r2⟩,ah,g.hh,g.hm,g.nd,g.fr,⟨kb,kq,nb,nq,wb,wq,nw,sw,Ao nu,fun y hy=>?_,wo,fw⟩,g.wt,g.wa,g.wb⟩
  rcases yg hy with z | z
  · exact su y z
  · rw [z]
    exact hx
theorem Ef {x:Str} {ps:List (Str×Int)} (m:x∈ps.map (·.1)):kf (boK ps) (Sum.inr x)=some (.int (ua ps x)):=by
  obtain ⟨a,h1,_⟩:=lH m
  have z:=qA V.int x ps
  rw [h1] at z
  unfold ua
  rw [h1]
  exact z
theorem Eg {x:Str} {l:aa} {qa:List (Str×aa)} (m:qa.lookup x=some l):kf (quK qa) (Sum.inr x)=some (.ref l):=by
  have z:=qA V.ref x qa
  rw [m] at z
  exact z
theorem FR {x:Str} (k:oX bs qs w) (m:x∈bs):Wo (ua w.bx x):=by
  obtain ⟨a,h1,h2⟩:=lH (ps:=w.bx) (x:=x) (by rw [k.kb]; exact m)
  unfold ua
  rw [h1]
  exact k.wb _ h2
theorem wN {x:Str} (k:oX bs qs w) (m:x∈qs):(iW w.qu x).length<=30/\∀ n∈iW w.qu x,Wo n:=by
  obtain ⟨a,h1,h2⟩:=lH (ps:=w.qu) (x:=x) (by rw [k.kq]; exact m)
  unfold iW
  rw [h1]
  exact k.wq _ h2
theorem Dg.asks (g:Dg CD CS bs qs H0 G L h ds w):(ye h w).Ok bs qs:=
  ⟨fun x m=>FR g.ok m,fun x m=>by
    have:=(wN g.ok m).1
    show (iW w.qu x).length<=1000
    omega,g.wa,g.wb,g.wt⟩
theorem Dg.holds {K:af} (g:Dg CD CS bs qs H0 G L h ds w) {gl:aa} (hg:G gl=some (.lst [.int h.a,.int h.b])):Holds K CS bs qs G L.st gl (ye h w):=
  ⟨⟨L.dxs,L.bd,L.qd,_,_,_,g.hst,FP _ _ _ _,FQ _ _ _ _,g.hb,g.hq,fun x m=>Ef (by rw [g.ok.kb]; exact m),fun x m=>by
    obtain ⟨l,h1,h2,_⟩:=g.hl.at_ (x:=x) (by rw [g.ok.kq]; exact m)
    exact ⟨l,_,Eg h1,h2,ar _⟩⟩,hg⟩
end
end My
namespace L2
open PySem
theorem rO.own {X:Cx} {E:XK} (hb:rO X E):PassesOwn (aW X.prog X.w) X.A X.env X.xe:=by
  rw [hb.xe]
  exact PassesOwn.leaving
end L2
namespace My
open PySem L2
structure Mt (K:af) (C:aa) (x qual:Str) (st:df) (ps:List Str) (f:aa) (fd:bY):Prop where
  F:Fun K x qual st f fd
  b:Binds K fd ps []
  m:vZ K C x f
structure Eh (K:af) (mg:Str->Option ae) (cf:Flt->aa):Prop where
  two:Fts K mg (cf .nought) (cf .great)
  mF:mg "Full"=some (.ref (cf .full))
  mD:mg "Dry"=some (.ref (cf .dry))
  mS:mg "Span"=some (.ref (cf .span))
  mL:mg "Late"=some (.ref (cf .late))
  xF:dD K (cf .full) pB "ValueError.__new__"=true
  xD:dD K (cf .dry) pB "ValueError.__new__"=true
  xS:dD K (cf .span) pB "ValueError.__new__"=true
  xL:dD K (cf .late) pB "ValueError.__new__"=true
def rp (cf:Flt->aa) (dg:Wk->Hp->Prop) (H0:Hp) (n:Nat) (r:Except Flt Wk) (Q:VK) (E:XK):Prop:=match r with
  | .ok w'=>∀ G',dg w' G'->w'.len<=n->Q .non G'
  | .error e=>∀ G',bM H0 G'->E (.ref (cf e)) none G'
theorem jX {cf:Flt->aa} {dg:Wk->Hp->Prop} {H0 G':Hp} {n:Nat} {h:Ev} {w:Wk} {f:Fm} {k:Wk->Int->Except Flt Wk} {Q0 Q:VK} {E:XK} (p:rp cf dg H0 n (rck h w f k) Q0 E) (s:bM H0 G')
    (hq:∀ r,ev (ye h w) f=.ok r->rp cf dg H0 n (k {w with rk:=w.rk++[f]} r) Q0 E->Q (.int r) G'):vF (cf .nought) (cf .great) (ev (ye h w) f) Q E G':=by
  unfold rck at p
  cases e:ev (ye h w) f with
  | ok r =>
    rw [e] at p
    exact hq r e p
  | nought =>
    rw [e] at p
    exact p G' s
  | great =>
    rw [e] at p
    exact p G' s
theorem zw {w:Wk} {F:Fm}:w.out.length + (w.rk++[F]).length<=w.len + 4:=by
  rw [aE]
  show _ + (_ + 1)<=w.out.length + w.rk.length + 4
  omega
theorem FS {w:Wk} {F F1 F2:Fm} {e:Ev}:(w.out++[e]).length + (w.rk++[F]++[F1]++[F2]).length<=w.len + 4:=by
  rw [aE,aE,aE,aE]
  show _ + 1 + (_ + 1 + 1 + 1)<=w.out.length + w.rk.length + 4
  omega
theorem FT {x:Str} {n:Int} {ps:List (Str×Int)} (m:x∈ps.map (·.1)):iV (boK ps) (Sum.inr x) (.int n)=boK (mh ps x n):=by
  obtain ⟨a,h1,_⟩:=lH m
  exact FN V.int x n (by rw [h1]; rfl)
theorem FU (ps:List (Str×Int)):(boK ps).length=ps.length:=ar _
section
variable {CD CS:aa} {bs qs:List Str} {H0 G G':Hp} {L:Lay} {h:Ev} {ds:List Int} {w:Wk}
theorem Dg.few (g:Dg CD CS bs qs H0 G L h ds w):(boK w.bx).length < aA/\(wrK w.wr).length < aA:=by
  have:=g.ok.few
  have:=g.ok.fw
  have:=eU
  rw [FU,Ap]
  have e:=congrArg jD g.ok.kb
  rw [ar] at e
  rw [aE] at *
  omega
theorem Dg.putB (g:Dg CD CS bs qs H0 G L h ds w) {x:Str} {n:Int} (m:x∈bs):sj G L.bd (.str x) (.int n) (upd G L.bd (.dK (boK (mh w.bx x n)))):=by
  have z:=sj.k (k:=Sum.inr x) (v:=.int n) g.hb g.few.1
  rw [FT (by rw [g.ok.kb]; exact m)] at z
  exact z
theorem Dg.putW (g:Dg CD CS bs qs H0 G L h ds w) (x:Str):sj G L.wd (.str x) (.bl true) (upd G L.wd (.dK (wrK (kM w.wr x)))):=by
  have z:=sj.k (k:=Sum.inr x) (v:=.bl true) g.hw g.few.2
  rw [An] at z
  exact z
theorem Dg.putU (g:Dg CD CS bs qs H0 G L h ds w) (x:Str):sj G L.ud (.str x) (.bl true) (upd G L.ud (.dK (wrK (kM w.qn x)))):=by
  have z:=sj.k (k:=Sum.inr x) (v:=.bl true) g.hu (by
    have:=g.ok.few2
    have:=eU
    rw [Ap]
    omega)
  rw [An] at z
  exact z
theorem Dg.getL (g:Dg CD CS bs qs H0 G L h ds w) {x:Str} (m:x∈qs):∃ l,L.qa.lookup x=some l/\G l=some (.lst ((iW w.qu x).map V.int))/\qf G L.qd (.str x) (some (.ref l)):=by
  obtain ⟨l,h1,h2,_⟩:=g.hl.at_ (x:=x) (by rw [g.ok.kq]; exact m)
  refine ⟨l,h1,h2,?_⟩
  have z:=qf.k (k:=Sum.inr x) g.hq
  rw [Eg h1] at z
  exact z
end
section
variable {P:aM} {w:bH} {K:af} {mg:Str->Option ae} {base:cB} {f fN fR fF fW fT fD fL fQ CD CS CM:aa} {fd fdN fdR fdF fdW fdT fdD fdL fdQ:bY} {cf:Flt->aa} {bs qs:List Str}
def Ei (CD CS:aa) (bs qs:List Str):Sp:=fun vs H Q _=>∃ (H0:Hp) (L:Lay) (h:Ev) (ds:List Int) (w:Wk),vs=[.ref L.d]/\Dg CD CS bs qs H0 H L h ds w/\Q (.int h.t) H
theorem scNw:bV ["self"] ["self"] (aQ iE):=⟨rfl,rfl,rfl,by decide +kernel,rfl,by decide +kernel,by decide +kernel⟩
theorem Ej (M:Mt K CD "now" "Doing.now" iE ["self"] f fd) (T:DT K mg CD):bT P w K mg base CX0 1 f fd ["self"] (Ei CD CS bs qs):=by
  refine M.F.ok scNw (fun vs H Q E h=>?_) (fun cdv A outer s H vs Q E hr h=>?_)
  · obtain ⟨H0,L,e,ds,w,rfl,_⟩:=h
    rfl
  obtain ⟨H0,L,e,ds,w,rfl,g,q⟩:=h
  obtain ⟨t,k,ev,h1,h2⟩:=g.hh
  refine ⟨_,aF (bX (bZ cF (bZ cF (cN (pv 0) rfl) ay (fun _ _=>rfl)) ay (fun _ _=>rfl))),?_⟩
  exact ⟨_,rfl,L.d,CD,L.dx,_,_,rfl,g.hd,T.cl,T.nH,FO _ _ _ _ _ _ _ _,t,_,_,_,ev,rfl,SqT.of (g.sm _ _ h1),rfl,k,_,_,_,rfl,rfl,SqT.of (g.sm _ _ h2),rfl,q⟩
def rq (cf:Flt->aa) (CD CS:aa) (bs qs:List Str):Sp:=fun vs H Q E=>∃ (H0:Hp) (L:Lay) (h:Ev) (ds:List Int) (w:Wk) (v:V) (F:Fm),vs=[.ref L.d,v]/\Dg CD CS bs qs H0 H L h ds w/\FmI bs qs H0 v F/\w.len < 400000/\∀ G',Dg CD CS bs qs H0 G' L h ds {w with rk:=w.rk++[F]}->vF (cf .nought) (cf .great) (ev (ye h w) F) Q E G'
theorem scRk:bV ["self","formula"] ["self","formula"] (aQ eG):=⟨rfl,rfl,rfl,by decide +kernel,rfl,by decide +kernel,by decide +kernel⟩
theorem tj (M:Mt K CD "reckon" "Doing.reckon" eG ["self","formula"] f fd) (MN:Mt K CD "now" "Doing.now" iE ["self"] fN fdN) (DW:Df K mg "worth_of" jV ["formula","state","now","got"] fW fdW) (DT2:Df K mg "number_of_two" gk ["kind","first","second"] fT fdT) (DD:Df K mg "number_of_division" dQ ["kind","first","second"] fD fdD)
    (DL:Df K mg "number_of_leaf" fy ["formula","state","now","got"] fL fdL) (T:DT K mg CD) (TF:Eh K mg cf) (TM:MdT K mg CM CS) (B:Bl mg):bT P w K mg base (CXo P w) 18 f fd ["self","formula"] (rq cf CD CS bs qs):=by
  have GN:bT P w K mg base CX0 1 fN fdN ["self"] (Ei CD CS bs qs):=Ej MN T
  have GW:bT P w K mg base (CXo P w) 17 fW fdW ["formula","state","now","got"] (DZ K CS (cf .nought) (cf .great) bs qs 15):=HE DW DT2 DD DL TF.two TM B 15
  refine M.F.okX scRk (fun vs H Q E h=>?_) (fun cdv A outer s H vs Q E hr h=>?_)
  · obtain ⟨H0,L,e,ds,w,v,F,rfl,_⟩:=h
    rfl
  obtain ⟨H0,L,e,ds,w,v,F,rfl,g,hF,fw,q⟩:=h
  obtain ⟨t,k,eh,h1,h2⟩:=g.hh
  have r1:dP 1 _:=hr.mono (by omega)
  obtain ⟨rs,r1',r2⟩:=g.hr
  have g0:=g.reckoned r1' hF
  refine ⟨_,ak (dW (jr bK cg cj e7 (cN (pv 0) rfl) (aq (pv 1) ao))) (aF (bX (aS GW hr rfl DW.m DW.F.kp DW.b .nil (dN.passes fun _ _ _ z=>z) (aq (pv 1) (aq (cN (pv 0) rfl) (aq (p9 (pv 0) T.cl MN.m GN r1 MN.b .nil cm) (aq (eT (aq (bZ cF (cN (pv 0) rfl) ay (fun _ _=>rfl)) (aq (bZ cF (cN (pv 0) rfl) ay (fun _ _=>rfl)) ao))) ao))))))),?_⟩
  have rl:rs.length < aA:=by
    have z:rs.length=w.rk.length:=aT r2
    have:400000 < aA:=by decide
    have:w.out.length + w.rk.length < 400000:=fw
    omega
  refine ⟨_,rfl,L.d,CD,L.dx,_,_,rfl,g.hd,T.cl,T.nR,dF_r _ _ _ _ _ _ _ _,.inl ⟨rfl,_,SqL.of r1'⟩,_,rfl,L.rd,_,_,rfl,rfl,r1',rl,?_⟩
  refine ⟨_,rfl,_,rfl,L.d,CD,L.dx,_,_,rfl,g0.hd,T.cl,T.nS,uU _ _ _ _ _ _ _ _,?_⟩
  refine ⟨_,rfl,L.d,L.dx,_,rfl,g0.hd,mP _ _ _ _ _ _ _ _ (by decide +kernel),H0,L,e,ds,_,rfl,g0,?_⟩
  refine ⟨_,rfl,L.d,CD,L.dx,_,_,rfl,g0.hd,T.cl,T.nH,FO _ _ _ _ _ _ _ _,t,_,_,_,eh,rfl,SqT.of (g0.sm _ _ h1),rfl,?_⟩
  refine ⟨_,rfl,L.d,CD,L.dx,_,_,rfl,g0.hd,T.cl,T.nH,FO _ _ _ _ _ _ _ _,t,_,_,_,eh,rfl,SqT.of (g0.sm _ _ h1),rfl,?_⟩
  refine ⟨lt2,fun l hl=>?_⟩
  have s2:=aD hl (.lst [.int e.a,.int e.b])
  have g2:=g0.same s2
  exact ⟨v,F,L.st,l,ye e w,rfl,(hF.1.same g2.sm),hF.2,g2.holds ah,g2.asks,q _ g2⟩
def Ek (CD CS:aa) (bs qs:List Str):Sp:=fun vs H Q _=>∃ (H0:Hp) (L:Lay) (h:Ev) (ds:List Int) (w:Wk) (x:Str),vs=[.ref L.d,.str x]/\Dg CD CS bs qs H0 H L h ds w/\x∈qs/\∀ G' l,Dg CD CS bs qs H0 G' L h ds {w with qn:=kM w.qn x}->L.qa.lookup x=some l->G' l=some (.lst ((iW w.qu x).map V.int))->Q (.ref l) G'
theorem scQo:bV ["self","name"] ["self","name"] (aQ eC):=⟨rfl,rfl,rfl,by decide +kernel,rfl,by decide +kernel,by decide +kernel⟩
theorem El (M:Mt K CD "queue_of" "Doing.queue_of" eC ["self","name"] f fd) (T:DT K mg CD) (TM:MdT K mg CM CS):bT P w K mg base CX0 1 f fd ["self","name"] (Ek CD CS bs qs):=by
  refine M.F.ok scQo (fun vs H Q E h=>?_) (fun cdv A outer s H vs Q E hr h=>?_)
  · obtain ⟨H0,L,e,ds,w,x,rfl,_⟩:=h
    rfl
  obtain ⟨H0,L,e,ds,w,x,rfl,g,hx,q⟩:=h
  have hu:=o5 hr
  refine ⟨_,ak (lV hu (cN (pv 0) rfl) (pv 1) jN rfl) (aF (bX (qg hu (cN (cN (pv 0) rfl) rfl) (pv 1) (fun _ _=>rfl)))),?_⟩
  have g1:=g.queued (x:=x) (bF _ hx)
  obtain ⟨l,hl,gl,dl⟩:=g1.getL hx
  refine ⟨_,rfl,L.d,CD,L.dx,_,_,rfl,g.hd,T.cl,T.nQ,dF_u _ _ _ _ _ _ _ _,_,rfl,L.ud,_,rfl,g.putU x,?_⟩
  exact ⟨_,rfl,L.d,CD,L.dx,_,_,rfl,g1.hd,T.cl,T.nS,uU _ _ _ _ _ _ _ _,L.st,CS,L.dxs,_,_,rfl,g1.hst,TM.clS,TM.nQ,FQ _ _ _ _,_,rfl,L.qd,_,rfl,dl,q _ l g1 hl gl⟩
def wO (CD CS:aa) (bs qs:List Str):Sp:=fun vs H Q _=>∃ (H0:Hp) (L:Lay) (h:Ev) (ds:List Int) (w:Wk) (x:Str) (n:Int),vs=[.ref L.d,.str x,.int n]/\Dg CD CS bs qs H0 H L h ds w/\x∈bs/\Wo n/\∀ G',Dg CD CS bs qs H0 G' L h ds (Ea w x n)->Q .non G'
theorem scFl:bV ["self","box","worth"] ["self","box","worth"] (aQ gp):=⟨rfl,rfl,rfl,by decide +kernel,rfl,by decide +kernel,by decide +kernel⟩
theorem wQ (M:Mt K CD "fill" "Doing.fill" gp ["self","box","worth"] f fd) (T:DT K mg CD) (TM:MdT K mg CM CS):bT P w K mg base CX0 1 f fd ["self","box","worth"] (wO CD CS bs qs):=by
  refine M.F.ok scFl (fun vs H Q E h=>?_) (fun cdv A outer s H vs Q E hr h=>?_)
  · obtain ⟨H0,L,e,ds,w,x,n,rfl,_⟩:=h
    rfl
  obtain ⟨H0,L,e,ds,w,x,n,rfl,g,hx,hn,q⟩:=h
  have hu:=o5 hr
  refine ⟨_,ak (lV hu (cN (cN (pv 0) rfl) rfl) (pv 1) (pv 2) rfl) (aF (lV hu (cN (pv 0) rfl) (pv 1) jN rfl)),?_⟩
  have g1:=g.box (x:=x) hn
  have g2:=g1.wrote (x:=x) (gu _ hx)
  refine ⟨_,rfl,_,rfl,L.d,CD,L.dx,_,_,rfl,g.hd,T.cl,T.nS,uU _ _ _ _ _ _ _ _,L.st,CS,L.dxs,_,_,rfl,g.hst,TM.clS,TM.nB,FP _ _ _ _,_,rfl,L.bd,_,rfl,g.putB hx,?_⟩
  exact ⟨_,rfl,L.d,CD,L.dx,_,_,rfl,g1.hd,T.cl,T.nW,Eb _ _ _ _ _ _ _ _,_,rfl,L.wd,_,rfl,g1.putW x,q _ g2⟩
def zx (cf:Flt->aa) (CD CS:aa) (bs qs:List Str):Sp:=fun vs H Q E=>∃ (H0:Hp) (L:Lay) (h:Ev) (ds:List Int) (w:Wk) (x:Str) (v:V) (F:Fm),vs=[.ref L.d,.str x,v]/\Dg CD CS bs qs H0 H L h ds w/\x∈qs/\FmI bs qs H0 v F/\w.len < 400000 /\
  rp cf (fun w' G'=>Dg CD CS bs qs H0 G' L h ds w') H0 (w.len + 4) (doD h ds (.push x F) w) Q E
theorem Jo:bV ["doing","name","formula","worth","queue"] ["doing","name","formula"] (aQ lu):=⟨rfl,rfl,rfl,by decide +kernel,rfl,by decide +kernel,by decide +kernel⟩
theorem FV (D:Df K mg "do_push" lu ["doing","name","formula"] f fd) (MR:Mt K CD "reckon" "Doing.reckon" eG ["self","formula"] fR fdR) (GR:bT P w K mg base (CXo P w) 18 fR fdR ["self","formula"] (rq cf CD CS bs qs)) (MQ:Mt K CD "queue_of" "Doing.queue_of" eC ["self","name"] fQ fdQ) (T:DT K mg CD) (TF:Eh K mg cf) (TM:MdT K mg CM CS) (B:Bl mg) :
    bT P w K mg base (CXo P w) 19 f fd ["doing","name","formula"] (zx cf CD CS bs qs):=by
  have GQ:bT P w K mg base CX0 1 fQ fdQ ["self","name"] (Ek CD CS bs qs):=El MQ T TM
  refine D.F.okX Jo (fun vs H Q E h=>?_) (fun cdv A outer s H vs Q E hr h=>?_)
  · obtain ⟨H0,L,e,ds,w,x,v,F,rfl,_⟩:=h
    rfl
  obtain ⟨H0,L,e,ds,w,x,v,F,rfl,g,hx,hF,fw,p⟩:=h
  have hu:=o5 hr
  have r1:dP 1 _:=hr.mono (by omega)
  refine ⟨_,ak (bz (i:=3) Jo.nd rfl (Or.inl rfl) (gI (pv 0) T.cl MR.m GR hr MR.b .nil (dN.passes fun _ _ _ z=>z) (aq (pv 2) ao)))
    (ak (bz (i:=4) Jo.nd rfl (Or.inl rfl) (gI (pv 0) T.cl MQ.m GQ r1 MQ.b .nil cm (aq (pv 1) ao)))
    (ak (cZ (cu op_ge (dA gY (by rfl) B.len cI (aq (pv 4) ao)) ay (cE _)) (aF (jR dN rfl rfl TF.mF TF.xF (aq bU ao))) cy)
    (ak (dW (jr bK cg cj e7 (pv 4) (aq (pv 3) ao)))
    (aF (lV hu (cN (pv 0) rfl) (pv 1) jN rfl))))),?_⟩
  simp only [doD] at p
  refine ⟨_,rfl,L.d,L.dx,_,rfl,g.hd,mP _ _ _ _ _ _ _ _ (by decide +kernel),_,rfl,H0,L,e,ds,w,v,F,rfl,g,hF,fw,fun G0 g0=>?_⟩
  refine jX p g0.sm fun n en p=>?_
  dsimp only at p
  refine ⟨_,rfl,L.d,L.dx,_,rfl,g0.hd,mP _ _ _ _ _ _ _ _ (by decide +kernel),_,rfl,H0,L,e,ds,_,x,rfl,g0,hx,fun G1 l g1 hl gl=>?_⟩
  refine ⟨_,rfl,l,_,rfl,.inl (SqL.of gl),_,_,rfl,rfl,_,rfl,jt (fun c=>?_) (fun c=>?_)⟩
  · have c:(30:Int)<=((((iW w.qu x).map V.int).length:Nat):Int):=jv c
    rw [ar] at c
    rw [if_pos (by omega)] at p
    exact ⟨(by show 1<=aA; decide),p _ g1.sm⟩
  · have c:¬ (30:Int)<=((((iW w.qu x).map V.int).length:Nat):Int):=jF c
    rw [ar] at c
    rw [if_neg (by omega)] at p
    have wn:Wo n:=rW g1.asks (hF.1.same g1.sm) en
    have gq:=wN g1.ok hx
    have g2:=g1.queue (x:=x) (l:=l) (ns:=iW w.qu x++[n]) hl (by rw [aE]; simp only [aP,cM]; omega) (fun m hm=>by
      rcases cq.mp hm with z | z
      · exact gq.2 m z
      · rw [aH.mp z]
        exact wn)
    have g3:=g2.wrote (x:=x) (bF _ hx)
    have lt:((iW w.qu x).map V.int).length < aA:=by
      rw [ar]
      have:=eU
      omega
    refine ⟨_,rfl,.inl ⟨rfl,_,SqL.of gl⟩,_,rfl,l,_,_,rfl,rfl,gl,lt,?_⟩
    have eq:(iW w.qu x).map V.int++[V.int n]=(iW w.qu x++[n]).map V.int:=by rw [cA]; rfl
    rw [eq]
    exact ⟨_,rfl,L.d,CD,L.dx,_,_,rfl,g2.hd,T.cl,T.nW,Eb _ _ _ _ _ _ _ _,_,rfl,L.wd,_,rfl,g2.putW x,p _ g3 (zw (w:=w) (F:=F))⟩
end
end My
namespace My
open PySem L2
theorem Em (ds:List Int) (i:Nat) (h:i < ds.length):(ds.map V.int)[i]?=some (.int (ds.getD i 0)):=by
  rw [bQ,ax h,dE,ax h]
  rfl
section
variable {P:aM} {w:bH} {K:af} {mg:Str->Option ae} {base:cB} {f fN fR fF CD CS CM:aa} {fd fdN fdR fdF:bY} {cf:Flt->aa} {bs qs:List Str}
def wR (cf:Flt->aa) (CD CS:aa) (bs qs:List Str):Sp:=fun vs H Q E=>∃ (H0:Hp) (L:Lay) (h:Ev) (ds:List Int) (w:Wk) (x:Str) (v:V) (F:Fm),vs=[.ref L.d,.str x,v]/\Dg CD CS bs qs H0 H L h ds w/\x∈bs/\FmI bs qs H0 v F/\w.len < 400000 /\
  rp cf (fun w' G'=>Dg CD CS bs qs H0 G' L h ds w') H0 (w.len + 4) (doD h ds (.draw x F) w) Q E
theorem FW:bV ["doing","box","formula","divisor","draws","draw"] ["doing","box","formula"] (aQ lB):=⟨rfl,rfl,rfl,by decide +kernel,rfl,by decide +kernel,by decide +kernel⟩
theorem En (D:Df K mg "do_draw" lB ["doing","box","formula"] f fd) (MR:Mt K CD "reckon" "Doing.reckon" eG ["self","formula"] fR fdR) (GR:bT P w K mg base (CXo P w) 18 fR fdR ["self","formula"] (rq cf CD CS bs qs)) (MF:Mt K CD "fill" "Doing.fill" gp ["self","box","worth"] fF fdF) (T:DT K mg CD) (TF:Eh K mg cf) (TM:MdT K mg CM CS) (B:Bl mg) :
    bT P w K mg base (CXo P w) 19 f fd ["doing","box","formula"] (wR cf CD CS bs qs):=by
  have GF:bT P w K mg base CX0 1 fF fdF ["self","box","worth"] (wO CD CS bs qs):=wQ MF T TM
  refine D.F.okX FW (fun vs H Q E h=>?_) (fun cdv A outer s H vs Q E hr h=>?_)
  · obtain ⟨H0,L,e,ds,w,x,v,F,rfl,_⟩:=h
    rfl
  obtain ⟨H0,L,e,ds,w,x,v,F,rfl,g,hx,hF,fw,p⟩:=h
  have r1:dP 1 _:=hr.mono (by omega)
  refine ⟨_,ak (bz (i:=3) FW.nd rfl (Or.inl rfl) (gI (pv 0) T.cl MR.m GR hr MR.b .nil (dN.passes fun _ _ _ z=>z) (aq (pv 2) ao)))
    (ak (cZ (cu tI (pv 3) ay (cE _)) (aF (jR dN rfl rfl TF.two.mN TF.two.xN (aq bU ao))) cy)
    (ak (bz (i:=4) FW.nd rfl (Or.inl rfl) (bZ cF (cN (pv 0) rfl) ay (fun _ _=>rfl)))
    (ak (cZ (qN (tL (pv 4) (fun _=>rfl))) (aF (jR dN rfl rfl TF.mD TF.xD (aq bU ao))) cy)
    (ak (bz (i:=5) FW.nd rfl (Or.inl rfl) (bZ dZ (pv 4) (cP lQ (cN (cN (pv 0) rfl) rfl) (dA gY (by rfl) B.len cI (aq (pv 4) ao))) (fun _ _=>rfl)))
    (ak (vg (cN (pv 0) rfl) ay Cr)
    (aF (dW (gI (pv 0) T.cl MF.m GF r1 MF.b .nil cm (aq (pv 1) (aq (cP lQ (pv 5) (pv 3)) ao)))))))))),?_⟩
  simp only [doD] at p
  refine ⟨_,rfl,L.d,L.dx,_,rfl,g.hd,mP _ _ _ _ _ _ _ _ (by decide +kernel),_,rfl,H0,L,e,ds,w,v,F,rfl,g,hF,fw,fun G1 g1=>?_⟩
  refine jX p g1.sm fun n en p=>?_
  refine ⟨_,rfl,_,_,rfl,rfl,_,rfl,jt (fun c=>?_) (fun c=>?_)⟩
  · rw [if_pos (jv c)] at p
    exact ⟨(by show 1<=aA; decide),p _ g1.sm⟩
  have c:¬ n < 1:=jF c
  rw [if_neg c] at p
  obtain ⟨t,x1,x2,x3,x4,dl,em,hm,hdl⟩:=g1.hm
  refine ⟨_,rfl,L.d,CD,L.dx,_,_,rfl,g1.hd,T.cl,T.nM,Jg _ _ _ _ _ _ _ _,t,_,_,_,em,rfl,SqT.of (g1.sm _ _ hm),rfl,?_⟩
  have hdl1:=g1.sm _ _ hdl
  refine ⟨_,rfl,_,.inl ⟨_,SqL.of hdl1,rfl⟩,?_⟩
  cases hds:ds with
  | nil =>
    rw [hds] at p
    refine gF ?_
    exact ⟨(by show 1<=aA; decide),p _ g1.sm⟩
  | cons d0 dr =>
    rw [<- hds]
    have ne:¬ ds=[]:=by rw [hds]; intro z; cases z
    have pos:0 < ds.length:=by rw [hds]; exact je _
    rw [if_neg ne] at p
    have nb:(!(!(ds.map V.int).isEmpty))=false:=by rw [hds]; rfl
    rw [nb]
    refine fV ?_
    have lt:w.dr % ds.length < ds.length:=Nat.mod_lt _ pos
    have ix:atI (ds.map V.int) ((w.dr:Int) % (((ds.map V.int).length:Nat):Int))=some (.int (ds.getD (w.dr % ds.length) 0)):=by
      rw [ar,<- Int.natCast_emod]
      exact jh (Em ds _ lt)
    refine ⟨_,rfl,_,rfl,L.d,CD,L.dx,_,_,rfl,g1.hd,T.cl,T.nS,uU _ _ _ _ _ _ _ _,L.st,CS,L.dxs,_,_,rfl,g1.hst,TM.clS,TM.nD,Jl _ _ _ _,_,rfl,dl,_,rfl,.inl (SqL.of hdl1),_,_,rfl,rfl,(by rw [ar]; omega),dl,_,_,_,rfl,rfl,SqL.of hdl1,ix,?_⟩
    refine ⟨_,rfl,L.d,CD,L.dx,_,_,rfl,g1.hd,T.cl,T.nS,uU _ _ _ _ _ _ _ _,L.st,CS,L.dxs,_,_,rfl,g1.hst,TM.clS,TM.nD,Jl _ _ _ _,_,_,rfl,rfl,L.dxs,_,g1.hst,Ec _ _ _ _,?_⟩
    rw [Jj]
    have g2:=g1.counts (w.dr + 1) w.se
    have wn:Wo n:=rW g1.asks (hF.1.same g1.sm) en
    have wm:Wo (ds.getD (w.dr % ds.length) 0 % n):=by
      have a1:=gN (ds.getD (w.dr % ds.length) 0) (show n≠0 by omega)
      have a2:=gf (ds.getD (w.dr % ds.length) 0) (show 0 < n by omega)
      unfold Wo at wn |-
      omega
    exact ⟨_,rfl,L.d,L.dx,_,rfl,g2.hd,mP _ _ _ _ _ _ _ _ (by decide +kernel),_,rfl,_,rfl,_,rfl,_,_,rfl,rfl,(by omega),H0,L,e,ds,_,x,_,rfl,g2,hx,wm,fun G' g3=>p G' g3 (zw (w:=w) (F:=F))⟩
def zy (cf:Flt->aa) (CD CS:aa) (bs qs:List Str):Sp:=fun vs H Q E=>∃ (H0:Hp) (L:Lay) (h:Ev) (ds:List Int) (w:Wk) (t:aa) (u u1 u2:V) (to:Int) (sg:Str) (rk:Int) (F F1 F2:Fm),vs=[.ref L.d,.ref t]/\Dg CD CS bs qs H0 H L h ds w/\H0 t=some (.tup [.str "send",.int to,.str sg,u,.int rk,u1,u2]) /\
  FmI bs qs H0 u F/\FmI bs qs H0 u1 F1/\FmI bs qs H0 u2 F2/\w.len + 4 < 400000/\rp cf (fun w' G'=>Dg CD CS bs qs H0 G' L h ds w') H0 (w.len + 4) (doD h ds (.send to sg F rk F1 F2) w) Q E
theorem Bq:bV ["doing","deed","span","first","second","when","key"] ["doing","deed"] (aQ lC):=⟨rfl,rfl,rfl,by decide +kernel,rfl,by decide +kernel,by decide +kernel⟩
theorem FX (D:Df K mg "do_send" lC ["doing","deed"] f fd) (MR:Mt K CD "reckon" "Doing.reckon" eG ["self","formula"] fR fdR) (GR:bT P w K mg base (CXo P w) 18 fR fdR ["self","formula"] (rq cf CD CS bs qs)) (MN:Mt K CD "now" "Doing.now" iE ["self"] fN fdN) (T:DT K mg CD) (TF:Eh K mg cf) (TM:MdT K mg CM CS) (B:Bl mg) :
    bT P w K mg base (CXo P w) 19 f fd ["doing","deed"] (zy cf CD CS bs qs):=by
  have GN:bT P w K mg base CX0 1 fN fdN ["self"] (Ei CD CS bs qs):=Ej MN T
  refine D.F.okX Bq (fun vs H Q E h=>?_) (fun cdv A outer s H vs Q E hr h=>?_)
  · obtain ⟨H0,L,e,ds,w,t,u,u1,u2,to,sg,rk,F,F1,F2,rfl,_⟩:=h
    rfl
  obtain ⟨H0,L,e,ds,w,t,u,u1,u2,to,sg,rk,F,F1,F2,rfl,g,ht,hF,hF1,hF2,lo,p⟩:=h
  have r1:dP 1 _:=hr.mono (by omega)
  refine ⟨_,ak (bz (i:=2) Bq.nd rfl (Or.inl rfl) (gI (pv 0) T.cl MR.m GR hr MR.b .nil (dN.passes fun _ _ _ z=>z) (aq (bZ cF (pv 1) ay (fun _ _=>rfl)) ao)))
    (ak (cZ (B7 (cu tI (pv 2) ay (cE _)) (yH (cu tJ (pv 2) (cP vY ay ay) (cE _)))).pt (aF (jR dN rfl rfl TF.mS TF.xS (aq bU ao))) cy)
    (ak (bz (i:=3) Bq.nd rfl (Or.inl rfl) (gI (pv 0) T.cl MR.m GR hr MR.b .nil (dN.passes fun _ _ _ z=>z) (aq (bZ cF (pv 1) ay (fun _ _=>rfl)) ao)))
    (ak (bz (i:=4) Bq.nd rfl (Or.inl rfl) (gI (pv 0) T.cl MR.m GR hr MR.b .nil (dN.passes fun _ _ _ z=>z) (aq (bZ cF (pv 1) ay (fun _ _=>rfl)) ao)))
    (ak (bz (i:=5) Bq.nd rfl (Or.inl rfl) (cP fJ (p9 (pv 0) T.cl MN.m GN r1 MN.b .nil cm) (pv 2)))
    (ak (cZ (cu tJ (pv 5) (cP vY ay ay) (cE _)) (aF (jR dN rfl rfl TF.mL TF.xL (aq bU ao))) cy)
    (ak (bz (i:=6) Bq.nd rfl (Or.inl rfl) (cR (aq (pv 5) (aq (bZ cF (pv 1) ay (fun _ _=>rfl)) (aq (bZ cF (cN (pv 0) rfl) ay (fun _ _=>rfl)) (aq (cN (cN (pv 0) rfl) rfl) ao))))))
    (ak (vg (cN (pv 0) rfl) ay Cr)
    (aF (dW (jr bK cg cj e7 (cN (pv 0) rfl) (aq (cR (aq (pv 6) (aq (bZ cF (pv 1) ay (fun _ _=>rfl)) (aq (bZ cF (pv 1) ay (fun _ _=>rfl)) (aq (pv 3) (aq (pv 4) ao)))))) ao))))))))))),?_⟩
  simp only [doD] at p
  have f0:w.len < 400000:=by omega
  have f1:Wk.len {w with rk:=w.rk++[F]} < 400000:=by
    show w.out.length + (w.rk++[F]).length < 400000
    rw [aE]
    have:w.out.length + w.rk.length + 4 < 400000:=lo
    show _ + (_ + 1) < _
    omega
  have f2:Wk.len {w with rk:=w.rk++[F]++[F1]} < 400000:=by
    show w.out.length + (w.rk++[F]++[F1]).length < 400000
    rw [aE,aE]
    have:w.out.length + w.rk.length + 4 < 400000:=lo
    show _ + (_ + 1 + 1) < _
    omega
  have l1:1<=aA:=by decide
  have c6:Cg 10 6:=⟨by decide,by decide,by decide⟩
  have c12:Cg 10 12:=⟨by decide,by decide,by decide⟩
  have tt:∀ {G:Hp},bM H0 G->SqT K G t [.str "send",.int to,.str sg,u,.int rk,u1,u2]:=fun {G} z=>SqT.of (z _ _ ht)
  refine ⟨_,rfl,L.d,L.dx,_,rfl,g.hd,mP _ _ _ _ _ _ _ _ (by decide +kernel),_,rfl,t,_,_,_,rfl,rfl,tt g.sm,rfl,H0,L,e,ds,w,u,F,rfl,g,hF,f0,fun G1 g1=>?_⟩
  refine jX p g1.sm fun n en p=>?_
  refine ⟨_,rfl,_,_,rfl,rfl,_,rfl,jt (fun c=>?_) (fun c=>?_)⟩
  · rw [if_pos (.inl (jv c))] at p
    exact gF ⟨l1,p _ g1.sm⟩
  have c:¬ n < 1:=jF c
  refine ⟨_,rfl,_,_,rfl,rfl,c6,_,_,rfl,rfl,_,rfl,jt (fun c2=>?_) (fun c2=>?_)⟩
  · rw [if_pos (.inr (jv c2))] at p
    exact ⟨l1,p _ g1.sm⟩
  have c2:¬ 10 ^ 6 < n:=jF c2
  rw [if_neg (fun z=>z.elim c c2)] at p
  refine ⟨_,rfl,L.d,L.dx,_,rfl,g1.hd,mP _ _ _ _ _ _ _ _ (by decide +kernel),_,rfl,t,_,_,_,rfl,rfl,tt g1.sm,rfl,H0,L,e,ds,_,u1,F1,rfl,g1,hF1,f1,fun G2 g2=>?_⟩
  refine jX p g2.sm fun n1 en1 p=>?_
  refine ⟨_,rfl,L.d,L.dx,_,rfl,g2.hd,mP _ _ _ _ _ _ _ _ (by decide +kernel),_,rfl,t,_,_,_,rfl,rfl,tt g2.sm,rfl,H0,L,e,ds,_,u2,F2,rfl,g2,hF2,f2,fun G3 g3=>?_⟩
  refine jX p g3.sm fun n2 en2 p=>?_
  refine ⟨_,rfl,L.d,L.dx,_,rfl,g3.hd,mP _ _ _ _ _ _ _ _ (by decide +kernel),H0,L,e,ds,_,rfl,g3,_,rfl,_,_,rfl,rfl,?_⟩
  refine ⟨_,rfl,_,_,rfl,rfl,c12,_,_,rfl,rfl,_,rfl,jt (fun c3=>?_) (fun c3=>?_)⟩
  · rw [if_pos (show 10 ^ 12 < e.t + n from jv c3)] at p
    exact ⟨l1,p _ g3.sm⟩
  rw [if_neg (show ¬ 10 ^ 12 < e.t + n from jF c3)] at p
  obtain ⟨th,kh,eh,h1,h2⟩:=g3.hh
  refine ⟨_,rfl,_,rfl,t,_,_,_,rfl,rfl,tt g3.sm,rfl,_,rfl,L.d,CD,L.dx,_,_,rfl,g3.hd,T.cl,T.nH,FO _ _ _ _ _ _ _ _,th,_,_,_,eh,rfl,SqT.of (g3.sm _ _ h1),rfl,_,rfl,L.d,CD,L.dx,_,_,rfl,g3.hd,T.cl,T.nS,uU _ _ _ _ _ _ _ _,L.st,CS,L.dxs,_,_,rfl,g3.hst,TM.clS,TM.nS,Jm _ _ _ _,(by show 4<=aA; decide),fun ky hk=>?_⟩
  have s4:=aD hk (.tup [.int (e.t + n),.int rk,.int e.to,.int w.se])
  have g4:=g3.same s4
  refine ⟨_,rfl,L.d,CD,L.dx,_,_,rfl,g4.hd,T.cl,T.nS,uU _ _ _ _ _ _ _ _,L.st,CS,L.dxs,_,_,rfl,g4.hst,TM.clS,TM.nS,Jm _ _ _ _,_,_,rfl,rfl,L.dxs,_,g4.hst,Ec _ _ _ _,?_⟩
  rw [Jk]
  have g5:=g4.counts w.dr (w.se + 1)
  have hky:∀ {G:Hp} {o o':HO},G ky=some (.tup [.int (e.t + n),.int rk,.int e.to,.int w.se])->G L.st=some o'->(∀ xs,o'≠.tup xs)->upd G L.st o ky=some (.tup [.int (e.t + n),.int rk,.int e.to,.int w.se]):=fun h1 h2 h3=>aX h1 (kT h1 h2 (fun z=>h3 _ z.symm))
  have k5:=hky (o:=.ins CS L.dxs (me (.ref L.bd) (.ref L.qd) (.int w.dr) (.int (w.se + 1)))) (ah:upd G3 ky _ ky=_) g4.hst (fun xs z=>by cases z)
  obtain ⟨vs,o1,o2⟩:=g5.ho
  refine ⟨_,rfl,L.d,CD,L.dx,_,_,rfl,g5.hd,T.cl,T.nO,dF_o _ _ _ _ _ _ _ _,.inl ⟨rfl,_,SqL.of o1⟩,?_⟩
  refine ⟨_,rfl,_,rfl,t,_,_,_,rfl,rfl,tt g5.sm,rfl,_,rfl,t,_,_,_,rfl,rfl,tt g5.sm,rfl,_,rfl,_,rfl,lt5,fun ev hev=>?_⟩
  have s6:=aD hev (.tup [.ref ky,.int to,.str sg,.int n1,.int n2])
  have g6:=g5.same s6
  have ol:vs.length < aA:=by
    have:=aT o2
    have z:vs.length=w.out.length:=this
    have:400000 < aA:=by decide
    have:w.out.length + w.rk.length + 4 < 400000:=lo
    omega
  refine ⟨L.od,vs,_,rfl,rfl,s6 _ _ o1,ol,?_⟩
  have g7:=g6.sent (v:=.ref ev) (e:=⟨e.t + n,rk,e.to,w.se,to,sg,n1,n2⟩) (s6 _ _ o1) ⟨ev,ky,rfl,ah,s6 _ _ k5⟩ ⟨rW g1.asks (hF1.1.same g1.sm) en1,rW g2.asks (hF2.1.same g2.sm) en2⟩
  exact p _ g7 (FS (w:=w) (F:=F) (F1:=F1) (F2:=F2))
end
end My
namespace My
open PySem L2
mutual
def Dd.size:Dd->Nat
  | .pull _ _ o=>o.size + 1
  | .ife _ t e=>t.size + e.size + 1
  | _=>1
def Ds.size:Ds->Nat
  | .nil=>0
  | .cons d r=>d.size + r.size
end
theorem rp.le {cf:Flt->aa} {dg:Wk->Hp->Prop} {H0:Hp} {m n:Nat} {r:Except Flt Wk} {Q:VK} {E:XK} (p:rp cf dg H0 n r Q E) (h:m<=n):rp cf dg H0 m r Q E:=by
  cases r with
  | ok w=>exact fun G g l=>p G g (c8 l h)
  | error e=>exact p
section
variable {P:aM} {w:bH} {K:af} {mg:Str->Option ae} {base:cB} {f fR fF fP fD fU fW fS f1 fQ CD CS CM:aa} {fd fdR fdF fdP fdD fdU fdW fdS fd1 fdQ:bY} {cf:Flt->aa} {bs qs:List Str}
def uc (cf:Flt->aa) (CD CS:aa) (bs qs:List Str) (n:Nat):Sp:=fun vs H Q E=>∃ (H0:Hp) (L:Lay) (h:Ev) (ds:List Int) (w:Wk) (v:V) (D:Ds),vs=[.ref L.d,v]/\Dg CD CS bs qs H0 H L h ds w/\kA H0 (eJ bs qs H0 D) v/\D.deep < n/\w.len + 4 * D.size < 400000 /\
  rp cf (fun w' G'=>Dg CD CS bs qs H0 G' L h ds w') H0 (w.len + 4 * D.size) (doS h ds D w) Q E
def spDd (cf:Flt->aa) (CD CS:aa) (bs qs:List Str) (n:Nat):Sp:=fun vs H Q E=>∃ (H0:Hp) (L:Lay) (h:Ev) (ds:List Int) (w:Wk) (v:V) (D:Dd),vs=[.ref L.d,v]/\Dg CD CS bs qs H0 H L h ds w/\dY bs qs H0 D v/\D.deep < n/\w.len + 4 * D.size < 400000 /\
  rp cf (fun w' G'=>Dg CD CS bs qs H0 G' L h ds w') H0 (w.len + 4 * D.size) (doD h ds D w) Q E
def Eo (cf:Flt->aa) (CD CS:aa) (bs qs:List Str) (n:Nat):Sp:=fun vs H Q E=>∃ (H0:Hp) (L:Lay) (h:Ev) (ds:List Int) (w:Wk) (q x:Str) (v:V) (D:Ds),vs=[.ref L.d,.str q,.str x,v]/\Dg CD CS bs qs H0 H L h ds w/\q∈qs/\x∈bs/\kA H0 (eJ bs qs H0 D) v/\D.deep < n/\w.len + 4 * D.size < 400000 /\
  rp cf (fun w' G'=>Dg CD CS bs qs H0 G' L h ds w') H0 (w.len + 4 * D.size) (doD h ds (.pull q x D) w) Q E
theorem scPl:bV ["doing","name","box","otherwise","queue"] ["doing","name","box","otherwise"] (aQ lA):=⟨rfl,rfl,rfl,by decide +kernel,rfl,by decide +kernel,by decide +kernel⟩
theorem FY {n k:Nat} (hk:1<=k) (D:Df K mg "do_pull" lA ["doing","name","box","otherwise"] f fd) (DD:Df K mg "do_deeds" gR ["doing","deeds"] fD fdD) (GD:bT P w K mg base (CXo P w) k fD fdD ["doing","deeds"] (uc cf CD CS bs qs n)) (MF:Mt K CD "fill" "Doing.fill" gp ["self","box","worth"] fF fdF) (MQ:Mt K CD "queue_of" "Doing.queue_of" eC ["self","name"] fQ fdQ) (T:DT K mg CD) (TM:MdT K mg CM CS) :
    bT P w K mg base (CXo P w) (k + 1) f fd ["doing","name","box","otherwise"] (Eo cf CD CS bs qs n):=by
  have GF:bT P w K mg base CX0 1 fF fdF ["self","box","worth"] (wO CD CS bs qs):=wQ MF T TM
  have GQ:bT P w K mg base CX0 1 fQ fdQ ["self","name"] (Ek CD CS bs qs):=El MQ T TM
  refine D.F.okX scPl (fun vs H Q E h=>?_) (fun cdv A outer s H vs Q E hr h=>?_)
  · obtain ⟨H0,L,e,ds,w,q,x,v,D,rfl,_⟩:=h
    rfl
  obtain ⟨H0,L,e,ds,w,q,x,v,D,rfl,g,hq,hx,hv,hn,ho,p⟩:=h
  have r1:dP 1 _:=hr.mono hk
  have hu:=o5 hr
  refine ⟨_,ak (bz (i:=4) scPl.nd rfl (Or.inl rfl) (gI (pv 0) T.cl MQ.m GQ r1 MQ.b .nil cm (aq (pv 1) ao)))
    (aF (cZ (tL (pv 4) (fun _=>rfl))
      (ak (dW (gI (pv 0) T.cl MF.m GF r1 MF.b .nil cm (aq (pv 2) (aq (jr bK xu xw CO (pv 4) (aq ay ao)) ao))))
      (aF (lV hu (cN (pv 0) rfl) (pv 1) jN rfl)))
      (aF (dW (aS GD hr rfl DD.m DD.F.kp DD.b .nil (dN.passes fun _ _ _ z=>z) (aq (pv 0) (aq (pv 3) ao))))))),?_⟩
  simp only [doD] at p
  refine ⟨_,rfl,L.d,L.dx,_,rfl,g.hd,mP _ _ _ _ _ _ _ _ (by decide +kernel),_,rfl,H0,L,e,ds,w,q,rfl,g,hq,fun G0 l g0 hl gl=>?_⟩
  refine ⟨_,rfl,_,.inl ⟨_,SqL.of gl,rfl⟩,?_⟩
  have gq:(iW w.qu q).length<=30/\∀ n∈iW w.qu q,Wo n:=wN g.ok hq
  cases e1:iW w.qu q with
  | nil =>
    rw [e1] at p
    refine fV ?_
    exact ⟨_,rfl,_,rfl,H0,L,e,ds,_,v,D,rfl,g0,hv,hn,ho,p⟩
  | cons m ms =>
    rw [e1] at p gl gq
    refine gF ?_
    have g1:=g0.queue (x:=q) (l:=l) (ns:=ms) hl (by have:=gq.1; rw [aP] at this; omega) (fun z hz=>gq.2 z (ag _ hz))
    refine ⟨_,rfl,L.d,L.dx,_,rfl,g0.hd,mP _ _ _ _ _ _ _ _ (by decide +kernel),_,rfl,_,rfl,.inl ⟨rfl,_,SqL.of gl⟩,l,_,_,0,.int m,rfl,rfl,gl,(by decide),(by decide),(wj (n:=((m :: ms).map V.int).length) (i:=0) (j:=0) (by unfold ixN; rw [if_pos (by decide),if_pos (by rw [ar,aP]; omega)]; rfl)).1,rfl,?_⟩
    refine ⟨H0,L,e,ds,_,x,m,rfl,g1,hx,gq.2 m aw,fun G2 g2=>?_⟩
    have g3:=g2.wrote (x:=q) (bF _ hq)
    exact ⟨_,rfl,L.d,CD,L.dx,_,_,rfl,g2.hd,T.cl,T.nW,Eb _ _ _ _ _ _ _ _,_,rfl,L.wd,_,rfl,g2.putW q,p _ g3 (FZ _ _)⟩
theorem scDd:bV ["doing","deed","kind"] ["doing","deed"] (aQ kZ):=⟨rfl,rfl,rfl,by decide +kernel,rfl,by decide +kernel,by decide +kernel⟩
theorem F4 {n k:Nat} (hk:19<=k) (D:Df K mg "do_deed" kZ ["doing","deed"] f fd) (DD:Df K mg "do_deeds" gR ["doing","deeds"] fD fdD) (GD:bT P w K mg base (CXo P w) k fD fdD ["doing","deeds"] (uc cf CD CS bs qs n))
    (MF:Mt K CD "fill" "Doing.fill" gp ["self","box","worth"] fF fdF) (MR:Mt K CD "reckon" "Doing.reckon" eG ["self","formula"] fR fdR) (GR:bT P w K mg base (CXo P w) 18 fR fdR ["self","formula"] (rq cf CD CS bs qs))
    (DP:Df K mg "do_pull" lA ["doing","name","box","otherwise"] fP fdP) (DU:Df K mg "do_push" lu ["doing","name","formula"] fU fdU) (GU:bT P w K mg base (CXo P w) 19 fU fdU ["doing","name","formula"] (zx cf CD CS bs qs))
    (DW:Df K mg "do_draw" lB ["doing","box","formula"] fW fdW) (GW:bT P w K mg base (CXo P w) 19 fW fdW ["doing","box","formula"] (wR cf CD CS bs qs)) (DS:Df K mg "do_send" lC ["doing","deed"] fS fdS) (GS:bT P w K mg base (CXo P w) 19 fS fdS ["doing","deed"] (zy cf CD CS bs qs)) (MQ:Mt K CD "queue_of" "Doing.queue_of" eC ["self","name"] fQ fdQ) (T:DT K mg CD) (TM:MdT K mg CM CS) :
    bT P w K mg base (CXo P w) (k + 2) f fd ["doing","deed"] (spDd cf CD CS bs qs (n + 1)):=by
  have GF:bT P w K mg base CX0 1 fF fdF ["self","box","worth"] (wO CD CS bs qs):=wQ MF T TM
  have GP:bT P w K mg base (CXo P w) (k + 1) fP fdP ["doing","name","box","otherwise"] (Eo cf CD CS bs qs n):=FY (by omega) DP DD GD MF MQ T TM
  refine D.F.okX scDd (fun vs H Q E h=>?_) (fun cdv A outer s H vs Q E hr h=>?_)
  · obtain ⟨H0,L,e,ds,w,v,D,rfl,_⟩:=h
    rfl
  obtain ⟨H0,L,e,ds,w,v,D,rfl,g,hv,hn,ho,p⟩:=h
  have r1:dP 1 _:=hr.mono (by omega)
  have r18:dP 18 _:=hr.mono (by omega)
  have r19:dP 19 _:=hr.mono (by omega)
  have rk:dP k _:=hr.mono (by omega)
  refine ⟨_,ak (bz (i:=2) scDd.nd rfl (Or.inl rfl) (bZ cF (pv 1) ay (fun _ _=>rfl)))
    (aF (cZ (cu ff (pv 2) bU (cE _)) (aF (dW (gI (pv 0) T.cl MF.m GF r1 MF.b .nil cm (aq (bZ cF (pv 1) ay (fun _ _=>rfl)) (aq (gI (pv 0) T.cl MR.m GR r18 MR.b .nil (dN.passes fun _ _ _ z=>z) (aq (bZ cF (pv 1) ay (fun _ _=>rfl)) ao)) ao)))))
    (aF (cZ (cu ff (pv 2) bU (cE _)) (aF (dW (aS GU r19 rfl DU.m DU.F.kp DU.b .nil (dN.passes fun _ _ _ z=>z) (aq (pv 0) (aq (bZ cF (pv 1) ay (fun _ _=>rfl)) (aq (bZ cF (pv 1) ay (fun _ _=>rfl)) ao))))))
    (aF (cZ (cu ff (pv 2) bU (cE _)) (aF (dW (aS GP hr rfl DP.m DP.F.kp DP.b .nil (dN.passes fun _ _ _ z=>z) (aq (pv 0) (aq (bZ cF (pv 1) ay (fun _ _=>rfl)) (aq (bZ cF (pv 1) ay (fun _ _=>rfl)) (aq (bZ cF (pv 1) ay (fun _ _=>rfl)) ao)))))))
    (aF (cZ (cu ff (pv 2) bU (cE _)) (aF (dW (aS GW r19 rfl DW.m DW.F.kp DW.b .nil (dN.passes fun _ _ _ z=>z) (aq (pv 0) (aq (bZ cF (pv 1) ay (fun _ _=>rfl)) (aq (bZ cF (pv 1) ay (fun _ _=>rfl)) ao))))))
    (aF (cZ (cu ff (pv 2) bU (cE _)) (aF (dW (aS GS r19 rfl DS.m DS.F.kp DS.b .nil (dN.passes fun _ _ _ z=>z) (aq (pv 0) (aq (pv 1) ao)))))
    (aF (cZ (cu ff (pv 2) bU (cE _)) (aF (dW (aS GD rk rfl DD.m DD.F.kp DD.b .nil (dN.passes fun _ _ _ z=>z) (aq (pv 0) (aq (pZ (cu Ho (gI (pv 0) T.cl MR.m GR r18 MR.b .nil (dN.passes fun _ _ _ z=>z) (aq (bZ cF (pv 1) ay (fun _ _=>rfl)) ao)) ay (cE _)) (bZ cF (pv 1) ay (fun _ _=>rfl)) (bZ cF (pv 1) ay (fun _ _=>rfl))) ao)))))
    (aF (cZ (cu ff (pv 2) bU (cE _)) (aF (e9 (pv 0) jN rfl)) cy)))))))))))))),?_⟩
  have no:∀ {m:Str},zv.contains m=false->(dF L.m L.hv L.st L.wd L.od w.en L.rd L.ud).lookup m=none:=fun z=>mP _ _ _ _ _ _ _ _ z
  have nx:∀ {a b:Str} {p1 p2:Prop},(a == b)=false->p2->(if decide (V.str a=V.str b)=true then p1 else p2):=fun z q=>lG (sF (sne z)) (fV q)
  have yx:∀ {a:Str} {p1 p2:Prop},p1->(if decide (V.str a=V.str a)=true then p1 else p2):=fun q=>lG (Bn _) (gF q)
  have fw:w.len < 400000:=by omega
  cases D with
  | put x F =>
    obtain ⟨t,u,rfl,ht,hx,hF⟩:=(by simpa only [dY] using hv)
    have tt:=SqT.of (K:=K) (g.sm _ _ ht)
    simp only [doD] at p
    refine ⟨_,rfl,t,_,_,_,rfl,rfl,tt,rfl,_,rfl,rfl,_,rfl,yx ?_⟩
    refine ⟨_,rfl,L.d,L.dx,_,rfl,g.hd,no (by decide +kernel),_,rfl,t,_,_,_,rfl,rfl,tt,rfl,?_⟩
    refine ⟨_,rfl,L.d,L.dx,_,rfl,g.hd,no (by decide +kernel),_,rfl,t,_,_,_,rfl,rfl,tt,rfl,H0,L,e,ds,w,u,F,rfl,g,hF,fw,fun G1 g1=>?_⟩
    refine jX p g1.sm fun m em p=>?_
    exact ⟨H0,L,e,ds,_,x,m,rfl,g1,hx,rW g1.asks (hF.1.same g1.sm) em,fun G' g'=>p G' g' (zw (w:=w) (F:=F))⟩
  | push x F =>
    obtain ⟨t,u,rfl,ht,hx,hF⟩:=(by simpa only [dY] using hv)
    have tt:=SqT.of (K:=K) (g.sm _ _ ht)
    refine ⟨_,rfl,t,_,_,_,rfl,rfl,tt,rfl,_,rfl,rfl,_,rfl,nx (by decide +kernel) ?_⟩
    refine ⟨_,rfl,rfl,_,rfl,yx ?_⟩
    exact ⟨_,rfl,_,rfl,t,_,_,_,rfl,rfl,tt,rfl,_,rfl,t,_,_,_,rfl,rfl,tt,rfl,H0,L,e,ds,w,x,u,F,rfl,g,hx,hF,fw,p⟩
  | pull q x o =>
    obtain ⟨t,u,rfl,ht,hq,hx,hl⟩:=(by simpa only [dY] using hv)
    have tt:=SqT.of (K:=K) (g.sm _ _ ht)
    simp only [Dd.deep] at hn
    simp only [Dd.size] at ho p
    refine ⟨_,rfl,t,_,_,_,rfl,rfl,tt,rfl,_,rfl,rfl,_,rfl,nx (by decide +kernel) ?_⟩
    refine ⟨_,rfl,rfl,_,rfl,nx (by decide +kernel) ?_⟩
    refine ⟨_,rfl,rfl,_,rfl,yx ?_⟩
    exact ⟨_,rfl,_,rfl,t,_,_,_,rfl,rfl,tt,rfl,_,rfl,t,_,_,_,rfl,rfl,tt,rfl,_,rfl,t,_,_,_,rfl,rfl,tt,rfl,H0,L,e,ds,w,q,x,u,o,rfl,g,hq,hx,hl,(by omega),(by omega),p.le (by omega)⟩
  | draw x F =>
    obtain ⟨t,u,rfl,ht,hx,hF⟩:=(by simpa only [dY] using hv)
    have tt:=SqT.of (K:=K) (g.sm _ _ ht)
    refine ⟨_,rfl,t,_,_,_,rfl,rfl,tt,rfl,_,rfl,rfl,_,rfl,nx (by decide +kernel) ?_⟩
    refine ⟨_,rfl,rfl,_,rfl,nx (by decide +kernel) ?_⟩
    refine ⟨_,rfl,rfl,_,rfl,nx (by decide +kernel) ?_⟩
    refine ⟨_,rfl,rfl,_,rfl,yx ?_⟩
    exact ⟨_,rfl,_,rfl,t,_,_,_,rfl,rfl,tt,rfl,_,rfl,t,_,_,_,rfl,rfl,tt,rfl,H0,L,e,ds,w,x,u,F,rfl,g,hx,hF,fw,p⟩
  | send to sg F rk F1 F2 =>
    obtain ⟨t,u,u1,u2,rfl,ht,hF,hF1,hF2⟩:=(by simpa only [dY] using hv)
    have tt:=SqT.of (K:=K) (g.sm _ _ ht)
    simp only [Dd.size] at ho p
    refine ⟨_,rfl,t,_,_,_,rfl,rfl,tt,rfl,_,rfl,rfl,_,rfl,nx (by decide +kernel) ?_⟩
    refine ⟨_,rfl,rfl,_,rfl,nx (by decide +kernel) ?_⟩
    refine ⟨_,rfl,rfl,_,rfl,nx (by decide +kernel) ?_⟩
    refine ⟨_,rfl,rfl,_,rfl,nx (by decide +kernel) ?_⟩
    refine ⟨_,rfl,rfl,_,rfl,yx ?_⟩
    exact ⟨_,rfl,_,rfl,H0,L,e,ds,w,t,u,u1,u2,to,sg,rk,F,F1,F2,rfl,g,ht,hF,hF1,hF2,(by omega),p⟩
  | ife F x y =>
    obtain ⟨t,u,u1,u2,rfl,ht,hF,hX,hY⟩:=(by simpa only [dY] using hv)
    simp only [Dd.deep] at hn
    simp only [Dd.size] at ho p
    simp only [doD] at p
    have tt:=SqT.of (K:=K) (g.sm _ _ ht)
    refine ⟨_,rfl,t,_,_,_,rfl,rfl,tt,rfl,_,rfl,rfl,_,rfl,nx (by decide +kernel) ?_⟩
    refine ⟨_,rfl,rfl,_,rfl,nx (by decide +kernel) ?_⟩
    refine ⟨_,rfl,rfl,_,rfl,nx (by decide +kernel) ?_⟩
    refine ⟨_,rfl,rfl,_,rfl,nx (by decide +kernel) ?_⟩
    refine ⟨_,rfl,rfl,_,rfl,nx (by decide +kernel) ?_⟩
    refine ⟨_,rfl,rfl,_,rfl,yx ?_⟩
    refine ⟨_,rfl,_,rfl,L.d,L.dx,_,rfl,g.hd,no (by decide +kernel),_,rfl,t,_,_,_,rfl,rfl,tt,rfl,H0,L,e,ds,w,u,F,rfl,g,hF,fw,fun G1 g1=>?_⟩
    have tt1:=SqT.of (K:=K) (g1.sm _ _ ht)
    have lw:Wk.len {w with rk:=w.rk++[F]}=w.len + 1:=by
      show w.out.length + (w.rk++[F]).length=w.out.length + w.rk.length + 1
      rw [aE]
      rfl
    refine jX p g1.sm fun m em p=>?_
    refine ⟨rfl,_,rfl,?_⟩
    by_cases c:m=0
    · subst c
      rw [if_pos rfl] at p
      refine lG (b:=false) rfl (fV ?_)
      exact ⟨_,rfl,t,_,_,_,rfl,rfl,tt1,rfl,H0,L,e,ds,_,u2,y,rfl,g1,hY,(by omega),(by rw [lw]; omega),p.le (by rw [lw]; omega)⟩
    · rw [if_neg c] at p
      refine lG (b:=true) (by rw [decide_eq_false (fun z=>c (wM z))]; rfl) (gF ?_)
      exact ⟨_,rfl,t,_,_,_,rfl,rfl,tt1,rfl,H0,L,e,ds,_,u1,x,rfl,g1,hX,(by omega),(by rw [lw]; omega),p.le (by rw [lw]; omega)⟩
  | fin =>
    obtain ⟨t,rfl,ht⟩:=(by simpa only [dY] using hv)
    have tt:=SqT.of (K:=K) (g.sm _ _ ht)
    simp only [doD] at p
    refine ⟨_,rfl,t,_,_,_,rfl,rfl,tt,rfl,_,rfl,rfl,_,rfl,nx (by decide +kernel) ?_⟩
    refine ⟨_,rfl,rfl,_,rfl,nx (by decide +kernel) ?_⟩
    refine ⟨_,rfl,rfl,_,rfl,nx (by decide +kernel) ?_⟩
    refine ⟨_,rfl,rfl,_,rfl,nx (by decide +kernel) ?_⟩
    refine ⟨_,rfl,rfl,_,rfl,nx (by decide +kernel) ?_⟩
    refine ⟨_,rfl,rfl,_,rfl,nx (by decide +kernel) ?_⟩
    refine ⟨_,rfl,rfl,_,rfl,yx ?_⟩
    refine ⟨_,rfl,L.d,CD,L.dx,_,rfl,g.hd,T.cl,T.nE,Jn _ _ _ _ _ _ _ _,?_⟩
    rw [Ji]
    exact p _ g.ended (FZ _ _)
theorem scDs:bV ["doing","deeds","deed"] ["doing","deeds"] (aQ gR):=⟨rfl,rfl,rfl,by decide +kernel,rfl,by decide +kernel,by decide +kernel⟩
theorem Br {n k:Nat} (D:Df K mg "do_deeds" gR ["doing","deeds"] f fd) (D1:Df K mg "do_deed" kZ ["doing","deed"] f1 fd1) (G1:bT P w K mg base (CXo P w) k f1 fd1 ["doing","deed"] (spDd cf CD CS bs qs n)) :
    bT P w K mg base (CXo P w) (k + 1) f fd ["doing","deeds"] (uc cf CD CS bs qs n):=by
  refine D.F.okX scDs (fun vs H Q E h=>?_) (fun cdv A outer s H vs Q E hr h=>?_)
  · obtain ⟨H0,L,e,ds,w,v,D,rfl,_⟩:=h
    rfl
  obtain ⟨H0,L,e,ds,w,v,D,rfl,g,⟨l,vs,rfl,hl,hlen,hD⟩,hn,ho,p⟩:=h
  refine ⟨_,aF (iy dN.own rfl (gW (pv 1)) (dy (i:=2) scDs.nd rfl (Or.inl rfl)) (aF (dW (aS G1 hr rfl D1.m D1.F.kp D1.b .nil (dN.passes fun _ _ _ z=>z) (aq (pv 0) (aq (pv 2) ao)))))),?_⟩
  refine ⟨_,rfl,l,rfl,⟨_,SqL.of (g.sm _ _ hl)⟩,iL (K:=K) (a:=l) (xs:=vs) (fun i σ G=>∃ (D':Ds) (w':Wk) (u:Option V),σ=[some (.ref L.d),some (.ref l),u]/\Dg CD CS bs qs H0 G L e ds w'/\eJ bs qs H0 D' (vs.drop i)/\D'.deep < n/\w'.len + 4 * D'.size<=w.len + 4 * D.size /\
    rp cf (fun w' G'=>Dg CD CS bs qs H0 G' L e ds w') H0 (w.len + 4 * D.size) (doS e ds D' w') Q E) ⟨D,w,none,rfl,g,hD,hn,aC _,p⟩ ?_ ?_ ?_⟩
  · rintro i σ G _ ⟨D',w',u,rfl,g',_⟩
    exact SqL.of (g'.sm _ _ hl)
  · rintro i x σ G hi ⟨D',w',u,rfl,g',hD',hn',ho',p'⟩
    have lt:i < vs.length:=(aB.mp hi).1
    have hx:vs[i]=x:=(aB.mp hi).2
    rw [kS lt,hx] at hD'
    cases D' with
    | nil =>
      simp only [eJ] at hD'
      cases hD'
    | cons d r =>
      obtain ⟨v0,vr,ev,hd,hr'⟩:=(by simpa only [eJ] using hD')
      cases ev
      simp only [Ds.deep] at hn'
      simp only [Ds.size] at ho'
      refine ⟨_,rfl,_,rfl,H0,L,e,ds,w',x,d,rfl,g',hd,(by omega),(by omega),?_⟩
      simp only [doS] at p'
      cases ed:doD e ds d w' with
      | error er =>
        rw [ed] at p'
        exact p'
      | ok w2 =>
        rw [ed] at p'
        intro G2 g2 l2
        exact ⟨r,w2,_,rfl,g2,hr',(by omega),(by omega),p'⟩
  · rintro σ G ⟨D',w',u,rfl,g',hD',hn',ho',p'⟩
    rw [EV] at hD'
    cases D' with
    | nil =>
      simp only [doS] at p'
      exact p' G g' (by omega)
    | cons d r =>
      obtain ⟨v0,vr,ev,_⟩:=(by simpa only [eJ] using hD')
      cases ev
theorem yh (D:Df K mg "do_deeds" gR ["doing","deeds"] f fd) (D1:Df K mg "do_deed" kZ ["doing","deed"] f1 fd1)
    (MF:Mt K CD "fill" "Doing.fill" gp ["self","box","worth"] fF fdF) (MR:Mt K CD "reckon" "Doing.reckon" eG ["self","formula"] fR fdR) (GR:bT P w K mg base (CXo P w) 18 fR fdR ["self","formula"] (rq cf CD CS bs qs))
    (DP:Df K mg "do_pull" lA ["doing","name","box","otherwise"] fP fdP) (DU:Df K mg "do_push" lu ["doing","name","formula"] fU fdU) (GU:bT P w K mg base (CXo P w) 19 fU fdU ["doing","name","formula"] (zx cf CD CS bs qs))
    (DW:Df K mg "do_draw" lB ["doing","box","formula"] fW fdW) (GW:bT P w K mg base (CXo P w) 19 fW fdW ["doing","box","formula"] (wR cf CD CS bs qs)) (DS:Df K mg "do_send" lC ["doing","deed"] fS fdS) (GS:bT P w K mg base (CXo P w) 19 fS fdS ["doing","deed"] (zy cf CD CS bs qs)) (MQ:Mt K CD "queue_of" "Doing.queue_of" eC ["self","name"] fQ fdQ) (T:DT K mg CD) (TM:MdT K mg CM CS) :
    ∀ n:Nat,bT P w K mg base (CXo P w) (20 + 3 * n) f fd ["doing","deeds"] (uc cf CD CS bs qs n)
  | 0=>by
    have no:∀ vs H Q E,¬ uc cf CD CS bs qs 0 vs H Q E:=fun vs H Q E h=>by
      obtain ⟨H0,L,e,ds,w,v,D,_,_,_,hn,_⟩:=h
      omega
    exact ⟨fun vs H Q E h=>absurd h (no vs H Q E),fun A outer s H args us vs Q E _ _ _ _ h=>absurd h (no vs H Q E)⟩
  | n + 1=>Br D D1 (F4 (n:=n) (k:=20 + 3 * n) (by omega) D1 D (yh D D1 MF MR GR DP DU GU DW GW DS GS MQ T TM n) MF MR GR DP DU GU DW GW DS GS MQ T TM)
end
end My
namespace L2
open PySem PySem.Spec PyProof.Rows
theorem zz {X:Cx}:mC X (.type "dict") (fun xs H Q=>∃ d kvs,xs=[V.ref d]/\H d=some (.dK kvs)/\∀ p,H p=none->Q (.ref p) (upd H p (.dK kvs))):=by
  intro pins s σ H xs us Q I r h
  obtain ⟨d,kvs,rfl,hd,q⟩:=h
  obtain ⟨u,rfl,ru⟩:=vals1 r
  cases ru
  obtain ⟨hz,n1,ws,k1,m1⟩:=(show d5 X.prog X.w H s.heap d (.dK kvs) from I.hok d _ hd)
  refine kt_call_dict (knd:=eY X.prog X.w) n1 m1 (by rw [<- k1.length]; exact hz) fun h' hn sb=>?_
  have kk:∀ b o,s.heap.get? b=some o->h'.get? b=some o:=fun b o e=>(sb.2 b (aL (aK e))).trans (aI _ e)
  exact ⟨.ref s.heap.objs.size,_,I.laid (a:=s.heap.objs.size) (o:=.dK kvs) (t':=s.toks) kk (aC _) (zb hz (beq_eq_false_iff_ne.mpr (eZ (aL I.big))) k1 hn),rfl,q _ (I.hok.fresh (aC _))⟩
end L2
namespace My
open PySem L2
def kN (CS:aa) (H:Hp) (st:aa) (bx:List (Str×Int)) (qu:List (Str×List Int)) (dr:Nat) (se:Int):Prop:=
  ∃ dx bd qd qa,H st=some (.ins CS dx (me (.ref bd) (.ref qd) (.int dr) (.int se)))/\H bd=some (.dK (boK bx))/\H qd=some (.dK (quK qa))/\fH H qa qu
theorem fH.same {G G':Hp} (s:bM G G') {qa:List (Str×aa)} {qu:List (Str×List Int)} (q:fH G qa qu):fH G' qa qu:=
  fH.keep (L:=⟨0,0,0,0,0,0,0,0,0,0,.non,.non,qa⟩) (fun a u e _=>s _ _ e) (fun _ h=>h) q
theorem kN.same {CS:aa} {H H':Hp} (s:bM H H') {st:aa} {bx:List (Str×Int)} {qu:List (Str×List Int)} {dr:Nat} {se:Int} (h:kN CS H st bx qu dr se):kN CS H' st bx qu dr se:=by
  obtain ⟨dx,bd,qd,qa,h1,h2,h3,h4⟩:=h
  exact ⟨dx,bd,qd,qa,s _ _ h1,s _ _ h2,s _ _ h3,h4.same s⟩
structure StNew (CS:aa) (H G:Hp) (st:aa) (bx:List (Str×Int)) (qu:List (Str×List Int)) (dr:Nat) (se:Int) (dxs bd qd:aa) (qa:List (Str×aa)):Prop where
  sm:bM H G
  hst:G st=some (.ins CS dxs (me (.ref bd) (.ref qd) (.int dr) (.int se)))
  hb:G bd=some (.dK (boK bx))
  hq:G qd=some (.dK (quK qa))
  hl:fH G qa qu
  nd:(st :: bd :: qd :: qa.map (·.2)).Nodup
  fr:∀ a∈st :: bd :: qd :: qa.map (·.2),H a=none
def Ep (CS:aa):Sp:=fun vs H Q _=>∃ (st:aa) (bx:List (Str×Int)) (qu:List (Str×List Int)) (dr:Nat) (se:Int),vs=[.ref st]/\kN CS H st bx qu dr se/\(qu.map (·.1)).Nodup/\qu.length < 100 /\
  ∀ (G:Hp) (st' dxs bd qd:aa) (qa:List (Str×aa)),StNew CS H G st' bx qu dr se dxs bd qd qa->Q (.ref st') G
theorem F5 {qa:List (Str×aa)} {x:Str} {l:aa} (h:x∉qa.map (·.1)):iV (quK qa) (Sum.inr x) (.ref l)=quK (qa++[(x,l)]):=by
  have e:qa.lookup x=none:=by
    cases z:qa.lookup x with
    | none=>rfl
    | some a=>exact absurd (cL.mpr ⟨_,oj z,rfl⟩) h
  unfold iV
  have v:kf (quK qa) (Sum.inr x)=none:=by
    have z:=qA V.ref x qa
    rw [e] at z
    exact z
  rw [jQ,v]
  show (if false=true then _ else _)=_
  rw [if_neg (by decide)]
  unfold quK
  rw [cA]
  rfl
theorem Aq (qa:List (Str×aa)):(quK qa).length=qa.length:=ar _
theorem fH.len {G:Hp} {qa:List (Str×aa)} {qu:List (Str×List Int)} (q:fH G qa qu):qa.length=qu.length:=aT q
theorem fH.nm {G:Hp}:∀ {qa:List (Str×aa)} {qu:List (Str×List Int)},fH G qa qu->qa.map (·.1)=qu.map (·.1)
  | _,_,.nil=>rfl
  | _ :: _,_ :: _,.cons a b=>by rw [bR,bR,a.1,fH.nm b]
theorem fH.nth {G:Hp}:∀ {qa:List (Str×aa)} {qu:List (Str×List Int)} {i:Nat} {p:Str×aa},fH G qa qu->qa[i]?=some p->∃ q,qu[i]?=some q/\p.1=q.1/\G p.2=some (.lst (q.2.map V.int))
  | _,_,i,p,.nil,h=>by simp at h
  | _ :: _,_ :: _,0,p,.cons a b,h=>by
    simp at h
    subst h
    exact ⟨_,rfl,a.1,a.2⟩
  | _ :: _,_ :: _,i + 1,p,.cons a b,h=>by
    obtain ⟨q,h1,h2⟩:=fH.nth (i:=i) (p:=p) b (by simpa using h)
    exact ⟨q,by simpa using h1,h2⟩
section
variable {P:aM} {w:bH} {K:af} {mg:Str->Option ae} {base:cB} {f fI CD CS CM:aa} {fd fdI:bY}
theorem F6:bV ["self","queues","name","worths"] ["self"] (aQ iQ):=⟨rfl,rfl,rfl,by decide +kernel,rfl,by decide +kernel,by decide +kernel⟩
theorem F7 (F:Fun K "copy" "State.copy" iQ f fd) (MS:Mk K CS fI) (FI:Fun K "__init__" "State.__init__" iP fI fdI) (bI:Binds K fdI ["self","boxes","queues","drawn","sent"] []) (B:Bl mg) (T:MdT K mg CM CS) :
    bT P w K mg base CX0 3 f fd ["self"] (Ep CS):=by
  have GI:bT P w K mg base CX0 1 fI fdI ["self","boxes","queues","drawn","sent"] (Jb CS):=HB FI T
  refine F.ok F6 (fun vs H Q E h=>?_) (fun cdv A outer s H vs Q E hr h=>?_)
  · obtain ⟨st,bx,qu,dr,se,rfl,_⟩:=h
    rfl
  obtain ⟨st,bx,qu,dr,se,rfl,⟨dx,bd,qd,qa,hst,hb,hq,hl⟩,ndq,lq,k⟩:=h
  have hu:=o5 hr
  refine ⟨_,ak (bz (i:=1) F6.nd rfl (Or.inl rfl) qh)
    (ak (Fx (iy cQ rfl (Dc (cN (pv 0) rfl)) (Ca rfl (gA (dy (i:=2) F6.nd rfl (Or.inl rfl)) (gA (dy (i:=3) F6.nd rfl (Or.inl rfl)) p0))) (aF (lV hu (pv 1) (pv 2) (iC lU (by rfl) B.list boot_list (aq (pv 3) ao)) rfl))))
    (aF (bX (oF MS GI hr (by rfl) T.mS bI .nil cm (aq (iC zz (by rfl) B.dict boot_dict (aq (cN (pv 0) rfl) ao)) (aq (pv 1) (aq (cN (pv 0) rfl) (aq (cN (pv 0) rfl) ao)))))))),?_⟩
  intro d hd
  have s1:bM H (upd H d (.dK [])):=aD hd _
  have nf:∀ (ob:Obj) (u:HO),H qd≠some (.frz ob u):=fun ob u z=>by
    rw [hq] at z
    cases z
  have ndd:d≠qd:=(aG hq hd).symm
  have nlq:(qa.map (·.1)).Nodup:=by
    rw [hl.nm]
    exact ndq
  refine ⟨_,rfl,st,CS,dx,_,_,rfl,s1 _ _ hst,T.clS,T.nQ,FQ _ _ _ _,qd,_,rfl,s1 _ _ hq,nf,fun od=>?_⟩
  refine Bd (d:=qd) (od:=od) (kvs:=quK qa) (fun i σ G=>∃ (v2 v3:Option V) (qa':List (Str×aa)),σ=[some (.ref st),some (.ref d),v2,v3]/\G qd=some (.frz od (.dK (quK qa)))/\(∀ b o,H b=some o->b≠qd->G b=some o)/\G d=some (.dK (quK qa')) /\
    fH G qa' (qu.take i)/\(qa'.map (·.2)).Nodup/\∀ a∈qa'.map (·.2),H a=none/\a≠d) ⟨none,none,[],rfl,ah,fun b o e n=>?_,?_,?_,i0,fun a h=>by cases h⟩ ?_ ?_ ?_
  · rw [aJ n]
    exact s1 _ _ e
  · rw [aJ ndd]
    exact ah
  · rw [kE]
    exact .nil
  · rintro i σ G _ ⟨_,_,_,_,h1,_⟩
    exact h1
  · rintro i kv t σ G hi ⟨v2,v3,qa',rfl,g1,g2,g3,g4,g5,g6⟩ ht
    obtain ⟨p,hp,rfl⟩:∃ p,qa[i]?=some p/\kv=((Sum.inr p.1:Key),V.ref p.2):=by
      unfold quK at hi
      rw [bQ] at hi
      cases z:qa[i]? with
      | none =>
        rw [z] at hi
        cases hi
      | some p =>
        rw [z] at hi
        cases hi
        exact ⟨p,rfl,rfl⟩
    obtain ⟨q,hq1,hq2,hq3⟩:=hl.nth hp
    have st_:=aD ht (.tup [kV (Sum.inr p.1),.ref p.2])
    have npq:p.2≠qd:=kT hq3 hq (by intro z; cases z)
    refine ⟨t,_,rfl,SqT.of ah,rfl,_,_,rfl,_,_,rfl,rfl,?_⟩
    refine ⟨_,rfl,p.2,_,rfl,.inl (SqL.of (st_ _ _ (g2 _ _ hq3 npq))),fun l hl'=>?_⟩
    have sl:=aD hl' (.lst (q.2.map V.int))
    have gd2:=sl _ _ (st_ _ _ g3)
    have lti:i < qu.length:=(aB.mp hq1).1
    have tk:(qu.take (i + 1))=qu.take i++[q]:=by
      rw [fi,hq1]
      rfl
    have nin:p.1∉qa'.map (·.1):=by
      rw [g4.nm,hq2]
      intro z
      have nd2:((qu.take (i + 1)).map (·.1)).Nodup:=by
        rw [Jp]
        exact ndq.sublist (rM _ _)
      rw [tk,cA] at nd2
      exact (gS.mp nd2).2.2 _ z q.1 (by simp) rfl
    have len':(quK qa').length < aA:=by
      have z:=g4.len
      rw [cG] at z
      rw [Aq]
      have:=eU
      omega
    have dp:=sj.k (k:=Sum.inr p.1) (v:=.ref l) gd2 len'
    rw [F5 nin] at dp
    refine ⟨_,rfl,_,rfl,d,_,rfl,dp,?_⟩
    have nlG:G l=none:=by
      cases z:G l with
      | none=>rfl
      | some o =>
        have:=st_ _ _ z
        rw [hl'] at this
        cases this
    have nl0:H l=none:=by
      cases z:H l with
      | none=>rfl
      | some o =>
        by_cases c:l=qd
        · rw [c,g1] at nlG
          cases nlG
        · rw [g2 _ _ z c] at nlG
          cases nlG
    have nld:l≠d:=fun z=>by rw [z,g3] at nlG; cases nlG
    refine ⟨_,_,qa'++[(p.1,l)],rfl,?_,fun b o e n=>?_,ah,?_,?_,fun a ha=>?_⟩
    · rw [aJ ndd.symm]
      exact sl _ _ (st_ _ _ g1)
    · rw [aJ (aG e hd)]
      exact sl _ _ (st_ _ _ (g2 _ _ e n))
    · rw [tk]
      have old:fH (upd (upd (upd G t (.tup [kV (Sum.inr p.1),.ref p.2])) l (.lst (q.2.map V.int))) d (.dK (quK (qa'++[(p.1,l)])))) qa' (qu.take i):=
        fH.keep (L:=⟨0,0,0,0,0,0,0,0,0,0,.non,.non,qa'⟩) (fun a u e m=>aX (sl _ _ (st_ _ _ e)) (g6 a m).2) (fun _ h=>h) g4
      exact dR old ⟨hq2,aX ah nld⟩
    · rw [cA]
      refine gS.mpr ⟨g5,by simp,fun a ha b hb=>?_⟩
      rw [aH.mp hb]
      intro z
      obtain ⟨pp,hpp,e⟩:=cL.mp ha
      obtain ⟨j,hj⟩:=dU hpp
      obtain ⟨_,_,_,y⟩:=g4.nth hj
      rw [e,z,nlG] at y
      cases y
    · rw [cA] at ha
      rcases cq.mp ha with z | z
      · exact g6 a z
      · rw [aH.mp z]
        exact ⟨nl0,nld⟩
  · rintro σ G ⟨v2,v3,qa',rfl,g1,g2,g3,g4,g5,g6⟩
    rw [Aq,hl.len,dG] at g4
    refine ⟨qd,od,_,g1,nf,?_⟩
    have sH:bM H (upd G qd (.dK (quK qa))):=fun b o e=>by
      by_cases c:b=qd
      · rw [c,ah]
        rw [c,hq] at e
        exact e
      · rw [aJ c]
        exact g2 _ _ e c
    have g3':upd G qd (.dK (quK qa)) d=some (.dK (quK qa')):=aX g3 ndd
    have g4':fH (upd G qd (.dK (quK qa))) qa' qu:=
      fH.keep (L:=⟨0,0,0,0,0,0,0,0,0,0,.non,.non,qa'⟩) (fun a u e m=>aX e (aG hq (g6 a m).1).symm) (fun _ h=>h) g4
    generalize upd G qd (.dK (quK qa))=G2 at sH g3' g4'
    refine ⟨_,rfl,st,CS,dx,_,_,rfl,sH _ _ hst,T.clS,T.nB,FP _ _ _ _,bd,_,rfl,sH _ _ hb,fun e he=>?_⟩
    have s3:=aD he (.dK (boK bx))
    refine ⟨_,rfl,_,rfl,st,CS,dx,_,_,rfl,s3 _ _ (sH _ _ hst),T.clS,T.nD,Jl _ _ _ _,_,rfl,st,CS,dx,_,_,rfl,s3 _ _ (sH _ _ hst),T.clS,T.nS,Jm _ _ _ _,?_⟩
    intro x dx' nx ndx nex
    refine ⟨x,dx',_,_,_,_,rfl,ah,fun H' hx bt=>⟨rfl,?_⟩⟩
    have sm:bM (upd G2 e (.dK (boK bx))) H':=fun b o e2=>by
      have cx:b≠x:=aG e2 nx
      refine bt b o ?_ cx
      rw [aJ cx,aJ (aG e2 ndx)]
      exact e2
    have sm2:=s3.trans sm
    have fresh:∀ {a:aa},upd G2 e (.dK (boK bx)) a=none->H a=none:=fun {a} z=>by
      cases y:H a with
      | none=>rfl
      | some o =>
        rw [s3 _ _ (sH _ _ y)] at z
        cases z
    have he0:H e=none:=by
      cases y:H e with
      | none=>rfl
      | some o =>
        rw [sH _ _ y] at he
        cases he
    refine k H' x dx' e d qa' ⟨sH.trans sm2,hx,sm _ _ ah,sm2 _ _ g3',g4'.same sm2,?_,?_⟩
    · have nx_e:x≠e:=(aG (ah:upd G2 e (.dK (boK bx)) e=_) nx).symm
      have nx_d:x≠d:=(aG (s3 _ _ g3') nx).symm
      have ne_d:e≠d:=(aG g3' he).symm
      have ql:∀ a∈qa'.map (·.2),∃ o,G2 a=some o:=fun a ha=>by
        obtain ⟨pp,hpp,e⟩:=cL.mp ha
        obtain ⟨j,hj⟩:=dU hpp
        obtain ⟨_,_,_,y⟩:=g4'.nth hj
        rw [<- e]
        exact ⟨_,y⟩
      refine cK.mpr ⟨fun z=>?_,cK.mpr ⟨fun z=>?_,cK.mpr ⟨fun z=>(g6 d z).2 rfl,g5⟩⟩⟩
      · rcases au.mp z with z | z
        · exact nx_e z
        · rcases au.mp z with z | z
          · exact nx_d z
          · obtain ⟨o,y⟩:=ql x z
            exact (aG (s3 _ _ y) nx) rfl
      · rcases au.mp z with z | z
        · exact ne_d z
        · obtain ⟨o,y⟩:=ql e z
          exact (aG y he) rfl
    · intro a ha
      rcases au.mp ha with z | z
      · rw [z]
        exact fresh nx
      · rcases au.mp z with z | z
        · rw [z]
          exact he0
        · rcases au.mp z with z | z
          · rw [z]
            exact hd
          · exact (g6 a z).1
end
end My
namespace My
open PySem L2
theorem Dg.base {CD CS:aa} {bs qs:List Str} {H0 H0' G G':Hp} {L:Lay} {h:Ev} {ds:List Int} {w:Wk} (g:Dg CD CS bs qs H0 G L h ds w) (s:bM G G') (s0:bM H0 H0') (s1:bM H0' G') (fr:∀ a∈L.all,H0' a=none):Dg CD CS bs qs H0' G' L h ds w:=by
  obtain ⟨t,x1,x2,x3,x4,dl,em,hm,hdl⟩:=g.hm
  have g':=g.same s
  obtain ⟨rs,r1,r2⟩:=g'.hr
  exact ⟨s1,g'.hd,g'.hst,g'.hb,g'.hq,g'.hl,g'.hw,g'.ho,⟨rs,r1,Paired.mono (fun _ _ z=>z.same s0) r2⟩,g'.hu,g.hh.same s0,⟨t,x1,x2,x3,x4,dl,em,s0 _ _ hm,s0 _ _ hdl⟩,g.nd,fr,g.ok,g.wt,g.wa,g.wb⟩
theorem fH.there {G:Hp} {qa:List (Str×aa)} {qu:List (Str×List Int)} (q:fH G qa qu) {a:aa} (h:a∈qa.map (·.2)):∃ xs,G a=some (.lst xs):=by
  obtain ⟨pp,hpp,e⟩:=cL.mp h
  obtain ⟨j,hj⟩:=dU hpp
  obtain ⟨_,_,_,y⟩:=q.nth hj
  rw [<- e]
  exact ⟨_,y⟩
theorem Dg.there {CD CS:aa} {bs qs:List Str} {H0 G:Hp} {L:Lay} {h:Ev} {ds:List Int} {w:Wk} (g:Dg CD CS bs qs H0 G L h ds w):∀ a∈L.all,∃ o,G a=some o:=fun a ha=>by
  obtain ⟨vs,o1,_⟩:=g.ho
  obtain ⟨rs,r1,_⟩:=g.hr
  unfold Lay.all at ha
  simp only [au] at ha
  rcases ha with rfl | rfl | rfl | rfl | rfl | rfl | rfl | rfl | ha
  · exact ⟨_,g.hd⟩
  · exact ⟨_,g.hst⟩
  · exact ⟨_,g.hb⟩
  · exact ⟨_,g.hq⟩
  · exact ⟨_,g.hw⟩
  · exact ⟨_,o1⟩
  · exact ⟨_,r1⟩
  · exact ⟨_,g.hu⟩
  · obtain ⟨xs,e⟩:=g.hl.there ha
    exact ⟨_,e⟩
def Bs (bs qs:List Str) (H:Hp) (v:V) (p:Str×Ds):Prop:=∃ t u,v=.ref t/\H t=some (.tup [.str p.1,u])/\kA H (eJ bs qs H p.2) u
def iR (hs:List (Str×Ds)) (sg:Str):Ds:=(hs.lookup sg).getD .nil
theorem Bs.same {bs qs:List Str} {H H':Hp} (s:bM H H') {v:V} {p:Str×Ds} (h:Bs bs qs H v p):Bs bs qs H' v p:=by
  obtain ⟨t,u,e,h1,h2⟩:=h
  exact ⟨t,u,e,s _ _ h1,h2.same s (eJ.same s p.2)⟩
section
variable {P:aM} {w:bH} {K:af} {mg:Str->Option ae} {base:cB} {f fC fI CD CS CM:aa} {fd fdC fdI:bY} {bs qs:List Str}
theorem fj {G:Hp} {a b:aa} {o:HO} (h:upd G a o b=none):b≠a/\G b=none:=by
  by_cases c:b=a
  · rw [c,ah] at h
    cases h
  · rw [aJ c] at h
    exact ⟨c,h⟩
theorem yi {G:Hp} {d wd od rd ud a:aa} {i3 i4 i6 i7 i8 o:HO} (hwd:G wd=none) (hod:G od=none) (hrd:G rd=none) (hud:G ud=none) (e:G a=some o) (n:a≠d):upd (upd (upd (upd (upd (upd (upd (upd (upd G d i3) wd (.dK [])) d i4) od (.lst [])) d i6) rd (.lst [])) d i7) ud (.dK [])) d i8 a=some o:=
  aX (aX (aX (aX (aX (aX (aX (aX (aX e n) (aG e hwd)) n) (aG e hod)) n) (aG e hrd)) n) (aG e hud)) n
def Jq (CD CS:aa) (bs qs:List Str):Sp:=fun vs H Q _=>∃ (H0:Hp) (d dx st:aa) (m hv:V) (h:Ev) (ds:List Int) (bx:List (Str×Int)) (qu:List (Str×List Int)) (dr:Nat) (se:Int),vs=[.ref d,m,.ref st,hv]/\H d=some (.ins CD dx [])/\H0 d=none/\bM H0 H/\kN CS H0 st bx qu dr se /\
  gH H0 hv h/\(∃ t x1 x2 x3 x4 dl,m=.ref t/\H0 t=some (.tup [x1,x2,x3,.ref dl,x4])/\H0 dl=some (.lst (ds.map V.int)))/\oX bs qs ⟨bx,qu,dr,se,[],[],false,[],[]⟩/\Wo h.t/\Wo h.a/\Wo h.b /\
  ∀ (G:Hp) (L:Lay),L.d=d->L.m=m->Dg CD CS bs qs H0 G L h ds ⟨bx,qu,dr,se,[],[],false,[],[]⟩->Q .non G
theorem scDI:bV ["self","machine","state","happening"] ["self","machine","state","happening"] (aQ lX):=⟨rfl,rfl,rfl,by decide +kernel,rfl,by decide +kernel,by decide +kernel⟩
theorem ok_DI (F:Fun K "__init__" "Doing.__init__" lX f fd) (MC:Mt K CS "copy" "State.copy" iQ ["self"] fC fdC) (GC:bT P w K mg base CX0 3 fC fdC ["self"] (Ep CS)) (T:DT K mg CD) (TM:MdT K mg CM CS):bT P w K mg base CX0 4 f fd ["self","machine","state","happening"] (Jq CD CS bs qs):=by
  refine F.ok scDI (fun vs H Q E h=>?_) (fun cdv A outer s H vs Q E hr h=>?_)
  · obtain ⟨H0,d,dx,st,m,hv,h,ds,bx,qu,dr,se,rfl,_⟩:=h
    rfl
  obtain ⟨H0,d,dx,st,m,hv,h,ds,bx,qu,dr,se,rfl,hd,nd0,s0,hS,hE,hM,ok,wt,wa,wb,k⟩:=h
  refine ⟨_,ak (e9 (pv 0) (pv 1) rfl) (ak (e9 (pv 0) (pv 3) rfl) (ak (e9 (pv 0) (p9 (pv 2) TM.clS MC.m GC hr MC.b .nil cm) rfl) (ak (e9 (pv 0) qh rfl) (ak (e9 (pv 0) (eT ao) rfl) (ak (e9 (pv 0) jN rfl) (ak (e9 (pv 0) (eT ao) rfl) (aF (e9 (pv 0) qh rfl)))))))),?_⟩
  have l1:=gx "machine" m []
  have l2:=gx "happening" hv (dh "machine" m [])
  simp only [cM] at l1
  refine ⟨_,rfl,_,rfl,d,CD,dx,[],rfl,hd,T.cl,T.nM,(by show 0 < 1000; decide),?_⟩
  refine ⟨_,rfl,_,rfl,d,CD,dx,_,rfl,ah,T.cl,T.nH,(by omega),?_⟩
  rw [zQ]
  have sd:∀ (o:HO),bM H0 (upd H d o):=fun o b u e=>by
    rw [aJ (aG e nd0)]
    exact s0 _ _ e
  obtain ⟨dxs0,bd0,qd0,qa0,hst0,_⟩:=id hS
  refine ⟨_,rfl,st,dxs0,_,rfl,sd _ _ _ hst0,st_no _ _ _ _ (by decide +kernel),st,bx,qu,dr,se,rfl,hS.same (sd _),(by rw [ok.kq]; exact ok.nq),?_,fun G st' dxs bd qd qa N=>?_⟩
  · have e:=congrArg jD ok.kq
    rw [ar] at e
    have:=ok.fw
    rw [aE] at this
    show qu.length < 100
    have e:qu.length=qs.length:=e
    omega
  have gd:G d=some (.ins CD dx (dh "happening" hv (dh "machine" m []))):=N.sm _ _ ah
  have l3:=gx "state" (.ref st') (dh "happening" hv (dh "machine" m []))
  have l4:=fun wd=>gx "written" (.ref wd) (dh "state" (.ref st') (dh "happening" hv (dh "machine" m [])))
  have l5:=fun od wd=>gx "outgoing" (.ref od) (dh "written" (.ref wd) (dh "state" (.ref st') (dh "happening" hv (dh "machine" m []))))
  refine ⟨_,rfl,d,CD,dx,_,rfl,gd,T.cl,T.nS,(by omega),?_⟩
  have l6:=fun od wd=>gx "ends" (.bl false) (dh "outgoing" (.ref od) (dh "written" (.ref wd) (dh "state" (.ref st') (dh "happening" hv (dh "machine" m [])))))
  have l7:=fun rd od wd=>gx "reckoned" (.ref rd) (dh "ends" (.bl false) (dh "outgoing" (.ref od) (dh "written" (.ref wd) (dh "state" (.ref st') (dh "happening" hv (dh "machine" m []))))))
  intro wd hwd
  obtain ⟨nwd,hwd⟩:=fj hwd
  refine ⟨_,rfl,d,CD,dx,_,rfl,(by rw [aJ nwd.symm]; exact ah),T.cl,T.nW,(by omega),bj _,fun od hod=>?_⟩
  obtain ⟨nod,hod⟩:=fj hod
  obtain ⟨now_,hod⟩:=fj hod
  obtain ⟨_,hod⟩:=fj hod
  have l4':=l4 wd
  have l5':=l5 od wd
  have l6':=l6 od wd
  refine ⟨_,rfl,d,CD,dx,_,rfl,(by rw [aJ nod.symm]; exact ah),T.cl,T.nO,(by omega),?_⟩
  refine ⟨_,rfl,d,CD,dx,_,rfl,ah,T.cl,T.nE,(by omega),bj _,fun rd hrd=>?_⟩
  rw [zQ] at hrd |-
  obtain ⟨nrd,hrd⟩:=fj hrd
  obtain ⟨nro,hrd⟩:=fj hrd
  obtain ⟨_,hrd⟩:=fj hrd
  obtain ⟨nrw,hrd⟩:=fj hrd
  obtain ⟨_,hrd⟩:=fj hrd
  have l7':=l7 rd od wd
  refine ⟨_,rfl,d,CD,dx,_,rfl,(by rw [aJ nrd.symm]; exact ah),T.cl,T.nR,(by omega),?_⟩
  intro ud hud
  obtain ⟨nud,hud⟩:=fj hud
  obtain ⟨nur,hud⟩:=fj hud
  obtain ⟨_,hud⟩:=fj hud
  obtain ⟨nuo,hud⟩:=fj hud
  obtain ⟨_,hud⟩:=fj hud
  obtain ⟨nuw,hud⟩:=fj hud
  obtain ⟨_,hud⟩:=fj hud
  refine ⟨_,rfl,d,CD,dx,_,rfl,(by rw [aJ nud.symm]; exact ah),T.cl,T.nQ,(by omega),?_⟩
  rw [Jh]
  have frH:∀ {a:aa},G a=none->H0 a=none:=fun {a} z=>by
    cases y:H0 a with
    | none=>rfl
    | some o =>
      rw [N.sm _ _ (sd _ _ _ y)] at z
      cases z
  have fr0:∀ a∈st' :: bd :: qd :: qa.map (·.2),H0 a=none/\a≠d:=fun a ha=>by
    have z:=N.fr a ha
    have n:a≠d:=fun y=>by
      rw [y,ah] at z
      cases z
    rw [aJ n] at z
    refine ⟨?_,n⟩
    cases y:H0 a with
    | none=>rfl
    | some o =>
      rw [s0 _ _ y] at z
      cases z
  have thG:∀ a∈st' :: bd :: qd :: qa.map (·.2),∃ o,G a=some o:=fun a ha=>by
    simp only [au] at ha
    rcases ha with rfl | rfl | rfl | ha
    · exact ⟨_,N.hst⟩
    · exact ⟨_,N.hb⟩
    · exact ⟨_,N.hq⟩
    · obtain ⟨xs,e⟩:=N.hl.there ha
      exact ⟨_,e⟩
  have i1:∀ {b:aa} {xs:List aa},b∈b :: xs:=aw
  have i2:∀ {a b:aa} {xs:List aa},b∈xs->b∈a :: xs:=fun z=>ag _ z
  refine k _ ⟨d,dx,st',dxs,bd,qd,wd,od,rd,ud,m,hv,qa⟩ rfl rfl ⟨fun b o e=>yi hwd hod hrd hud (N.sm _ _ (sd _ _ _ e)) (aG e nd0),ah,yi hwd hod hrd hud N.hst (fr0 _ i1).2,yi hwd hod hrd hud N.hb (fr0 _ (i2 i1)).2,yi hwd hod hrd hud N.hq (fr0 _ (i2 (i2 i1))).2,?_,?_,⟨[],?_,.nil⟩,⟨[],?_,.nil⟩,?_,hE,hM,?_,?_,ok,wt,wa,wb⟩
  · exact fH.keep (L:=⟨0,0,0,0,0,0,0,0,0,0,.non,.non,qa⟩) (fun a u e m=>yi hwd hod hrd hud e (fr0 a (i2 (i2 (i2 m)))).2) (fun _ h=>h) N.hl
  · show upd _ d _ wd=some (.dK [])
    rw [aJ nwd,aJ nuw.symm,aJ nwd,aJ nrw.symm,aJ nwd,aJ now_.symm,aJ nwd,ah]
  · show upd _ d _ od=some (.lst [])
    rw [aJ nod,aJ nuo.symm,aJ nod,aJ nro.symm,aJ nod,ah]
  · show upd _ d _ rd=some (.lst [])
    rw [aJ nrd,aJ nur.symm,aJ nrd,ah]
  · show upd _ d _ ud=some (.dK [])
    rw [aJ nud,ah]
  · have nd:=N.nd
    have hn:∀ {a:aa} {xs:List aa},a∉xs->xs.Nodup->(a :: xs).Nodup:=fun p q=>cK.mpr ⟨p,q⟩
    obtain ⟨n1,nd⟩:=cK.mp nd
    obtain ⟨n2,nd⟩:=cK.mp nd
    obtain ⟨n3,nd⟩:=cK.mp nd
    simp only [au,not_or] at n1 n2 n3
    have wdn:∀ a∈st' :: bd :: qd :: qa.map (·.2),a≠wd:=fun a ha z=>by
      obtain ⟨o,y⟩:=thG a ha
      rw [z,hwd] at y
      cases y
    have odn:∀ a∈st' :: bd :: qd :: qa.map (·.2),a≠od:=fun a ha z=>by
      obtain ⟨o,y⟩:=thG a ha
      rw [z,hod] at y
      cases y
    have rdn:∀ a∈st' :: bd :: qd :: qa.map (·.2),a≠rd:=fun a ha z=>by
      obtain ⟨o,y⟩:=thG a ha
      rw [z,hrd] at y
      cases y
    have udn:∀ a∈st' :: bd :: qd :: qa.map (·.2),a≠ud:=fun a ha z=>by
      obtain ⟨o,y⟩:=thG a ha
      rw [z,hud] at y
      cases y
    show (d :: st' :: bd :: qd :: wd :: od :: rd :: ud :: qa.map (·.2)).Nodup
    refine hn ?_ (hn ?_ (hn ?_ (hn ?_ (hn ?_ (hn ?_ (hn ?_ (hn ?_ nd)))))))
    · simp only [au,not_or]
      exact ⟨fun z=>(fr0 _ i1).2 z.symm,fun z=>(fr0 _ (i2 i1)).2 z.symm,fun z=>(fr0 _ (i2 (i2 i1))).2 z.symm,nwd.symm,nod.symm,nrd.symm,nud.symm,fun z=>(fr0 d (i2 (i2 (i2 z)))).2 rfl⟩
    · simp only [au,not_or]
      exact ⟨n1.1,n1.2.1,wdn _ i1,odn _ i1,rdn _ i1,udn _ i1,n1.2.2⟩
    · simp only [au,not_or]
      exact ⟨n2.1,wdn _ (i2 i1),odn _ (i2 i1),rdn _ (i2 i1),udn _ (i2 i1),n2.2⟩
    · simp only [au,not_or]
      exact ⟨wdn _ (i2 (i2 i1)),odn _ (i2 (i2 i1)),rdn _ (i2 (i2 i1)),udn _ (i2 (i2 i1)),n3⟩
    · simp only [au,not_or]
      exact ⟨now_.symm,nrw.symm,nuw.symm,fun z=>wdn wd (i2 (i2 (i2 z))) rfl⟩
    · simp only [au,not_or]
      exact ⟨nro.symm,nuo.symm,fun z=>odn od (i2 (i2 (i2 z))) rfl⟩
    · simp only [au,not_or]
      exact ⟨nur.symm,fun z=>rdn rd (i2 (i2 (i2 z))) rfl⟩
    · exact fun z=>udn ud (i2 (i2 (i2 z))) rfl
  · intro a ha
    unfold Lay.all at ha
    simp only [au] at ha
    rcases ha with rfl | rfl | rfl | rfl | rfl | rfl | rfl | rfl | ha
    · exact nd0
    · exact (fr0 _ i1).1
    · exact (fr0 _ (i2 i1)).1
    · exact (fr0 _ (i2 (i2 i1))).1
    · exact frH hwd
    · exact frH hod
    · exact frH hrd
    · exact frH hud
    · exact (fr0 a (i2 (i2 (i2 ha)))).1
def Jr (bs qs:List Str):Sp:=fun vs H Q _=>∃ (H0:Hp) (t hl:aa) (x0 x1 x2 x3:V) (hv:List V) (hs:List (Str×Ds)) (sg:Str),vs=[.ref t,.str sg]/\bM H0 H/\H0 t=some (.tup [x0,x1,x2,x3,.ref hl])/\H0 hl=some (.lst hv)/\aO (Bs bs qs H0) hv hs /\
  (∀ u,kA H0 (eJ bs qs H0 (iR hs sg)) u->Q u H)/\∀ l,H l=none->iR hs sg=.nil->Q (.ref l) (upd H l (.lst []))
theorem scBy:bV ["machine","sign","heard"] ["machine","sign"] (aQ gB):=⟨rfl,rfl,rfl,by decide +kernel,rfl,by decide +kernel,by decide +kernel⟩
theorem lI {α β:Type} {R:α->β->Prop}:∀ {xs:List α} {ys:List β} {i:Nat} {x:α},aO R xs ys->xs[i]?=some x->∃ y,ys[i]?=some y/\R x y
  | _,_,i,x,.nil,h=>by simp at h
  | _,_,0,x,.cons a b,h=>by
    simp at h
    subst h
    exact ⟨_,rfl,a⟩
  | _,_,i + 1,x,.cons a b,h=>by
    obtain ⟨y,h1,h2⟩:=lI (i:=i) (x:=x) b (by simpa using h)
    exact ⟨y,by simpa using h1,h2⟩
theorem ok_by (D:Df K mg "deeds_by_sign" gB ["machine","sign"] f fd):bT P w K mg base CX0 1 f fd ["machine","sign"] (Jr bs qs):=by
  refine D.F.ok scBy (fun vs H Q E h=>?_) (fun cdv A outer s H vs Q E hr h=>?_)
  · obtain ⟨H0,t,hl,x0,x1,x2,x3,hv,hs,sg,rfl,_⟩:=h
    rfl
  obtain ⟨H0,t,hl,x0,x1,x2,x3,hv,hs,sg,rfl,sm,ht,hh,pr,k1,k2⟩:=h
  have ht:=sm _ _ ht
  have hh:=sm _ _ hh
  refine ⟨_,ak (iy cQ rfl (gW (bZ cF (pv 0) ay (fun _ _=>rfl))) (dy (i:=2) scBy.nd rfl (Or.inl rfl)) (aF (cZ (cu ff (bZ cF (pv 2) ay (fun _ _=>rfl)) (pv 1) (cE _)) (aF (bX (bZ cF (pv 2) ay (fun _ _=>rfl)))) cy)))
    (aF (bX (eT ao))),?_⟩
  refine ⟨_,rfl,t,_,_,_,rfl,rfl,SqT.of ht,rfl,hl,rfl,⟨_,SqL.of hh⟩,iL (K:=K) (a:=hl) (xs:=hv) (fun i σ G=>G=H/\(∃ u,σ=[some (.ref t),some (.str sg),u])/\iR hs sg=iR (hs.drop i) sg) ⟨rfl,⟨_,rfl⟩,by rw [o7]⟩ ?_ ?_ ?_⟩
  · rintro i σ G _ ⟨rfl,_⟩
    exact SqL.of hh
  · rintro i x σ G hi ⟨rfl,⟨u,rfl⟩,e⟩
    obtain ⟨p,hp,t',u',rfl,ht',hl'⟩:=lI pr hi
    have ht':=sm _ _ ht'
    have lt:i < hs.length:=(aB.mp hp).1
    have hx:hs[i]=p:=(aB.mp hp).2
    rw [kS lt,hx] at e
    obtain ⟨pn,pd⟩:=p
    refine ⟨_,rfl,t',_,_,_,rfl,rfl,SqT.of ht',rfl,_,rfl,rfl,_,rfl,?_⟩
    by_cases c:pn=sg
    · subst c
      refine lG (Bn _) (gF ?_)
      refine ⟨_,rfl,t',_,_,_,rfl,rfl,SqT.of ht',rfl,k1 u' ?_⟩
      rw [e]
      unfold iR
      rw [bJ]
      exact hl'
    · refine lG (sF c) (fV ?_)
      refine ⟨rfl,⟨_,rfl⟩,?_⟩
      rw [e]
      unfold iR
      rw [cD,beq_eq_false_iff_ne.mpr (fun z=>c z.symm)]
  · rintro σ G ⟨rfl,⟨u,rfl⟩,e⟩
    have ln:=aT pr
    rw [ln,EV] at e
    exact ⟨bj _,fun l hl'=>k2 l hl' e⟩
end
end My
namespace My
open PySem L2
structure ue (bs qs:List Str) (ds:List Int) (hs:List (Str×Ds)) (H:Hp) (m:V):Prop where
  ex:∃ (t bl ql dl hl:aa) (nm:V) (vb hv:List V),m=.ref t/\H t=some (.tup [nm,.ref bl,.ref ql,.ref dl,.ref hl])/\H bl=some (.lst vb)/\aO (fun v (x:Str)=>∃ a n,v=.ref a/\H a=some (.tup [.str x,n])) vb bs/\H ql=some (.lst (qs.map V.str))/\H dl=some (.lst (ds.map V.int))/\H hl=some (.lst hv)/\aO (Bs bs qs H) hv hs
theorem ue.same {bs qs:List Str} {ds:List Int} {hs:List (Str×Ds)} {H H':Hp} (s:bM H H') {m:V} (h:ue bs qs ds hs H m):ue bs qs ds hs H' m:=by
  obtain ⟨t,bl,ql,dl,hl,nm,vb,hv,e,h1,h2,h3,h4,h5,h6,h7⟩:=h
  exact ⟨t,bl,ql,dl,hl,nm,vb,hv,e,s _ _ h1,s _ _ h2,Paired.mono (fun v x z=>by
    obtain ⟨a,n,e,y⟩:=z
    exact ⟨a,n,e,s _ _ y⟩) h3,s _ _ h4,s _ _ h5,s _ _ h6,Paired.mono (fun _ _ z=>z.same s) h7⟩
def wrB (bs:List Str) (w:Wk):List (Str×Int):=(bs.filter fun x=>decide (x∈w.wr)).map fun x=>(x,ua w.bx x)
def wrQ (qs:List Str) (w:Wk):List (Str×List Int):=(qs.filter fun x=>decide (x∈w.wr)).map fun x=>(x,iW w.qu x)
def wU (G:Hp) (v:V) (p:Str×Int):Prop:=∃ t,v=.ref t/\G t=some (.tup [.str p.1,.int p.2])
def yj (G:Hp) (v:V) (p:Str×aa):Prop:=∃ t,v=.ref t/\G t=some (.tup [.str p.1,.ref p.2])
theorem wU.keep {G G':Hp} (k:∀ a xs,G a=some (.tup xs)->G' a=some (.tup xs)) {v:V} {p:Str×Int} (h:wU G v p):wU G' v p:=by
  obtain ⟨t,e,h1⟩:=h
  exact ⟨t,e,k _ _ h1⟩
theorem yj.keep {G G':Hp} (k:∀ a xs,G a=some (.tup xs)->G' a=some (.tup xs)) {v:V} {p:Str×aa} (h:yj G v p):yj G' v p:=by
  obtain ⟨t,e,h1⟩:=h
  exact ⟨t,e,k _ _ h1⟩
structure WrIn (bs qs:List Str) (w:Wk) (H G:Hp) (wl:aa) (ws1 ws2:List V) (qa:List (Str×aa)):Prop where
  hl:G wl=some (.lst (ws1++ws2))
  b:aO (wU G) ws1 (wrB bs w)
  q:aO (yj G) ws2 qa
  l:fH G qa (wrQ qs w)
  nd:(wl :: qa.map (·.2)).Nodup
  fr:∀ a∈wl :: qa.map (·.2),H a=none
theorem rX {p:Str->Bool} {xs:List Str} {i:Nat} {x:Str} (h:xs[i]?=some x):(xs.take (i + 1)).filter p=(xs.take i).filter p++if p x=true then [x] else []:=by
  rw [fi,h,List.filter_append]
  show _++[x].filter p=_
  by_cases c:p x=true
  · rw [if_pos c,List.filter_cons_of_pos c]
    rfl
  · rw [if_neg c,List.filter_cons_of_neg c]
    rfl
theorem uf {H G:Hp} {a:aa} (s:bM H G) (n:H a=none) (o:HO):bM H (upd G a o):=fun b u e=>by
  rw [aJ (aG e n)]
  exact s _ _ e
theorem none_of {H G:Hp} (s:bM H G) {a:aa} (n:G a=none):H a=none:=by
  cases z:H a with
  | none=>rfl
  | some o =>
    rw [s _ _ z] at n
    cases n
section
variable {P:aM} {w:bH} {K:af} {mg:Str->Option ae} {base:cB} {f CD CS CM:aa} {fd:bY} {bs qs:List Str}
def spWr (CD CS:aa) (bs qs:List Str):Sp:=fun vs H Q _=>∃ (H0:Hp) (L:Lay) (h:Ev) (ds:List Int) (w:Wk) (hs:List (Str×Ds)),vs=[.ref L.d]/\Dg CD CS bs qs H0 H L h ds w/\ue bs qs ds hs H0 L.m /\
  ∀ (G:Hp) (wl:aa) (ws1 ws2:List V) (qa:List (Str×aa)),bM H G->WrIn bs qs w H G wl ws1 ws2 qa->Q (.ref wl) G
theorem Gi:bV ["doing","writes","box","name"] ["doing"] (aQ kr):=⟨rfl,rfl,rfl,by decide +kernel,rfl,by decide +kernel,by decide +kernel⟩
theorem Bt (D:Df K mg "writes_of" kr ["doing"] f fd) (T:DT K mg CD) (TM:MdT K mg CM CS) (B:Bl mg):bT P w K mg base CX0 1 f fd ["doing"] (spWr CD CS bs qs):=by
  refine D.F.ok Gi (fun vs H Q E h=>?_) (fun cdv A outer s H vs Q E hr h=>?_)
  · obtain ⟨H0,L,h,ds,w,hs,rfl,_⟩:=h
    rfl
  obtain ⟨H0,L,h,ds,w,hs,rfl,g,⟨t,bl,ql,dl,hl,nm,vb,hv,em,ht,hbl,pb,hql,hdl,hhl,_⟩,k⟩:=h
  have hu:=o5 hr
  refine ⟨_,ak (bz (i:=1) Gi.nd rfl (Or.inl rfl) (eT ao))
    (ak (iy cQ rfl (gW (bZ cF (cN (pv 0) rfl) ay (fun _ _=>rfl))) (dy (i:=2) Gi.nd rfl (Or.inl rfl)) (aF (cZ (tF (CZ hu (bZ cF (pv 2) ay (fun _ _=>rfl)) (cN (pv 0) rfl)))
      (aF (dW (jr bK cg cj e7 (pv 1) (aq (cR (aq (bZ cF (pv 2) ay (fun _ _=>rfl)) (aq (qg hu (cN (cN (pv 0) rfl) rfl) (bZ cF (pv 2) ay (fun _ _=>rfl)) (fun _ _=>rfl)) ao))) ao)))) cy)))
    (ak (iy cQ rfl (gW (bZ cF (cN (pv 0) rfl) ay (fun _ _=>rfl))) (dy (i:=3) Gi.nd rfl (Or.inl rfl)) (aF (cZ (tF (CZ hu (pv 3) (cN (pv 0) rfl)))
      (aF (dW (jr bK cg cj e7 (pv 1) (aq (cR (aq (pv 3) (aq (iC lU (by rfl) B.list boot_list (aq (qg hu (cN (cN (pv 0) rfl) rfl) (pv 3) (fun _ _=>rfl)) ao)) ao))) ao)))) cy)))
    (aF (bX (pv 1))))),?_⟩
  have big:=eU
  have fw:=g.ok.fw
  rw [aE] at fw
  refine ⟨bj _,fun wl hwl=>?_⟩
  have s0:=aD hwl (.lst [])
  have inW:∀ {G:Hp} (g:Dg CD CS bs qs H0 G L h ds w) (x:Str),qf G L.wd (.str x) (if x∈w.wr then some (.bl true) else none):=fun {G} g x=>by
    have z:=qf.k (k:=Sum.inr x) g.hw
    rw [Am] at z
    exact z
  refine ⟨_,rfl,L.d,CD,L.dx,_,_,rfl,s0 _ _ g.hd,T.cl,T.nM,Jg _ _ _ _ _ _ _ _,t,_,_,_,em,rfl,SqT.of (s0 _ _ (g.sm _ _ ht)),rfl,bl,rfl,⟨_,SqL.of (s0 _ _ (g.sm _ _ hbl))⟩,?_⟩
  refine iL (K:=K) (a:=bl) (xs:=vb) (fun i σ G=>∃ (u:Option V) (ws:List V),σ=[some (.ref L.d),some (.ref wl),u,none]/\bM H G/\G wl=some (.lst ws)/\aO (wU G) ws (((bs.take i).filter fun x=>decide (x∈w.wr)).map fun x=>(x,ua w.bx x))) ⟨none,[],rfl,s0,ah,by rw [kE]; exact .nil⟩ ?_ ?_ ?_
  · rintro i σ G _ ⟨_,_,rfl,sm,_⟩
    exact SqL.of (sm _ _ (g.sm _ _ hbl))
  · rintro i x σ G hi ⟨u,ws,rfl,sm,gw,pw⟩
    have g1:=g.same sm
    obtain ⟨y,hy,a,n,rfl,ha⟩:=lI pb hi
    have ha:=g1.sm _ _ ha
    have my:y∈bs:=cw hy
    have ft:=rX (p:=fun x=>decide (x∈w.wr)) hy
    refine ⟨_,rfl,a,_,_,_,rfl,rfl,SqT.of ha,rfl,_,rfl,L.d,CD,L.dx,_,_,rfl,g1.hd,T.cl,T.nW,Eb _ _ _ _ _ _ _ _,L.wd,_,rfl,inW g1 y,_,rfl,?_⟩
    by_cases c:y∈w.wr
    · rw [if_pos c]
      rw [if_pos (decide_eq_true c)] at ft
      refine gF ?_
      refine ⟨_,rfl,.inl ⟨rfl,_,SqL.of gw⟩,_,rfl,a,_,_,_,rfl,rfl,SqT.of ha,rfl,_,rfl,L.d,CD,L.dx,_,_,rfl,g1.hd,T.cl,T.nS,uU _ _ _ _ _ _ _ _,L.st,CS,L.dxs,_,_,rfl,g1.hst,TM.clS,TM.nB,FP _ _ _ _,_,rfl,a,_,_,_,rfl,rfl,SqT.of ha,rfl,L.bd,_,rfl,(by have z:=qf.k (k:=Sum.inr y) g1.hb; rw [Ef (by rw [g1.ok.kb]; exact my)] at z; exact z),lt2,fun tt htt=>?_⟩
      have st_:=aD htt (.tup [.str y,.int (ua w.bx y)])
      have lw:=aT pw
      have lf:(((bs.take i).filter fun x=>decide (x∈w.wr)).map fun x=>(x,ua w.bx x)).length<=bs.length:=by
        rw [ar]
        refine c8 (oN _ _) ?_
        rw [cG]
        omega
      refine ⟨wl,ws,_,rfl,rfl,st_ _ _ gw,(by omega),_,_,rfl,uf (sm.trans st_) hwl _,ah,?_⟩
      rw [ft,cA]
      have kp:∀ b xs,upd G tt (.tup [.str y,.int (ua w.bx y)]) b=some (.tup xs)->upd (upd G tt (.tup [.str y,.int (ua w.bx y)])) wl (.lst (ws++[.ref tt])) b=some (.tup xs):=fun b xs z=>aX z (kT z (st_ _ _ gw) (by intro q; cases q))
      exact dR (Paired.mono (fun _ _ z=>(z.keep fun b xs e=>st_ _ _ e).keep kp) pw) ⟨tt,rfl,kp _ _ ah⟩
    · rw [if_neg c]
      rw [if_neg (by rw [decide_eq_false c]; decide),dC] at ft
      refine fV ⟨_,ws,rfl,sm,gw,?_⟩
      rw [ft]
      exact pw
  rintro σ G ⟨u,ws1,rfl,sm,gw,pw⟩
  have g1:=g.same sm
  have ev1:vb.length=bs.length:=aT pb
  rw [ev1,dG] at pw
  refine ⟨_,rfl,L.d,CD,L.dx,_,_,rfl,g1.hd,T.cl,T.nM,Jg _ _ _ _ _ _ _ _,t,_,_,_,em,rfl,SqT.of (g1.sm _ _ ht),rfl,ql,rfl,⟨_,SqL.of (g1.sm _ _ hql)⟩,?_⟩
  refine iL (K:=K) (a:=ql) (xs:=qs.map V.str) (fun i σ G=>∃ (u v:Option V) (ws2:List V) (qa:List (Str×aa)),σ=[some (.ref L.d),some (.ref wl),u,v]/\bM H G/\G wl=some (.lst (ws1++ws2))/\aO (wU G) ws1 (wrB bs w)/\aO (yj G) ws2 qa /\
    fH G qa (((qs.take i).filter fun x=>decide (x∈w.wr)).map fun x=>(x,iW w.qu x))/\(wl :: qa.map (·.2)).Nodup/\∀ a∈wl :: qa.map (·.2),H a=none) ⟨_,_,[],[],rfl,sm,by rw [dC]; exact gw,pw,.nil,by rw [kE]; exact .nil,by simp,fun a ha=>by rw [aH.mp ha]; exact hwl⟩ ?_ ?_ ?_
  · rintro i σ G _ ⟨_,_,_,_,rfl,sm,_⟩
    exact SqL.of (sm _ _ (g.sm _ _ hql))
  · rintro i x σ G hi ⟨u,v,ws2,qa,rfl,sm,gw,pw,pq,pl,nd,fr⟩
    have g1:=g.same sm
    obtain ⟨y,hy,rfl⟩:∃ y,qs[i]?=some y/\x=.str y:=by
      rw [bQ] at hi
      cases z:qs[i]? with
      | none =>
        rw [z] at hi
        cases hi
      | some y =>
        rw [z] at hi
        cases hi
        exact ⟨y,rfl,rfl⟩
    have my:y∈qs:=cw hy
    have ft:=rX (p:=fun x=>decide (x∈w.wr)) hy
    refine ⟨_,rfl,_,rfl,L.d,CD,L.dx,_,_,rfl,g1.hd,T.cl,T.nW,Eb _ _ _ _ _ _ _ _,L.wd,_,rfl,inW g1 y,_,rfl,?_⟩
    by_cases c:y∈w.wr
    · rw [if_pos c]
      rw [if_pos (decide_eq_true c)] at ft
      refine gF ?_
      obtain ⟨l,h1,h2,h3⟩:=g1.getL my
      refine ⟨_,rfl,.inl ⟨rfl,_,SqL.of gw⟩,_,rfl,_,rfl,L.d,CD,L.dx,_,_,rfl,g1.hd,T.cl,T.nS,uU _ _ _ _ _ _ _ _,L.st,CS,L.dxs,_,_,rfl,g1.hst,TM.clS,TM.nQ,FQ _ _ _ _,_,rfl,L.qd,_,rfl,h3,l,_,rfl,.inl (SqL.of h2),fun nl hnl=>?_⟩
      have sn:=aD hnl (.lst ((iW w.qu y).map V.int))
      refine ⟨lt2,fun tt htt=>?_⟩
      have st_:=aD htt (.tup [.str y,.ref nl])
      have lw:=aT pq
      have lb:=aT pw
      have lq:=aT pl
      have lf:(((qs.take i).filter fun x=>decide (x∈w.wr)).map fun x=>(x,iW w.qu x)).length<=qs.length:=by
        rw [ar]
        refine c8 (oN _ _) ?_
        rw [cG]
        omega
      have lf2:(wrB bs w).length<=bs.length:=by
        unfold wrB
        rw [ar]
        exact oN _ _
      have gw':=st_ _ _ (sn _ _ gw)
      have nlw:nl≠wl:=(aG gw hnl).symm
      have kp:∀ b xs,upd (upd G nl (.lst ((iW w.qu y).map V.int))) tt (.tup [.str y,.ref nl]) b=some (.tup xs)->upd (upd (upd G nl (.lst ((iW w.qu y).map V.int))) tt (.tup [.str y,.ref nl])) wl (.lst (ws1++ws2++[.ref tt])) b=some (.tup xs):=fun b xs z=>aX z (kT z gw' (by intro q; cases q))
      refine ⟨wl,_,_,rfl,rfl,gw',(by rw [aE]; omega),_,_,ws2++[.ref tt],qa++[(y,nl)],rfl,uf ((sm.trans sn).trans st_) hwl _,(by rw [<- i5]; exact ah),?_,?_,?_,?_,?_⟩
      · exact Paired.mono (fun _ _ z=>(z.keep fun b xs e=>st_ _ _ (sn _ _ e)).keep kp) pw
      · exact dR (Paired.mono (fun _ _ z=>(z.keep fun b xs e=>st_ _ _ (sn _ _ e)).keep kp) pq) ⟨tt,rfl,kp _ _ ah⟩
      · rw [ft,cA]
        refine dR (fH.keep (L:=⟨0,0,0,0,0,0,0,0,0,0,.non,.non,qa⟩) (fun a u e m=>aX (st_ _ _ (sn _ _ e)) fun z=>?_) (fun _ h=>h) pl) ⟨rfl,aX (st_ _ _ ah) nlw⟩
        rw [z] at m
        exact (cK.mp nd).1 m
      · rw [cA,<- EW]
        refine gS.mpr ⟨nd,by simp,fun a ha b hb=>?_⟩
        rw [aH.mp hb]
        intro z
        rcases au.mp ha with q | q
        · exact nlw ((show a=nl from z).symm.trans q)
        · obtain ⟨xs,q⟩:=pl.there q
          rw [show a=nl from z,hnl] at q
          cases q
      · intro a ha
        rw [cA,<- EW] at ha
        rcases cq.mp ha with z | z
        · exact fr a z
        · rw [aH.mp z]
          exact none_of sm hnl
    · rw [if_neg c]
      rw [if_neg (by rw [decide_eq_false c]; decide),dC] at ft
      refine fV ⟨_,_,ws2,qa,rfl,sm,gw,pw,pq,?_,nd,fr⟩
      rw [ft]
      exact pl
  rintro σ G ⟨u,v,ws2,qa,rfl,sm,gw,pw,pq,pl,nd,fr⟩
  rw [ar,dG] at pl
  exact ⟨_,rfl,k G wl ws1 ws2 qa sm ⟨gw,pw,pq,pl,nd,fr⟩⟩
end
end My
namespace My
open PySem L2
structure Er (CD CS:aa) (bs qs:List Str) (H G:Hp) (L:Lay) (h:Ev) (ds:List Int) (w:Wk) (t rc wl:aa) (ws1 ws2:List V) (qa:List (Str×aa)):Prop where
  dg:∃ H0,bM H H0/\Dg CD CS bs qs H0 G L h ds w
  ht:G t=some (.tup [.ref L.st,.ref rc,.bl w.en])
  hrc:∃ k,G rc=some (.tup [.ref k,.int h.to,.str h.sg,.int h.a,.int h.b,.ref wl,.ref L.od])/\H k=some (.tup [.int h.t,.int h.r,.int h.fr,.int h.c])
  wr:WrIn bs qs w H G wl ws1 ws2 qa
  nd:(L.all++wl :: qa.map (·.2)).Nodup
theorem Er.sm {CD CS:aa} {bs qs:List Str} {H G:Hp} {L:Lay} {h:Ev} {ds:List Int} {w:Wk} {t rc wl:aa} {ws1 ws2:List V} {qa:List (Str×aa)} (n:Er CD CS bs qs H G L h ds w t rc wl ws1 ws2 qa):bM H G:=by
  obtain ⟨H0,s,g⟩:=n.dg
  exact s.trans g.sm
def w0 (bx:List (Str×Int)) (qu:List (Str×List Int)) (dr:Nat) (se:Int):Wk:=⟨bx,qu,dr,se,[],[],false,[],[]⟩
section
variable {P:aM} {w:bH} {K:af} {mg:Str->Option ae} {base:cB} {f fI fS fB fW fO CD CS CM:aa} {fd fdI fdS fdB fdW fdO:bY} {bs qs:List Str} {cf:Flt->aa}
def Es (cf:Flt->aa) (CM CD CS:aa) (bs qs:List Str) (n:Nat):Sp:=fun vs H Q E=>∃ (m dxm ml st:aa) (fs:List (Str×V)) (ms:List V) (hv mv:V) (h:Ev) (ds:List Int) (hs:List (Str×Ds)) (bx:List (Str×Int)) (qu:List (Str×List Int)) (dr:Nat) (se:Int),vs=[.ref m,.ref st,hv]/\H m=some (.ins CM dxm fs)/\fs.lookup ("machines":Str)=some (.ref ml)/\H ml=some (.lst ms) /\
  gH H hv h/\atI ms h.to=some mv/\ue bs qs ds hs H mv/\kN CS H st bx qu dr se/\oX bs qs (w0 bx qu dr se)/\Wo h.t/\Wo h.a/\Wo h.b/\(iR hs h.sg).deep < n/\(iR hs h.sg).size < 100000 /\
  match doS h ds (iR hs h.sg) (w0 bx qu dr se) with
  | .ok w'=>∀ (G:Hp) (L:Lay) (t rc wl:aa) (ws1 ws2:List V) (qa:List (Str×aa)),Er CD CS bs qs H G L h ds w' t rc wl ws1 ws2 qa->Q (.ref t) G
  | .error e=>∀ G,bM H G->E (.ref (cf e)) none G
theorem by_go {CD CS:aa} {bs qs:List Str} {H G:Hp} {L:Lay} {h:Ev} {ds:List Int} {w:Wk} {tm hl:aa} {x0 x1 x2 x3:V} {hvs:List V} {hs:List (Str×Ds)} {sg:Str} {Q1:VK} {E:XK} (g:Dg CD CS bs qs H G L h ds w) (htm:H tm=some (.tup [x0,x1,x2,x3,.ref hl])) (hhl:H hl=some (.lst hvs)) (ph:aO (Bs bs qs H) hvs hs)
    (k:∀ (H0 G1:Hp) (u:V),bM H H0->bM G G1->Dg CD CS bs qs H0 G1 L h ds w->kA H0 (eJ bs qs H0 (iR hs sg)) u->Q1 u G1):Jr bs qs [.ref tm,.str sg] G Q1 E:=by
  refine ⟨H,tm,hl,_,_,_,_,hvs,hs,sg,rfl,g.sm,htm,hhl,ph,fun u hu=>k H G u (bM.refl _) (bM.refl _) g hu,fun l hl' e=>?_⟩
  have sl:=aD hl' (.lst [])
  have nl:=none_of g.sm hl'
  have s0:=aD nl (.lst [])
  have s1:bM (upd H l (.lst [])) (upd G l (.lst [])):=fun b o z=>by
    by_cases c:b=l
    · rw [c] at z |-
      rw [ah] at z |-
      exact z
    · rw [aJ c] at z |-
      exact g.sm _ _ z
  refine k _ _ _ s0 sl (g.base sl s0 s1 fun a ha=>?_) ⟨l,[],rfl,ah,by show 0 < 1000; decide,?_⟩
  · obtain ⟨o,z⟩:=g.there a ha
    rw [aJ (aG z hl')]
    exact g.fr a ha
  · rw [e]
    simp only [eJ]
def HI (cf:Flt->aa) (CM CD CS:aa) (bs qs:List Str) (n:Nat):Sp:=fun vs H Q E=>∃ (m dxm ml st:aa) (fs:List (Str×V)) (ms:List V) (hv mv:V) (h:Ev) (ds:List Int) (hs:List (Str×Ds)) (bx:List (Str×Int)) (qu:List (Str×List Int)) (dr:Nat) (se:Int),vs=[.ref m,.ref st,hv]/\H m=some (.ins CM dxm fs)/\fs.lookup ("machines":Str)=some (.ref ml)/\H ml=some (.lst ms) /\
  gH H hv h/\atI ms h.to=some mv/\ue bs qs ds hs H mv/\kN CS H st bx qu dr se/\oX bs qs (w0 bx qu dr se)/\Wo h.t/\Wo h.a/\Wo h.b/\(iR hs h.sg).deep < n/\(iR hs h.sg).size < 100000 /\
  match doS h ds (iR hs h.sg) (w0 bx qu dr se) with
  | .ok w'=>∀ (H0 G:Hp) (L:Lay),bM H H0->Dg CD CS bs qs H0 G L h ds w'->L.m=mv->Q (.ref L.d) G
  | .error e=>∀ G,bM H G->E (.ref (cf e)) none G
theorem Js:bV ["model","state","happening","machine","doing"] ["model","state","happening"] (aQ lY):=⟨rfl,rfl,rfl,by decide +kernel,rfl,by decide +kernel,by decide +kernel⟩
theorem Jt {n:Nat} (D:Df K mg "doing_of" lY ["model","state","happening"] f fd) (MD:Mk K CD fI) (bI:Binds K fdI ["self","machine","state","happening"] []) (GI:bT P w K mg base CX0 4 fI fdI ["self","machine","state","happening"] (Jq CD CS bs qs))
    (DS:Df K mg "do_deeds" gR ["doing","deeds"] fS fdS) (GS:bT P w K mg base (CXo P w) (20 + 3 * n) fS fdS ["doing","deeds"] (uc cf CD CS bs qs n)) (DB:Df K mg "deeds_by_sign" gB ["machine","sign"] fB fdB) (T:DT K mg CD) (TM:MdT K mg CM CS) :
    bT P w K mg base (CXo P w) (20 + 3 * n + 1) f fd ["model","state","happening"] (HI cf CM CD CS bs qs n):=by
  have GB:bT P w K mg base CX0 1 fB fdB ["machine","sign"] (Jr bs qs):=ok_by DB
  refine D.F.okX Js (fun vs H Q E h=>?_) (fun cdv A outer s H vs Q E hr h=>?_)
  · obtain ⟨m,dxm,ml,st,fs,ms,hv,mv,h,ds,hs,bx,qu,dr,se,rfl,_⟩:=h
    rfl
  obtain ⟨m,dxm,ml,st,fs,ms,hv,mv,h,ds,hs,bx,qu,dr,se,rfl,hm,hfs,hml,hE,hmv,hM,hS,ok,wt,wa,wb,dn,sz,p⟩:=h
  have r1:dP 1 _:=hr.mono (by omega)
  have r5:dP 5 _:=hr.mono (by omega)
  refine ⟨_,ak (bz (i:=3) Js.nd rfl (Or.inl rfl) (bZ dZ (cN (pv 0) rfl) (bZ cF (pv 2) ay (fun _ _=>rfl)) (fun _ _=>rfl)))
    (ak (bz (i:=4) Js.nd rfl (Or.inl rfl) (oF MD GI r5 (by rfl) T.mD bI .nil cm (aq (pv 3) (aq (pv 1) (aq (pv 2) ao)))))
    (ak (dW (aS GS hr (by rfl) DS.m DS.F.kp DS.b .nil (dN.passes fun _ _ _ z=>z) (aq (pv 4) (aq (aS GB r1 (by rfl) DB.m DB.F.kp DB.b .nil cm (aq (pv 3) (aq (bZ cF (pv 2) ay (fun _ _=>rfl)) ao))) ao))))
    (aF (bX (pv 4))))),?_⟩
  obtain ⟨th,kh,rfl,hth,hkh⟩:=id hE
  obtain ⟨tm,bl,ql,dl,hl,nm,vb,hvs,rfl,htm,hbl,pb,hql,hdl,hhl,ph⟩:=hM.ex
  refine ⟨_,rfl,m,CM,dxm,_,_,rfl,hm,TM.clM,TM.nM,hfs,_,rfl,th,_,_,_,rfl,rfl,SqT.of hth,rfl,ml,_,_,_,rfl,rfl,SqL.of hml,hmv,?_⟩
  refine ⟨_,rfl,_,rfl,_,rfl,?_⟩
  intro d dx nd_ ndx nne
  have sA:bM H (upd (upd H dx (.own d)) d (.ins CD dx [])):=fun b o e=>by
    rw [aJ (aG e nd_),aJ (aG e ndx)]
    exact e
  refine ⟨H,d,dx,st,.ref tm,.ref th,h,ds,bx,qu,dr,se,rfl,ah,nd_,sA,hS,hE,⟨tm,_,_,_,_,dl,rfl,htm,hdl⟩,ok,wt,wa,wb,fun G L eL em g=>⟨rfl,?_⟩⟩
  have gth:=g.sm _ _ hth
  refine ⟨_,rfl,_,rfl,_,rfl,th,_,_,_,rfl,rfl,SqT.of gth,rfl,?_⟩
  subst eL
  refine by_go (E:=E0) g htm hhl ph fun H0 G1 u s0 s1 g1 hu=>?_
  refine ⟨H0,L,h,ds,w0 bx qu dr se,u,iR hs h.sg,rfl,g1,hu,dn,(by show 0 + _ < _; omega),?_⟩
  have mid:∀ {dg:Wk->Hp->Prop} {r:Except Flt Wk} {Q1:VK} {k:Nat},r=doS h ds (iR hs h.sg) (w0 bx qu dr se)->(∀ w' G2,r=.ok w'->dg w' G2->Q1 .non G2)->rp cf dg H0 k r Q1 E:=fun {dg r Q1 k} e q=>by
    cases r with
    | ok w'=>exact fun G2 g2 _=>q w' G2 rfl g2
    | error er =>
      rw [<- e] at p
      exact fun G2 s2=>p G2 (s0.trans s2)
  refine mid rfl fun w' G2 ew g2=>?_
  rw [ew] at p
  exact ⟨_,rfl,p H0 G2 L s0 g2 em⟩
theorem Ju:bV ["model","state","happening","doing","record"] ["model","state","happening"] (aQ wK):=⟨rfl,rfl,rfl,by decide +kernel,rfl,by decide +kernel,by decide +kernel⟩
theorem Gj {n:Nat} (D:Df K mg "done" wK ["model","state","happening"] f fd) (DO:Df K mg "doing_of" lY ["model","state","happening"] fO fdO) (MD:Mk K CD fI) (bI:Binds K fdI ["self","machine","state","happening"] []) (GI:bT P w K mg base CX0 4 fI fdI ["self","machine","state","happening"] (Jq CD CS bs qs))
    (DS:Df K mg "do_deeds" gR ["doing","deeds"] fS fdS) (GS:bT P w K mg base (CXo P w) (20 + 3 * n) fS fdS ["doing","deeds"] (uc cf CD CS bs qs n)) (DB:Df K mg "deeds_by_sign" gB ["machine","sign"] fB fdB) (DW:Df K mg "writes_of" kr ["doing"] fW fdW) (T:DT K mg CD) (TM:MdT K mg CM CS) (B:Bl mg) :
    bT P w K mg base (CXo P w) (20 + 3 * n + 2) f fd ["model","state","happening"] (Es cf CM CD CS bs qs n):=by
  have GO:bT P w K mg base (CXo P w) (20 + 3 * n + 1) fO fdO ["model","state","happening"] (HI cf CM CD CS bs qs n):=Jt DO MD bI GI DS GS DB T TM
  have GW:bT P w K mg base CX0 1 fW fdW ["doing"] (spWr CD CS bs qs):=Bt DW T TM B
  refine D.F.okX Ju (fun vs H Q E h=>?_) (fun cdv A outer s H vs Q E hr h=>?_)
  · obtain ⟨m,dxm,ml,st,fs,ms,hv,mv,h,ds,hs,bx,qu,dr,se,rfl,_⟩:=h
    rfl
  obtain ⟨m,dxm,ml,st,fs,ms,hv,mv,h,ds,hs,bx,qu,dr,se,rfl,hm,hfs,hml,hE,hmv,hM,hS,ok,wt,wa,wb,dn,sz,p⟩:=h
  have r1:dP 1 _:=hr.mono (by omega)
  refine ⟨_,ak (bz (i:=3) Ju.nd rfl (Or.inl rfl) (aS GO hr (by rfl) DO.m DO.F.kp DO.b .nil (dN.passes fun _ _ _ z=>z) (aq (pv 0) (aq (pv 1) (aq (pv 2) ao)))))
    (ak (bz (i:=4) Ju.nd rfl (Or.inl rfl) (cP oH (pv 2) (cR (aq (aS GW r1 (by rfl) DW.m DW.F.kp DW.b .nil cm (aq (pv 3) ao)) (aq (cN (pv 3) rfl) ao)))))
    (aF (bX (cR (aq (cN (pv 3) rfl) (aq (pv 4) (aq (cN (pv 3) rfl) ao))))))),?_⟩
  obtain ⟨th,kh,rfl,hth,hkh⟩:=id hE
  refine ⟨_,rfl,_,rfl,_,rfl,m,dxm,ml,st,fs,ms,_,mv,h,ds,hs,bx,qu,dr,se,rfl,hm,hfs,hml,hE,hmv,hM,hS,ok,wt,wa,wb,dn,sz,?_⟩
  cases ew:doS h ds (iR hs h.sg) (w0 bx qu dr se) with
  | error e =>
    rw [ew] at p
    exact p
  | ok w' =>
  rw [ew] at p
  intro H0 G2 L s0 g2 em
  have hth2:=g2.sm _ _ (s0 _ _ hth)
  have gM:ue bs qs ds hs H0 L.m:=by
    rw [em]
    exact hM.same s0
  refine ⟨_,rfl,_,rfl,H0,L,h,ds,w',hs,rfl,g2,gM,fun G3 wl ws1 ws2 qa s3 wr=>?_⟩
  have g3:=g2.same s3
  refine ⟨_,rfl,L.d,CD,L.dx,_,_,rfl,g3.hd,T.cl,T.nO,dF_o _ _ _ _ _ _ _ _,lt2,fun tt htt=>?_⟩
  have s4:=aD htt (.tup [.ref wl,.ref L.od])
  refine ⟨th,tt,_,_,rfl,rfl,SqT.of (s4 _ _ (s3 _ _ hth2)),SqT.of ah,(by intro z; cases z),(by show 7<=aA; decide),(fun z=>by cases z),fun _ rc hrc=>?_⟩
  have s5:=aD hrc (.tup [.ref kh,.int h.to,.str h.sg,.int h.a,.int h.b,.ref wl,.ref L.od])
  have g5:=(g3.same s4).same s5
  refine ⟨_,rfl,L.d,CD,L.dx,_,_,rfl,g5.hd,T.cl,T.nS,uU _ _ _ _ _ _ _ _,_,rfl,_,rfl,L.d,CD,L.dx,_,_,rfl,g5.hd,T.cl,T.nE,dF_e _ _ _ _ _ _ _ _,(by show 3<=aA; decide),fun t ht=>?_⟩
  have s6:=aD ht (.tup [.ref L.st,.ref rc,.bl w'.en])
  have s46:=(s4.trans s5).trans s6
  refine p _ L t rc wl ws1 ws2 qa ⟨⟨H0,s0,g5.same s6⟩,ah,⟨kh,s6 _ _ ah,hkh⟩,⟨s46 _ _ wr.hl,Paired.mono (fun _ _ z=>z.keep fun b xs e=>s46 _ _ e) wr.b,Paired.mono (fun _ _ z=>z.keep fun b xs e=>s46 _ _ e) wr.q,wr.l.same s46,wr.nd,fun a ha=>none_of (s0.trans g2.sm) (wr.fr a ha)⟩,?_⟩
  refine gS.mpr ⟨g2.nd,wr.nd,fun a ha b hb z=>?_⟩
  obtain ⟨o,y⟩:=g2.there a ha
  rw [z,wr.fr b hb] at y
  cases y
end
end My
namespace My
open PySem L2
theorem bS {t u:TS} {D:jM} {σ:St} {H:Hp} (h:t {D with nx:=u D} σ H):tSeq t u D σ H:=h
theorem cJ {te:TE} {g:TG} {D:jM} {σ:St} {H:Hp} (h:te σ H fun x H1=>g x σ H1 D.nx):AX te g D σ H:=h
theorem aZ {i:Nat} {v:V} {σ:St} {H:Hp} {Q:St->Hp->Prop} (h:Q (σ.set i (some v)) H):u9 i v σ H Q:=h
theorem zA {C:aa} {sp:Sp} {dvs:List V} {E:XK} {t:TA} {σ:St} {H:Hp} {Q:VK} (h:t σ H fun vs H1=>∀ x dx,H1 x=none->H1 dx=none->dx≠x ->
    sp (.ref x :: (vs++dvs)) (upd (upd H1 dx (.own x)) x (.ins C dx [])) (fun v H2=>v=.non/\Q (.ref x) H2) E):Hr C sp dvs E t σ H Q:=h
end My
namespace My
open PySem L2
section
variable {X:Cx} {e:cX} {ta:TE} {f:Str} {pos:Pos}
theorem fu (K:af) (hK:X.K=K) (he:PE X e ta) (hb:j0 e f X.env (eW e X.env)=eW e X.env):PE X (.Attribute e f pos) (Cq K ta f):=by
  rw [<- hK]
  exact cN he hb
theorem Et (K:af) (hK:X.K=K):mC X (.type "list") (fun xs H Q=>∃ p ys,xs=[.ref p]/\(SqL K H p ys\/SqT K H p ys)/\∀ l,H l=none->Q (.ref l) (upd H l (.lst ys))):=by
  rw [<- hK]
  exact lU
end
end My
namespace My
open PySem L2
theorem Ar {H:Hp} {n:Nat} {t:aa} {xs:List V} (ht:H t=some (.tup xs)\/H t=some (.lst xs)) (T:Tree H n (.ref t)):∃ m,n=m + 1/\∀ x∈xs,Tree H m x:=by
  cases n with
  | zero=>exact T.elim
  | succ m =>
    refine ⟨m,rfl,?_⟩
    rcases T with T | ⟨p,ys,e,h1,_,h2⟩
    · exact T.elim
    · cases e
      have exy:xs=ys:=by
        rcases ht with ht | ht <;> rcases h1 with h1 | h1 <;> rw [ht] at h1 <;> cases h1 <;> rfl
      rw [exy]
      exact h2
theorem ib {H H':Hp} {n:Nat} {t:aa} {xs:List V} {v':V} (ht:H t=some (.tup xs)) (T:Tree H n (.ref t)) (al:Alike H H' n (.ref t) v'):∃ m t' ys,v'=.ref t'/\H' t'=some (.tup ys)/\aO (Alike H H' m) xs ys/\∀ x∈xs,Tree H m x:=by
  obtain ⟨m,rfl,h⟩:=Ar (.inl ht) T
  obtain ⟨t',ys,e,h1,h2⟩:=rm ht al
  exact ⟨m,t',ys,e,h1,h2,h⟩
theorem ug {H H':Hp} {n:Nat} {t:aa} {xs:List V} {v':V} (ht:H t=some (.lst xs)) (T:Tree H n (.ref t)) (al:Alike H H' n (.ref t) v'):∃ m t' ys,v'=.ref t'/\H' t'=some (.lst ys)/\aO (Alike H H' m) xs ys/\∀ x∈xs,Tree H m x:=by
  obtain ⟨m,rfl,h⟩:=Ar (.inr ht) T
  obtain ⟨t',ys,e,h1,h2⟩:=oK ht al
  exact ⟨m,t',ys,e,h1,h2,h⟩
theorem c9 {R:V->V->Prop} {x:V} {xs ys:List V} (r:aO R (x :: xs) ys):∃ y yr,ys=y :: yr/\R x y/\aO R xs yr:=by
  cases r with
  | cons a b=>exact ⟨_,_,rfl,a,b⟩
theorem lJ {R:V->V->Prop} {ys:List V} (r:aO R [] ys):ys=[]:=by
  cases r
  rfl
theorem gG.alike {bs qs:List Str} {H H':Hp} {v:V} {F:Fm} (h:gG bs qs H v F):∀ {n:Nat} {v':V},Tree H n v->Alike H H' n v v'->gG bs qs H' v' F:=by
  induction h with
  | num h1 h2 =>
    intro n v' T al
    obtain ⟨m,t',ys,rfl,g1,g2,_⟩:=ib h1 T al
    rw [hU g2 (by intro x hx; simp only [au,aR,or_false] at hx; rcases hx with rfl | rfl <;> exact trivial)] at g1
    exact .num g1 h2
  | box h1 h2 =>
    intro n v' T al
    obtain ⟨m,t',ys,rfl,g1,g2,_⟩:=ib h1 T al
    rw [hU g2 (by intro x hx; simp only [au,aR,or_false] at hx; rcases hx with rfl | rfl <;> exact trivial)] at g1
    exact .box g1 h2
  | long h1 h2 =>
    intro n v' T al
    obtain ⟨m,t',ys,rfl,g1,g2,_⟩:=ib h1 T al
    rw [hU g2 (by intro x hx; simp only [au,aR,or_false] at hx; rcases hx with rfl | rfl <;> exact trivial)] at g1
    exact .long g1 h2
  | got h1 =>
    intro n v' T al
    obtain ⟨m,t',ys,rfl,g1,g2,_⟩:=ib h1 T al
    rw [hU g2 (by intro x hx; simp only [au,aR,or_false] at hx; rcases hx with rfl | rfl <;> exact trivial)] at g1
    exact .got g1
  | now h1 =>
    intro n v' T al
    obtain ⟨m,t',ys,rfl,g1,g2,_⟩:=ib h1 T al
    rw [hU g2 (by intro x hx; rw [aH.mp hx]; exact trivial)] at g1
    exact .now g1
  | two h1 h2 _ _ i1 i2 =>
    intro n v' T al
    obtain ⟨m,t',ys,rfl,g1,g2,tr⟩:=ib h1 T al
    obtain ⟨y0,yr,rfl,a0,g2⟩:=c9 g2
    obtain ⟨y1,yr,rfl,a1,g2⟩:=c9 g2
    obtain ⟨y2,yr,rfl,a2,g2⟩:=c9 g2
    obtain rfl:=lJ g2
    have e0:=eI (v:=.str _) trivial a0
    rw [e0] at g1
    exact .two g1 h2 (i1 (tr _ (by simp)) a1) (i2 (tr _ (by simp)) a2)
theorem FmI.alike {bs qs:List Str} {H H':Hp} {v v':V} {F:Fm} {n:Nat} (h:FmI bs qs H v F) (T:Tree H n v) (al:Alike H H' n v v'):FmI bs qs H' v' F:=⟨h.1.alike T al,h.2⟩
theorem kA.alike {H H':Hp} {R R':List V->Prop} {v v':V} {n:Nat} (h:kA H R v) (T:Tree H n v) (al:Alike H H' n v v') (k:∀ m vs ys,R vs->aO (Alike H H' m) vs ys->(∀ x∈vs,Tree H m x)->R' ys):kA H' R' v':=by
  obtain ⟨l,vs,rfl,h1,h2,h3⟩:=h
  obtain ⟨m,t',ys,rfl,g1,g2,tr⟩:=ug h1 T al
  exact ⟨t',ys,rfl,g1,by rw [<- aT g2]; exact h2,k m vs ys h3 g2 tr⟩
mutual
theorem dY.alike {bs qs:List Str} {H H':Hp}:∀ (d:Dd) (v v':V) (n:Nat),dY bs qs H d v->Tree H n v->Alike H H' n v v'->dY bs qs H' d v'
  | .put x f,v,v',n,h,T,al=>by
    obtain ⟨t,u,rfl,h1,h2,h3⟩:=(by simpa only [dY] using h)
    obtain ⟨m,t',ys,rfl,g1,g2,tr⟩:=ib h1 T al
    obtain ⟨y0,yr,rfl,a0,g2⟩:=c9 g2
    obtain ⟨y1,yr,rfl,a1,g2⟩:=c9 g2
    obtain ⟨y2,yr,rfl,a2,g2⟩:=c9 g2
    obtain rfl:=lJ g2
    rw [eI (v:=.str _) trivial a0,eI (v:=.str _) trivial a1] at g1
    simp only [dY]
    exact ⟨t',y2,rfl,g1,h2,h3.alike (tr _ (by simp)) a2⟩
  | .push x f,v,v',n,h,T,al=>by
    obtain ⟨t,u,rfl,h1,h2,h3⟩:=(by simpa only [dY] using h)
    obtain ⟨m,t',ys,rfl,g1,g2,tr⟩:=ib h1 T al
    obtain ⟨y0,yr,rfl,a0,g2⟩:=c9 g2
    obtain ⟨y1,yr,rfl,a1,g2⟩:=c9 g2
    obtain ⟨y2,yr,rfl,a2,g2⟩:=c9 g2
    obtain rfl:=lJ g2
    rw [eI (v:=.str _) trivial a0,eI (v:=.str _) trivial a1] at g1
    simp only [dY]
    exact ⟨t',y2,rfl,g1,h2,h3.alike (tr _ (by simp)) a2⟩
  | .pull q x o,v,v',n,h,T,al=>by
    obtain ⟨t,u,rfl,h1,h2,h3,h4⟩:=(by simpa only [dY] using h)
    obtain ⟨m,t',ys,rfl,g1,g2,tr⟩:=ib h1 T al
    obtain ⟨y0,yr,rfl,a0,g2⟩:=c9 g2
    obtain ⟨y1,yr,rfl,a1,g2⟩:=c9 g2
    obtain ⟨y2,yr,rfl,a2,g2⟩:=c9 g2
    obtain ⟨y3,yr,rfl,a3,g2⟩:=c9 g2
    obtain rfl:=lJ g2
    rw [eI (v:=.str _) trivial a0,eI (v:=.str _) trivial a1,eI (v:=.str _) trivial a2] at g1
    simp only [dY]
    exact ⟨t',y3,rfl,g1,h2,h3,h4.alike (tr _ (by simp)) a3 fun m vs ys a b c=>eJ.alike o vs ys m a b c⟩
  | .draw x f,v,v',n,h,T,al=>by
    obtain ⟨t,u,rfl,h1,h2,h3⟩:=(by simpa only [dY] using h)
    obtain ⟨m,t',ys,rfl,g1,g2,tr⟩:=ib h1 T al
    obtain ⟨y0,yr,rfl,a0,g2⟩:=c9 g2
    obtain ⟨y1,yr,rfl,a1,g2⟩:=c9 g2
    obtain ⟨y2,yr,rfl,a2,g2⟩:=c9 g2
    obtain rfl:=lJ g2
    rw [eI (v:=.str _) trivial a0,eI (v:=.str _) trivial a1] at g1
    simp only [dY]
    exact ⟨t',y2,rfl,g1,h2,h3.alike (tr _ (by simp)) a2⟩
  | .send to sg sp rk a b,v,v',n,h,T,al=>by
    obtain ⟨t,u,u1,u2,rfl,h1,h2,h3,h4⟩:=(by simpa only [dY] using h)
    obtain ⟨m,t',ys,rfl,g1,g2,tr⟩:=ib h1 T al
    obtain ⟨y0,yr,rfl,a0,g2⟩:=c9 g2
    obtain ⟨y1,yr,rfl,a1,g2⟩:=c9 g2
    obtain ⟨y2,yr,rfl,a2,g2⟩:=c9 g2
    obtain ⟨y3,yr,rfl,a3,g2⟩:=c9 g2
    obtain ⟨y4,yr,rfl,a4,g2⟩:=c9 g2
    obtain ⟨y5,yr,rfl,a5,g2⟩:=c9 g2
    obtain ⟨y6,yr,rfl,a6,g2⟩:=c9 g2
    obtain rfl:=lJ g2
    rw [eI (v:=.str _) trivial a0,eI (v:=.int _) trivial a1,eI (v:=.str _) trivial a2,eI (v:=.int _) trivial a4] at g1
    simp only [dY]
    exact ⟨t',y3,y5,y6,rfl,g1,h2.alike (tr _ (by simp)) a3,h3.alike (tr _ (by simp)) a5,h4.alike (tr _ (by simp)) a6⟩
  | .ife f x y,v,v',n,h,T,al=>by
    obtain ⟨t,u,u1,u2,rfl,h1,h2,h3,h4⟩:=(by simpa only [dY] using h)
    obtain ⟨m,t',ys,rfl,g1,g2,tr⟩:=ib h1 T al
    obtain ⟨y0,yr,rfl,a0,g2⟩:=c9 g2
    obtain ⟨y1,yr,rfl,a1,g2⟩:=c9 g2
    obtain ⟨y2,yr,rfl,a2,g2⟩:=c9 g2
    obtain ⟨y3,yr,rfl,a3,g2⟩:=c9 g2
    obtain rfl:=lJ g2
    rw [eI (v:=.str _) trivial a0] at g1
    simp only [dY]
    exact ⟨t',y1,y2,y3,rfl,g1,h2.alike (tr _ (by simp)) a1,h3.alike (tr _ (by simp)) a2 fun m vs ys a b c=>eJ.alike x vs ys m a b c,h4.alike (tr _ (by simp)) a3 fun m vs ys a b c=>eJ.alike y vs ys m a b c⟩
  | .fin,v,v',n,h,T,al=>by
    obtain ⟨t,rfl,h1⟩:=(by simpa only [dY] using h)
    obtain ⟨m,t',ys,rfl,g1,g2,tr⟩:=ib h1 T al
    obtain ⟨y0,yr,rfl,a0,g2⟩:=c9 g2
    obtain rfl:=lJ g2
    rw [eI (v:=.str _) trivial a0] at g1
    simp only [dY]
    exact ⟨t',rfl,g1⟩
theorem eJ.alike {bs qs:List Str} {H H':Hp}:∀ (d:Ds) (vs ys:List V) (n:Nat),eJ bs qs H d vs->aO (Alike H H' n) vs ys->(∀ x∈vs,Tree H n x)->eJ bs qs H' d ys
  | .nil,vs,ys,n,h,al,T=>by
    have e:vs=[]:=by simpa only [eJ] using h
    subst e
    obtain rfl:=lJ al
    simp only [eJ]
  | .cons d r,vs,ys,n,h,al,T=>by
    obtain ⟨v,vr,rfl,h1,h2⟩:=(by simpa only [eJ] using h)
    obtain ⟨y,yr,rfl,a,b⟩:=c9 al
    simp only [eJ]
    exact ⟨y,yr,rfl,dY.alike d v y n h1 (T v aw) a,eJ.alike r vr yr n h2 b fun x hx=>T x (ag _ hx)⟩
end
theorem rA {α:Type} {R R':V->α->Prop} {S:V->V->Prop} {T:V->Prop} (f:∀ v a v',R v a->S v v'->T v->R' v' a):∀ {xs ys:List V} {as:List α},aO R xs as->aO S xs ys->(∀ x∈xs,T x)->aO R' ys as:=by
  intro xs ys as p
  induction p generalizing ys with
  | nil =>
    intro q _
    cases q
    exact .nil
  | cons a b ih =>
    intro q t
    cases q with
    | cons c d=>exact .cons (f _ _ _ a c (t _ aw)) (ih d fun x hx=>t x (ag _ hx))
theorem ue.alike {bs qs:List Str} {ds:List Int} {hs:List (Str×Ds)} {H H':Hp} {v v':V} {n:Nat} (h:ue bs qs ds hs H v) (T:Tree H n v) (al:Alike H H' n v v'):ue bs qs ds hs H' v':=by
  obtain ⟨t,bl,ql,dl,hl,nm,vb,hv,rfl,h1,h2,h3,h4,h5,h6,h7⟩:=h.ex
  obtain ⟨m,t',ys,rfl,g1,g2,tr⟩:=ib h1 T al
  obtain ⟨y0,yr,rfl,a0,g2⟩:=c9 g2
  obtain ⟨y1,yr,rfl,a1,g2⟩:=c9 g2
  obtain ⟨y2,yr,rfl,a2,g2⟩:=c9 g2
  obtain ⟨y3,yr,rfl,a3,g2⟩:=c9 g2
  obtain ⟨y4,yr,rfl,a4,g2⟩:=c9 g2
  obtain rfl:=lJ g2
  obtain ⟨m1,b',zs1,rfl,c1,d1,t1⟩:=ug h2 (tr _ (by simp)) a1
  obtain ⟨m2,q',zs2,rfl,c2,d2,t2⟩:=ug h4 (tr _ (by simp)) a2
  obtain ⟨m3,e',zs3,rfl,c3,d3,t3⟩:=ug h5 (tr _ (by simp)) a3
  obtain ⟨m4,f',zs4,rfl,c4,d4,t4⟩:=ug h6 (tr _ (by simp)) a4
  rw [hU d2 (by intro x hx; obtain ⟨z,_,rfl⟩:=cL.mp hx; exact trivial)] at c2
  rw [hU d3 (by intro x hx; obtain ⟨z,_,rfl⟩:=cL.mp hx; exact trivial)] at c3
  refine ⟨t',b',q',e',f',y0,zs1,zs4,rfl,g1,c1,rA (fun v a v' x y z=>?_) h3 d1 t1,c2,c3,c4,rA (fun v a v' x y z=>?_) h7 d4 t4⟩
  · obtain ⟨p,k,rfl,hp⟩:=x
    obtain ⟨m',p',ws,rfl,k1,k2,_⟩:=ib hp z y
    obtain ⟨w0,wr,rfl,b0,k2⟩:=c9 k2
    obtain ⟨w1,wr,rfl,b1,k2⟩:=c9 k2
    obtain rfl:=lJ k2
    rw [eI (v:=.str _) trivial b0] at k1
    exact ⟨p',w1,rfl,k1⟩
  · obtain ⟨p,u,rfl,hp,hu⟩:=x
    obtain ⟨m',p',ws,rfl,k1,k2,tr'⟩:=ib hp z y
    obtain ⟨w0,wr,rfl,b0,k2⟩:=c9 k2
    obtain ⟨w1,wr,rfl,b1,k2⟩:=c9 k2
    obtain rfl:=lJ k2
    rw [eI (v:=.str _) trivial b0] at k1
    exact ⟨p',w1,rfl,k1,hu.alike (tr' _ (by simp)) b1 fun m vs ys a b c=>eJ.alike _ vs ys m a b c⟩
end My
namespace My
open PySem L2
def HJ (K:af):List V->Hp->VK->Prop:=fun xs H Q=>∃ p ys,xs=[.ref p]/\(SqL K H p ys\/SqT K H p ys)/\Q (.int ys.length) H
theorem eR {X:Cx} (K:af) (hK:X.K=K):mC X (.builtin "len") (HJ K):=by
  rw [<- hK]
  exact gY
theorem Eu {X:Cx} (K:af) (hK:X.K=K):IxR X (IA K):=by
  rw [<- hK]
  exact dZ
theorem mi {X:Cx} (K:af) (hK:X.K=K):IxR X (IB K):=by
  rw [<- hK]
  exact cF
theorem As {X:Cx} {pos:Pos} {es:List cX} {k:Nat} {t:TGs} {n:Nat} (K:af) (hK:X.K=K) (hc:X.calm=true) (h:PGs X es t)
    (hn:(gO es X.env).length=n:=by rfl) (hst:(gO es X.env).findIdx? (·.1)=none:=by rfl):PG X (.Tuple es k pos) (gTup K n t):=by
  rw [<- hK]
  exact Ca hc h hn hst
theorem pE:1<=aA:=by decide
theorem gK {te:TE} {D:jM} {σ:St} {H:Hp} (h:te σ H D.rt):tRet te D σ H:=h
theorem Bu {K:af} {m C dx ml:aa} {fs:List (Str×V)} {f:Str} {ms:List V} {n i:Nat} {g:TG} {tc:L2.TT} {te:TE} {σ:St} {H:Hp} {Q:VK} (hv:σ[i]?=some (some (.ref m))) (hm:H m=some (.ins C dx fs)) (cl:Cls K C) (na:eE K C f) (lk:fs.lookup f=some (.ref ml)) (hml:H ml=some (.lst ms)) (hlen:ms.length < 1000)
    (Pv:Nat->List V->Hp->Prop) (h0:Pv 0 [] H) (hl:∀ i ys H,i<=ms.length->Pv i ys H->ys.length < aA)
    (hs:∀ i ys H,i < ms.length->Pv i ys H->g (.int (0 + i)) (cC n none++σ) H fun σ2 H2=>σ2.drop n=σ/\tc σ2 H2 fun b H3=>if b=true then te σ2 H3 fun y H4=>Pv (i + 1) (ys++[y]) H4 else Pv (i + 1) ys H3)
    (hd:∀ ys H,Pv ms.length ys H->∀ p,H p=none->Q (.ref p) (upd H p (.lst ys))):rP n (Cf (mE (tCB (HJ K) (mE (Cq K (tE i) f) xI)) xI)) g tc te σ H Q:=by
  refine ⟨.ref m,hv,m,C,dx,fs,.ref ml,rfl,hm,cl,na,lk,ml,ms,rfl,.inl (SqL.of hml),(ms.length:Int),rfl,by omega,by omega,?_⟩
  rw [sI]
  refine ⟨fun i k ys H=>k=ms.length - i/\i<=ms.length/\Pv i ys H,⟨ms.length,by simp,bj _,h0⟩,?_⟩
  rintro i k ys H ⟨rfl,hi,pv'⟩
  refine ⟨hl i ys H hi pv',?_⟩
  by_cases lt:i < ms.length
  · refine .inr ⟨lt,Pv (i + 1),fun ys' H' p'=>⟨ms.length - (i + 1),by omega,rfl,lt,p'⟩,fun x H' y=>?_⟩
    obtain ⟨e,y⟩:=y
    subst e y
    exact hs i ys _ lt pv'
  · have e:i=ms.length:=by omega
    subst e
    exact .inl ⟨aC _,hd ys H pv'⟩
theorem zB {K:af} {a:aa} {xs:List V} {n i:Nat} {g:TG} {tc:L2.TT} {te:TE} {σ:St} {H:Hp} {Q:VK} (hv:σ[i]?=some (some (.ref a))) (hx:SqL K H a xs) (Pv:Nat->List V->Hp->Prop) (h0:Pv 0 [] H) (hl:∀ i ys H,i<=xs.length->Pv i ys H->SqL K H a xs/\ys.length < aA)
    (hs:∀ i x t ys H,xs[i]?=some x->Pv i ys H->H t=none->g (.ref t) (cC n none++σ) (upd H t (.tup [.int i,x])) fun σ2 H2=>σ2.drop n=σ/\tc σ2 H2 fun b H3=>if b=true then te σ2 H3 fun y H4=>Pv (i + 1) (ys++[y]) H4 else Pv (i + 1) ys H3)
    (hd:∀ ys H,Pv xs.length ys H->∀ p,H p=none->Q (.ref p) (upd H p (.lst ys))):rP n (Hz K (mE (tE i) xI)) g tc te σ H Q:=
  ⟨.ref a,hv,a,rfl,⟨xs,hx⟩,Bg Pv h0 hl hs hd⟩
def wV (H:Hp) (v:V) (e:Ev):Prop:=∃ t,v=.ref t/\H t=some (.tup [.int e.t,.int e.r,.int e.to,.str e.sg,.int e.a,.int e.b])
theorem wV.same {H H':Hp} (s:bM H H') {v:V} {e:Ev} (h:wV H v e):wV H' v e:=by
  obtain ⟨t,e,h⟩:=h
  exact ⟨t,e,s _ _ h⟩
def atP (e:Ev) (i:Nat):Ev:={e with fr:=-1,c:=i}
section
variable {P:aM} {w:bH} {K:af} {mg:Str->Option ae} {base:cB} {f fP CB:aa} {fd fdP:bY}
def HK:Sp:=fun vs H Q _=>∃ (sl:aa) (svs:List V) (es:List Ev),vs=[.ref sl]/\H sl=some (.lst svs)/\aO (wV H) svs es/\es.length < 1000 /\
  ∀ (G:Hp) (l:aa) (ys:List V),bM H G->H l=none->G l=some (.lst ys)->ys.length=es.length->(∀ i y e,ys[i]?=some y->es[i]?=some e->gH G y (atP e i))->Q (.ref l) G
theorem scPf:bV ["signs"] ["signs"] (aQ fX):=⟨rfl,rfl,rfl,by decide +kernel,rfl,by decide +kernel,by decide +kernel⟩
theorem ndPf:((["place","sign"]:List Str)++(["signs"]:List Str)).Nodup:=by decide +kernel
theorem Jv (D:Df K mg "pending_at_first" fX ["signs"] f fd) (ME:mg "enumerate"=none):bT P w K mg base CX0 1 f fd ["signs"] HK:=by
  refine D.F.ok scPf (fun vs H Q E h=>?_) (fun cdv A outer s H vs Q E hr h=>?_)
  · obtain ⟨sl,svs,es,rfl,_⟩:=h
    rfl
  obtain ⟨sl,svs,es,rfl,hsl,ps,les,k⟩:=h
  refine ⟨_,aF (bX (sP ["place","sign"] (ia.open (NN:=["signs"]) (N:=["signs"]) (sc:=aQ fX) rfl rfl (by decide +kernel) rfl (by decide +kernel) (by decide +kernel) rfl (by decide +kernel)) rfl (Fy (by rfl) ME (aq (pv 0) ao))
    (fun _ _ _ _=>As (n:=2) K (by rfl) rfl (gA (dy (i:=0) ndPf rfl (Or.inl rfl)) (gA (dy (i:=1) ndPf rfl (Or.inl rfl)) p0))) (fun _ _ _ _=>jI)
    (fun _ _ _ _=>cR (aq (cR (aq (bZ (mi K (by rfl)) (pv 1) ay (by intro _ _; rfl)) (aq (bZ (mi K (by rfl)) (pv 1) ay (by intro _ _; rfl)) (aq (tH pj ay) (aq (pv 0) ao)))))
      (aq (bZ (mi K (by rfl)) (pv 1) ay (by intro _ _; rfl)) (aq (bZ (mi K (by rfl)) (pv 1) ay (by intro _ _; rfl)) (aq (bZ (mi K (by rfl)) (pv 1) ay (by intro _ _; rfl)) (aq (bZ (mi K (by rfl)) (pv 1) ay (by intro _ _; rfl)) ao)))))))),?_⟩
  have big:=eU
  have lps:=aT ps
  refine gK ?_
  refine zB (K:=K) (a:=sl) (xs:=svs) rfl (SqL.of hsl) (fun i ys G=>ys.length=i/\bM H G/\∀ j y e,ys[j]?=some y->es[j]?=some e->gH G y (atP e j)) ⟨rfl,bM.refl _,fun j y e h=>by simp at h⟩ ?_ ?_ ?_
  · rintro i ys G hi ⟨h1,h2,_⟩
    exact ⟨SqL.of (h2 _ _ hsl),by omega⟩
  · rintro i x t ys G hi ⟨h1,h2,h3⟩ ht
    obtain ⟨e,he,ts,rfl,hts⟩:=lI ps hi
    have st_:=aD ht (.tup [.int i,.ref ts])
    have hq:=st_ _ _ (h2 _ _ hts)
    refine ⟨t,_,rfl,SqT.of ah,rfl,_,_,rfl,_,_,rfl,rfl,?_⟩
    refine ⟨rfl,?_⟩
    unfold uP
    refine gF ?_
    refine ⟨_,rfl,ts,_,_,_,rfl,rfl,SqT.of hq,rfl,_,rfl,ts,_,_,_,rfl,rfl,SqT.of hq,rfl,_,rfl,_,rfl,(by show 4<=aA; decide),fun kt hkt=>?_⟩
    have sk:=aD hkt (.tup [.int e.t,.int e.r,.int (-1),.int i])
    have hq2:=sk _ _ hq
    refine ⟨_,rfl,ts,_,_,_,rfl,rfl,SqT.of hq2,rfl,_,rfl,ts,_,_,_,rfl,rfl,SqT.of hq2,rfl,_,rfl,ts,_,_,_,rfl,rfl,SqT.of hq2,rfl,_,rfl,ts,_,_,_,rfl,rfl,SqT.of hq2,rfl,(by show 5<=aA; decide),fun et het=>?_⟩
    have se:=aD het (.tup [.ref kt,.int e.to,.str e.sg,.int e.a,.int e.b])
    have sA:=(st_.trans sk).trans se
    refine ⟨by rw [aE,h1]; rfl,h2.trans sA,fun j y e' hy he'=>?_⟩
    rcases kj j ys.length with lt | ge
    · rw [eQ lt] at hy
      exact (h3 j y e' hy he').same sA
    · rw [dS ge] at hy
      have ej:j=i:=by
        by_cases c:j - ys.length=0
        · omega
        · rw [List.getElem?_cons,if_neg c] at hy
          simp at hy
      subst ej
      rw [h1,Nat.sub_self] at hy
      cases hy
      rw [he] at he'
      cases he'
      exact ⟨et,kt,rfl,ah,se _ _ ah⟩
  · rintro ys G ⟨h1,h2,h3⟩ l hl
    have sl':=aD hl (.lst ys)
    exact k _ l ys (h2.trans sl') (none_of h2 hl) ah (by omega) fun i y e hy he=>(h3 i y e hy he).same sl'
theorem vH:bV ["falling","thing","low","high","middle"] ["falling","thing"] (aQ l8):=⟨rfl,rfl,rfl,by decide +kernel,rfl,by decide +kernel,by decide +kernel⟩
theorem scPic:bV ["falling","thing"] ["falling","thing"] (aQ qv):=⟨rfl,rfl,rfl,by decide +kernel,rfl,by decide +kernel,by decide +kernel⟩
def Bv (r e s:V):List (Str×V):=dh "states" s (dh "ending" e (dh "records" r []))
structure BkT (K:af) (mg:Str->Option ae) (CB:aa):Prop where
  cl:Cls K CB
  nR:eE K CB "records"
  nE:eE K CB "ending"
  nS:eE K CB "states"
  m:mg "Book"=some (.ref CB)
def spBk (CB:aa):Sp:=fun vs H Q _=>∃ (b dx:aa) (r e s:V),vs=[.ref b,r,e,s]/\H b=some (.ins CB dx [])/\∀ G,G b=some (.ins CB dx (Bv r e s))->But b H G->Q .non G
theorem scBk:bV ["self","records","ending","states"] ["self","records","ending","states"] (aQ n9):=⟨rfl,rfl,rfl,by decide +kernel,rfl,by decide +kernel,by decide +kernel⟩
theorem ok_bk (F:Fun K "__init__" "Book.__init__" n9 f fd) (T:BkT K mg CB):bT P w K mg base CX0 1 f fd ["self","records","ending","states"] (spBk CB):=by
  refine F.ok scBk (fun vs H Q E h=>?_) (fun cdv A outer s H vs Q E hr h=>?_)
  · obtain ⟨b,dx,r,e,s',rfl,_⟩:=h
    rfl
  obtain ⟨b,dx,r,e,s',rfl,hb,k⟩:=h
  refine ⟨_,ak (e9 (pv 0) (pv 1) rfl) (ak (e9 (pv 0) (pv 2) rfl) (aF (e9 (pv 0) (pv 3) rfl))),?_⟩
  have l1:=gx "records" r []
  have l2:=gx "ending" e (dh "records" r [])
  simp only [cM] at l1
  refine ⟨_,rfl,_,rfl,b,CB,dx,[],rfl,hb,T.cl,T.nR,(by show 0 < 1000; decide),_,rfl,_,rfl,b,CB,dx,_,rfl,ah,T.cl,T.nE,(by omega),_,rfl,_,rfl,b,CB,dx,_,rfl,ah,T.cl,T.nS,(by omega),?_⟩
  exact k _ ah (((But.upd b H _).trans (But.upd b _ _)).trans (But.upd b _ _))
theorem uV (r e s:V):(Bv r e s).lookup ("records":Str)=some r:=rfl
theorem yk (r e s:V):(Bv r e s).lookup ("ending":Str)=some e:=rfl
def om (wd:Str):Sp:=fun vs H Q _=>∃ a,vs=[a]/\Q (.str wd) H
theorem Bw:bV ["self"] ["self"] (aQ kK):=⟨rfl,rfl,rfl,by decide +kernel,rfl,by decide +kernel,by decide +kernel⟩
theorem zC (F:Fun K "word" "Nought.word" kK f fd):nX P w K mg base CX0 1 f fd ["self"] (om "nought"):=by
  refine F.okH Bw (fun vs H Q E h=>?_) (fun cdv A outer s H vs Q E h=>?_)
  · obtain ⟨a,rfl,_⟩:=h
    rfl
  obtain ⟨a,rfl,q⟩:=h
  exact ⟨_,aF (bX bU),q⟩
end
end My
namespace My
open PySem L2
mutual
def Dd.toOk (m:Int):Dd->Prop
  | .send to _ _ _ _ _=>0<=to/\to < m
  | .pull _ _ o=>o.toOk m
  | .ife _ t e=>t.toOk m/\e.toOk m
  | _=>True
def Ds.toOk (m:Int):Ds->Prop
  | .nil=>True
  | .cons d r=>d.toOk m/\r.toOk m
end
def ddz:Nat->Nat
  | 0=>1
  | n + 1=>1 + 6 * ddz n
structure MD where
  nm:Str
  bs:List Str
  qs:List Str
  ds:List Int
  hs:List (Str×Ds)
  ps:List (Str×Int)
def zD (H:Hp) (v:V) (M:MD):Prop:=∃ (t bl ql:aa) (n0 x3 x4:V) (vb:List V),v=.ref t/\H t=some (.tup [n0,.ref bl,.ref ql,x3,x4])/\H bl=some (.lst vb)/\fx H M.ps vb/\H ql=some (.lst (M.qs.map V.str))
structure MoI (m:Int) (H:Hp) (v:V) (M:MD):Prop where
  ma:ue M.bs M.qs M.ds M.hs H v
  fs:zD H v M
  kb:M.ps.map (·.1)=M.bs
  nb:M.bs.Nodup
  nq:M.qs.Nodup
  lb:M.bs.length<=9
  lq:M.qs.length<=9
  ld:M.ds.length<=100
  lh:M.hs.length<=9
  wb:∀ q∈M.ps,Wo q.2
  hk:∀ q∈M.hs,q.2.toOk m/\q.2.deep<=4/\q.2.size<=3 * ddz 4
theorem zD.same {H H':Hp} (s:bM H H') {v:V} {M:MD} (h:zD H v M):zD H' v M:=by
  obtain ⟨t,bl,ql,n0,x3,x4,vb,e,h1,h2,h3,h4⟩:=h
  exact ⟨t,bl,ql,n0,x3,x4,vb,e,s _ _ h1,s _ _ h2,h3.same s,s _ _ h4⟩
theorem MoI.same {m:Int} {H H':Hp} (s:bM H H') {v:V} {M:MD} (h:MoI m H v M):MoI m H' v M:=
  ⟨h.ma.same s,h.fs.same s,h.kb,h.nb,h.nq,h.lb,h.lq,h.ld,h.lh,h.wb,h.hk⟩
def Bx (m:Int) (H:Hp) (ml:aa) (Ms:List MD):Prop:=∃ xs,H ml=some (.lst xs)/\aO (MoI m H) xs Ms
theorem Bx.same {m:Int} {H H':Hp} (s:bM H H') {ml:aa} {Ms:List MD} (h:Bx m H ml Ms):Bx m H' ml Ms:=by
  obtain ⟨xs,h1,h2⟩:=h
  exact ⟨xs,s _ _ h1,Paired.mono (fun _ _ z=>z.same s) h2⟩
end My
namespace My
open PySem L2
abbrev oo (zs:List (V×List Int)):Prop:=zs.Pairwise (fun a b=>HT.lexLt b.2 a.2=true)
theorem oo.put {zs:List (V×List Int)} {x:V×List Int} {i:Nat} (h:oo zs) (h1:∀ (j:Nat) z,j < i->zs[j]?=some z->HT.lexLt x.2 z.2=true) (h2:∀ (j:Nat) z,i<=j->zs[j]?=some z->HT.lexLt z.2 x.2=true):oo (zs.take i++x :: zs.drop i):=by
  have a1:∀ a∈zs.take i,HT.lexLt x.2 a.2=true:=fun a ha=>by
    obtain ⟨j,hj⟩:=dU ha
    have lt:j < (zs.take i).length:=(aB.mp hj).1
    rw [cG] at lt
    rw [xn (by omega)] at hj
    exact h1 j a (by omega) hj
  have a2:∀ a∈zs.drop i,HT.lexLt a.2 x.2=true:=fun a ha=>by
    obtain ⟨j,hj⟩:=dU ha
    rw [BU] at hj
    exact h2 (i + j) a (by omega) hj
  have hh:oo (zs.take i++zs.drop i):=by
    rw [oO]
    exact h
  obtain ⟨p1,p2,p3⟩:=gv.mp hh
  refine gv.mpr ⟨p1,gc.mpr ⟨fun b hb=>a2 b hb,p2⟩,fun a ha b hb=>?_⟩
  rcases au.mp hb with z | z
  · rw [z]
    exact a1 a ha
  · exact p3 a ha b z
theorem oo.at_ {zs:List (V×List Int)} (h:oo zs) {i j:Nat} (lt:i < j) {y z:V×List Int} (hi:zs[i]?=some y) (hj:zs[j]?=some z):HT.lexLt z.2 y.2=true:=by
  obtain ⟨l1,e1⟩:=aB.mp hi
  obtain ⟨l2,e2⟩:=aB.mp hj
  have:=cY.mp h i j l1 l2 lt
  rw [e1,e2] at this
  exact this
section
variable {P:aM} {w:bH} {K:af} {mg:Str->Option ae} {base:cB} {f fP:aa} {fd fdP:bY}
def HL:Sp:=fun vs H Q _=>∃ (q b:aa) (zs:List (V×List Int)) (n:List Int),vs=[.ref q,.ref b]/\H q=some (.lst (zs.map (·.1)))/\(∀ z∈zs,zq H z)/\oo zs/\zq H (.ref b,n)/\n∉zs.map (·.2)/\zs.length<=10000000 /\
  ∀ i:Nat,i<=zs.length->oo (zs.take i++(V.ref b,n) :: zs.drop i)->Q (.int i) H
theorem Jw (D:Df K mg "place_in" l8 ["falling","thing"] f fd) (B:Bl mg):bT P w K mg base CX0 1 f fd ["falling","thing"] HL:=by
  refine D.F.ok vH (fun vs H Q E h=>?_) (fun cdv A outer s H vs Q E hr h=>?_)
  · obtain ⟨q,b,zs,n,rfl,_⟩:=h
    rfl
  obtain ⟨q,b,zs,n,rfl,hq,hz,hf,hb,nn,hl,k⟩:=h
  have hu:=o5 hr
  obtain ⟨b0,kb,rb,eb,hb1,hb2⟩:=hb
  cases eb
  refine ⟨_,ak (bz (i:=2) vH.nd rfl (Or.inl rfl) ay)
    (ak (bz (i:=3) vH.nd rfl (Or.inl rfl) (dA gY (by rfl) B.len cI (aq (pv 0) ao)))
    (ak (xC cQ (cu tI (pv 2) (pv 3) (cE _))
      (ak (bz (i:=4) vH.nd rfl (Or.inl rfl) (cP vW (cP fJ (pv 2) (pv 3)) ay))
      (aF (cZ (cu (IW hu) (bZ dZ (pv 0) (pv 4) (fun _ _=>rfl)) (pv 1) (cE _))
        (aF (bz (i:=2) vH.nd rfl (Or.inl rfl) (cP fJ (pv 4) ay)))
        (aF (bz (i:=3) vH.nd rfl (Or.inl rfl) (pv 4)))))))
    (aF (bX (pv 2))))),?_⟩
  refine ⟨_,rfl,q,_,rfl,.inl (SqL.of hq),?_⟩
  refine xE (fun σ H2=>∃ (lo hi:Nat) (m:Option V),σ=[some (.ref q),some (.ref b),some (.int lo),some (.int hi),m]/\H2=H/\lo<=hi/\hi<=zs.length /\
      (∀ (j:Nat) (z:V×List Int),j < lo->zs[j]?=some z->HT.lexLt n z.2=true)/\∀ (j:Nat) (z:V×List Int),hi<=j->zs[j]?=some z->HT.lexLt n z.2=false)
    (fun σ _=>match σ with | [_,_,some (.int lo),some (.int hi),_]=>(hi - lo).toNat | _=>0) ?_ ?_ ?_
  · refine ⟨0,zs.length,none,?_,rfl,bj _,aC _,fun j z h=>absurd h (jT _),fun j z h e=>?_⟩
    · rw [ar]
      rfl
    · rw [d8 (by omega)] at e
      cases e
  · rintro σ H2 ⟨lo,hi,m,rfl,rfl,h1,h2,h3,h4⟩
    refine ⟨_,rfl,_,rfl,_,_,rfl,rfl,_,rfl,?_⟩
    refine jt (fun c=>?_) (fun c=>?_)
    · have c:lo < hi:=by
        have z:=of_decide_eq_true c
        omega
      refine ⟨_,rfl,_,rfl,_,_,rfl,rfl,_,_,rfl,rfl,⟨by decide,by decide⟩,?_⟩
      have em:((lo:Int) + (hi:Int)) / 2=(((lo + hi) / 2:Nat):Int):=by omega
      have lm:(lo + hi) / 2 < zs.length:=by omega
      obtain ⟨z,hz0⟩:∃ z,zs[(lo + hi) / 2]?=some z:=⟨_,ax lm⟩
      have mz:=cw hz0
      obtain ⟨az,kz,rz,ez,hz1,hz2⟩:=hz z mz
      have ea:(zs.map (·.1))[(lo + hi) / 2]?=some (.ref az):=by rw [bQ,hz0,Du,ez]
      have nz:z.2≠n:=fun y=>nn (by rw [<- y]; exact pR mz)
      refine ⟨_,rfl,_,rfl,q,_,_,_,rfl,rfl,SqL.of hq,(by rw [em]; exact jh ea),_,rfl,az,b,kz,kb,z.2,n,rz,rb,rfl,rfl,hz1,hb1,hz2,hb2,nz,_,rfl,?_⟩
      refine jt (fun g=>?_) (fun g=>?_)
      · refine ⟨_,rfl,_,_,rfl,rfl,⟨(lo + hi) / 2 + 1,hi,some (.int (((lo:Int) + (hi:Int)) / 2)),?_,rfl,by omega,h2,fun j y hj e=>?_,h4⟩,?_⟩
        · have e2:(((lo + hi) / 2 + 1:Nat):Int)=((lo:Int) + (hi:Int)) / 2 + 1:=by omega
          rw [e2]
          rfl
        · by_cases ej:j=(lo + hi) / 2
          · rw [ej,hz0] at e
            cases e
            exact g
          · exact HT.lx_trans g (hf.at_ (show j < (lo + hi) / 2 by omega) e hz0)
        · show ((hi:Int) - (((lo:Int) + (hi:Int)) / 2 + 1)).toNat < ((hi:Int) - (lo:Int)).toNat
          omega
      · refine ⟨_,rfl,⟨lo,(lo + hi) / 2,some (.int (((lo:Int) + (hi:Int)) / 2)),?_,rfl,by omega,by omega,h3,fun j y hj e=>?_⟩,?_⟩
        · rw [<- em]
          rfl
        · have g':HT.lexLt n z.2=false:=by
            cases e':HT.lexLt n z.2 with
            | false=>rfl
            | true=>exact absurd e' g
          by_cases ej:j=(lo + hi) / 2
          · rw [ej,hz0] at e
            cases e
            exact g'
          · have z1:=hf.at_ (show (lo + hi) / 2 < j by omega) hz0 e
            cases e':HT.lexLt n y.2 with
            | false=>rfl
            | true =>
              have z2:=HT.lx_trans e' z1
              rw [g'] at z2
              cases z2
        · show ((((lo:Int) + (hi:Int)) / 2) - (lo:Int)).toNat < ((hi:Int) - (lo:Int)).toNat
          omega
    · have e:lo=hi:=by
        have z:¬ ((lo:Int) < (hi:Int)):=fun z=>c (decide_eq_true z)
        omega
      subst e
      refine ⟨_,rfl,k lo h2 (hf.put h3 fun j z hj e=>?_)⟩
      exact HT.lx_of_not (h4 j z hj e) fun y=>nn (by
        have y:n=z.2:=y
        rw [y]
        exact pR (cw e))
  · rintro σ H2 Q1 Q2 hq2 h
    obtain ⟨a1,e1,a2,e2,i,j,e3,e4,b',e5,h⟩:=h
    exact ⟨a1,e1,a2,e2,i,j,e3,e4,b',e5,hq2 _ _ h⟩
def Au:Sp:=fun vs H Q _=>∃ (q b:aa) (zs:List (V×List Int)) (n:List Int),vs=[.ref q,.ref b]/\H q=some (.lst (zs.map (·.1)))/\(∀ z∈zs,zq H z)/\oo zs/\zq H (.ref b,n)/\n∉zs.map (·.2)/\zs.length<=10000000 /\
  ∀ zs':List (V×List Int),zs'.Perm ((V.ref b,n) :: zs)->oo zs'->Q .non (upd H q (.lst (zs'.map (·.1))))
theorem Jx (D:Df K mg "put_in" qv ["falling","thing"] f fd) (DP:Df K mg "place_in" l8 ["falling","thing"] fP fdP) (B:Bl mg):bT P w K mg base CX0 2 f fd ["falling","thing"] Au:=by
  have GP:bT P w K mg base CX0 1 fP fdP ["falling","thing"] HL:=Jw DP B
  refine D.F.ok scPic (fun vs H Q E h=>?_) (fun cdv A outer s H vs Q E hr h=>?_)
  · obtain ⟨q,b,zs,n,rfl,_⟩:=h
    rfl
  obtain ⟨q,b,zs,n,rfl,hq,hz,hf,hb,nn,hl,k⟩:=h
  refine ⟨_,aF (dW (jr bK PySem.F.slot_list_insert PySem.F.type_list_insert Bc (pv 0) (aq (aS GP hr rfl DP.m DP.F.kp DP.b .nil cm (aq (pv 0) (aq (pv 1) ao))) (aq (pv 1) ao)))),?_⟩
  have sl:10000000 < aA:=by decide
  refine ⟨_,rfl,.inl ⟨rfl,_,SqL.of hq⟩,_,rfl,_,rfl,q,b,zs,n,rfl,hq,hz,hf,hb,nn,hl,fun i hi fz=>⟨_,rfl,q,_,i,.ref b,rfl,rfl,hq,by rw [ar]; exact hi,by rw [ar]; omega,?_⟩⟩
  have z:=k (zs.take i++(V.ref b,n) :: zs.drop i) ?_ fz
  · rw [cA,bR,Jp,List.map_drop] at z
    exact z
  · refine EX.trans ?_
    rw [oO]
end
end My
namespace My
open PySem L2
structure Sta where
  bx:List (Str×Int)
  qu:List (Str×List Int)
  dr:Nat
  se:Int
def Sta.w (s:Sta):Wk:=w0 s.bx s.qu s.dr s.se
structure Rec where
  h:Ev
  wb:List (Str×Int)
  wq:List (Str×List Int)
  out:List Ev
inductive Stp where
  | fin (h:Ev)
  | flt (e:Flt) (h:Ev)
inductive End where
  | empty
  | cut
  | stp (s:Stp)
structure RS where
  sts:List Sta
  pd:List Ev
  re:Option Ev
  sp:Option Stp
def Ev.key (e:Ev):List Int:=[e.t,e.r,e.fr,e.c]
def uh (x:Ev):List Ev->List Ev
  | []=>[x]
  | y :: ys=>if HT.lexLt x.key y.key=true then y :: uh x ys else x :: y :: ys
def pF (xs pd:List Ev):List Ev:=xs.foldl (fun p e=>uh e p) pd
abbrev kH (es:List Ev):Prop:=es.Pairwise (fun a b=>HT.lexLt b.key a.key=true)
def jA (r:RS) (left:Int):Option End:=match r.sp with
  | some s=>some (.stp s)
  | none=>if r.pd.isEmpty=true then some .empty else if left<=0 then some .cut else none
def gD (Ms:List MD) (r:RS):RS×List Rec:=match r.pd.getLast? with
  | none=>(r,[])
  | some h=>match Ms[h.to.toNat]?,r.sts[h.to.toNat]? with
    | some M,some s=>(match doS h M.ds (iR M.hs h.sg) s.w with
      | .error e=>({r with pd:=r.pd.dropLast,sp:=some (.flt e h)},[])
      | .ok w=>(⟨r.sts.set h.to.toNat ⟨w.bx,w.qu,w.dr,w.se⟩,pF w.out r.pd.dropLast,some h,if w.en=true then some (.fin h) else none⟩,[⟨h,wrB M.bs w,wrQ M.qs w,w.out⟩]))
    | _,_=>(r,[])
def itR (Ms:List MD) (r:RS):Nat->RS×List Rec
  | 0=>(r,[])
  | n + 1=>((gD Ms (itR Ms r n).1).1,(itR Ms r n).2++(gD Ms (itR Ms r n).1).2)
theorem lK (x:Ev):∀ ys:List Ev,(uh x ys).Perm (x :: ys)
  | []=>iJ _
  | y :: ys=>by
    unfold uh
    split
    · exact ((lK x ys).cons y).trans (List.Perm.swap x y ys)
    · exact iJ _
theorem gE:∀ (xs pd:List Ev),(pF xs pd).Perm (xs++pd)
  | [],pd=>iJ _
  | x :: xs,pd=>by
    show (pF xs (uh x pd)).Perm _
    refine (gE xs (uh x pd)).trans ?_
    refine ((iJ xs).append (lK x pd)).trans ?_
    exact EX
theorem rB {x:Ev}:∀ {ys:List Ev},kH ys->(∀ y∈ys,x.key≠y.key)->kH (uh x ys)
  | [],_,_=>mK _ _
  | y :: ys,h,n=>by
    obtain ⟨h1,h2⟩:=gc.mp h
    unfold uh
    by_cases c:HT.lexLt x.key y.key=true
    · rw [if_pos c]
      refine gc.mpr ⟨fun z hz=>?_,rB h2 fun z hz=>n z (ag _ hz)⟩
      rcases au.mp ((lK x ys).mem_iff.mp hz) with e | e
      · rw [e]
        exact c
      · exact h1 z e
    · rw [if_neg c]
      have lt:HT.lexLt y.key x.key=true:=HT.lx_of_not (by
        cases e:HT.lexLt x.key y.key with
        | false=>rfl
        | true=>exact absurd e c) (n y aw)
      refine gc.mpr ⟨fun z hz=>?_,h⟩
      rcases au.mp hz with e | e
      · rw [e]
        exact lt
      · exact HT.lx_trans (h1 z e) lt
theorem vI:∀ {xs ys:List Ev},kH xs->kH ys->xs.Perm ys->xs=ys
  | [],ys,_,_,p=>(List.nil_perm.mp p).symm ▸ rfl
  | x :: xs,[],_,_,p=>absurd p (by intro z; have:=z.length_eq; simp at this)
  | x :: xs,y :: ys,h,k,p=>by
    obtain ⟨h1,h2⟩:=gc.mp h
    obtain ⟨k1,k2⟩:=gc.mp k
    have e:x=y:=by
      rcases au.mp (p.mem_iff.mp (aw (a:=x) (l:=xs))) with z | z
      · exact z
      · rcases au.mp (p.mem_iff.mpr (aw (a:=y) (l:=ys))) with q | q
        · exact q.symm
        · have a:=k1 x z
          have b:=HT.lx_asym (h1 y q)
          rw [a] at b
          cases b
    subst e
    rw [vI h2 k2 ((List.perm_cons x).mp p)]
structure HM (m:Int) (h:Ev) (se se':Int) (e:Ev):Prop where
  fr:e.fr=h.to
  c0:se<=e.c
  c1:e.c < se'
  t0:h.t < e.t
  t1:e.t<=10 ^ 12
  to0:0<=e.to
  to1:e.to < m
structure News (m:Int) (h:Ev) (n:Nat) (w w':Wk):Prop where
  se:w.se<=w'.se
  ex:∃ new,w'.out=w.out++new/\new.length<=n/\(∀ e∈new,HM m h w.se w'.se e)/\new.Pairwise (fun a b=>a.c < b.c)
theorem News.none {m:Int} {h:Ev} {n:Nat} {w w':Wk} (e1:w'.se=w.se) (e2:w'.out=w.out):News m h n w w':=
  ⟨by rw [e1]; exact Int.le_refl _,[],by rw [e2,dC],bj _,(fun e he=>by cases he),List.Pairwise.nil⟩
theorem News.trans {m:Int} {h:Ev} {n1 n2:Nat} {w w1 w2:Wk} (a:News m h n1 w w1) (b:News m h n2 w1 w2):News m h (n1 + n2) w w2:=by
  obtain ⟨s1,x1,e1,l1,o1,p1⟩:=a
  obtain ⟨s2,x2,e2,l2,o2,p2⟩:=b
  refine ⟨Int.le_trans s1 s2,x1++x2,by rw [e2,e1,i5],by rw [aE]; omega,fun e he=>?_,gv.mpr ⟨p1,p2,fun a ha b hb=>?_⟩⟩
  · rcases cq.mp he with z | z
    · obtain ⟨f,c0,c1,t0,t1,q0,q1⟩:=o1 e z
      exact ⟨f,c0,by omega,t0,t1,q0,q1⟩
    · obtain ⟨f,c0,c1,t0,t1,q0,q1⟩:=o2 e z
      exact ⟨f,by omega,c1,t0,t1,q0,q1⟩
  · have:=(o1 a ha).c1
    have:=(o2 b hb).c0
    omega
theorem News.le {m:Int} {h:Ev} {n1 n2:Nat} {w w1:Wk} (a:News m h n1 w w1) (l:n1<=n2):News m h n2 w w1:=by
  obtain ⟨s1,x1,e1,l1,o1,p1⟩:=a
  exact ⟨s1,x1,e1,by omega,o1,p1⟩
theorem News.from {m:Int} {h:Ev} {n:Nat} {w0 w w':Wk} (a:News m h n w w') (e1:w.se=w0.se) (e2:w.out=w0.out):News m h n w0 w':=by
  obtain ⟨s1,x1,f1,l1,o1,p1⟩:=a
  rw [e1] at s1 o1
  exact ⟨s1,x1,by rw [f1,e2],l1,o1,p1⟩
theorem pG {h:Ev} {w w':Wk} {f:Fm} {k:Wk->Int->Except Flt Wk} (e:rck h w f k=.ok w'):∃ n,k {w with rk:=w.rk++[f]} n=.ok w':=by
  unfold rck at e
  split at e
  · exact ⟨_,e⟩
  · cases e
  · cases e
mutual
theorem Ew {m:Int} {h:Ev} {ds:List Int}:∀ (D:Dd) (w w':Wk),D.toOk m->doD h ds D w=.ok w'->News m h D.size w w'
  | .put x f,w,w',_,e=>by
    simp only [doD] at e
    obtain ⟨n,e⟩:=pG e
    cases e
    exact News.none rfl rfl
  | .push q f,w,w',_,e=>by
    simp only [doD] at e
    obtain ⟨n,e⟩:=pG e
    try dsimp only at e
    split at e
    · cases e
    · cases e
      exact News.none rfl rfl
  | .pull q x o,w,w',to,e=>by
    simp only [doD] at e
    simp only [Dd.toOk] at to
    split at e
    · exact ((lL o _ _ to e).le (fb _)).from rfl rfl
    · cases e
      exact News.none rfl rfl
  | .draw x f,w,w',_,e=>by
    simp only [doD] at e
    obtain ⟨n,e⟩:=pG e
    try dsimp only at e
    split at e
    · cases e
    · split at e
      · cases e
      · cases e
        exact News.none rfl rfl
  | .send to sg sp rk a b,w,w',to',e=>by
    simp only [doD] at e
    simp only [Dd.toOk] at to'
    obtain ⟨n,e⟩:=pG e
    try dsimp only at e
    split at e
    · cases e
    · rename_i c
      obtain ⟨x,e⟩:=pG e
      obtain ⟨y,e⟩:=pG e
      try dsimp only at e
      split at e
      · cases e
      · rename_i c2
        cases e
        refine ⟨?_,[_],rfl,aC _,fun q hq=>?_,mK _ _⟩
        · show w.se<=w.se + 1
          omega
        · rw [aH.mp hq]
          exact ⟨rfl,Int.le_refl _,(by show w.se < w.se + 1; omega),(by show h.t < h.t + n; omega),(by show h.t + n<=10 ^ 12; omega),to'.1,to'.2⟩
  | .ife f t e',w,w',to,e=>by
    simp only [doD] at e
    simp only [Dd.toOk] at to
    obtain ⟨n,e⟩:=pG e
    try dsimp only at e
    simp only [Dd.size]
    split at e
    · exact ((lL e' _ _ to.2 e).le (by omega)).from rfl rfl
    · exact ((lL t _ _ to.1 e).le (by omega)).from rfl rfl
  | .fin,w,w',_,e=>by
    simp only [doD] at e
    cases e
    exact News.none rfl rfl
theorem lL {m:Int} {h:Ev} {ds:List Int}:∀ (D:Ds) (w w':Wk),D.toOk m->doS h ds D w=.ok w'->News m h D.size w w'
  | .nil,w,w',_,e=>by
    simp only [doS] at e
    cases e
    exact News.none rfl rfl
  | .cons d r,w,w',to,e=>by
    simp only [doS] at e
    simp only [Ds.toOk] at to
    simp only [Ds.size]
    split at e
    · rename_i w1 e1
      exact (Ew d _ _ to.1 e1).trans (lL r _ _ to.2 e)
    · cases e
end
structure zE (m:Nat) (e:Ev):Prop where
  to0:0<=e.to
  to1:e.to < m
  wt:Wo e.t
  wa:Wo e.a
  wb:Wo e.b
structure ROk (m:Nat) (r:RS):Prop where
  len:r.sts.length=m
  fall:kH r.pd
  ev:∀ e∈r.pd,zE m e
  cn:∀ e∈r.pd,e.fr=-1\/∃ (i:Nat) (s:Sta),e.fr=(i:Int)/\r.sts[i]?=some s/\e.c < s.se
theorem rC {pd:List Ev} {h:Ev} (f:kH (pd++[h])):kH pd/\∀ e∈pd,HT.lexLt h.key e.key=true:=by
  obtain ⟨f1,_,f3⟩:=gv.mp f
  exact ⟨f1,fun e he=>f3 e he h (aH.mpr rfl)⟩
theorem uj {pd:List Ev} {h:Ev} (e:pd.getLast?=some h):pd=pd.dropLast++[h]:=by
  obtain ⟨ys,rfl⟩:=List.getLast?_eq_some_iff.mp e
  rw [Av]
theorem uk {a b:Ev} (h:a.fr≠b.fr\/a.c≠b.c):a.key≠b.key:=fun z=>by
  unfold Ev.key at z
  simp only [List.cons.injEq] at z
  rcases h with h | h
  · exact h z.2.2.1
  · exact h z.2.2.2.1
theorem oP:∀ {xs pd:List Ev},kH pd->(∀ x∈xs,∀ y∈pd,x.key≠y.key)->xs.Pairwise (fun a b=>a.key≠b.key)->kH (pF xs pd)
  | [],_,h,_,_=>h
  | x :: xs,pd,h,n,p=>by
    obtain ⟨p1,p2⟩:=gc.mp p
    refine oP (xs:=xs) (rB h fun y hy=>n x aw y hy) (fun z hz y hy=>?_) p2
    rcases au.mp ((lK x pd).mem_iff.mp hy) with e | e
    · rw [e]
      exact fun q=>p1 z hz q.symm
    · exact n z (ag _ hz) y e
structure Did (Ms:List MD) (r:RS) (h:Ev) (M:MD) (s:Sta):Prop where
  pd:r.pd=r.pd.dropLast++[h]
  hM:Ms[h.to.toNat]?=some M
  hs:r.sts[h.to.toNat]?=some s
theorem qB {Ms:List MD} {r:RS} {h:Ev} {M:MD} {s:Sta} (d:Did Ms r h M s) {e:Flt} (q:doS h M.ds (iR M.hs h.sg) s.w=.error e):gD Ms r=({r with pd:=r.pd.dropLast,sp:=some (.flt e h)},[]):=by
  have l:r.pd.getLast?=some h:=by
    rw [d.pd,Aw]
  unfold gD
  rw [l]
  dsimp only
  rw [d.hM,d.hs]
  dsimp only
  rw [q]
theorem tu {Ms:List MD} {r:RS} {h:Ev} {M:MD} {s:Sta} (d:Did Ms r h M s) {w:Wk} (q:doS h M.ds (iR M.hs h.sg) s.w=.ok w):gD Ms r=(⟨r.sts.set h.to.toNat ⟨w.bx,w.qu,w.dr,w.se⟩,pF w.out r.pd.dropLast,some h,if w.en=true then some (.fin h) else none⟩,[⟨h,wrB M.bs w,wrQ M.qs w,w.out⟩]):=by
  have l:r.pd.getLast?=some h:=by
    rw [d.pd,Aw]
  unfold gD
  rw [l]
  dsimp only
  rw [d.hM,d.hs]
  dsimp only
  rw [q]
theorem ym {m:Nat} {Ms:List MD} {r:RS} {h:Ev} {M:MD} {s:Sta} (k:ROk m r) (d:Did Ms r h M s) {n:Nat} {w:Wk} (N:News m h n s.w w):(∀ x∈w.out,∀ y∈r.pd.dropLast,x.key≠y.key)/\w.out.Pairwise (fun a b=>a.key≠b.key)/\(∀ x∈w.out,HM m h s.se w.se x):=by
  obtain ⟨s1,new,e,ln,ho,hp⟩:=N
  have e:w.out=new:=e
  rw [e]
  have hin:h∈r.pd:=by
    rw [d.pd]
    exact bF _ (aH.mpr rfl)
  have h0:=(k.ev h hin).to0
  refine ⟨fun x hx y hy=>?_,hp.imp fun z=>uk (.inr (by omega)),ho⟩
  have o:=ho x hx
  have yin:y∈r.pd:=hZ _ hy
  rcases k.cn y yin with z | ⟨i,s',z1,z2,z3⟩
  · refine uk (.inl ?_)
    rw [o.fr,z]
    omega
  · by_cases c:y.fr=h.to
    · refine uk (.inr ?_)
      have ei:h.to.toNat=i:=by omega
      have:=d.hs
      rw [ei,z2] at this
      cases this
      have c0:s.se<=x.c:=o.c0
      omega
    · refine uk (.inl ?_)
      rw [o.fr]
      exact fun q=>c q.symm
theorem Ex {m:Nat} {Ms:List MD} {r:RS} {h:Ev} {M:MD} {s:Sta} (k:ROk m r) (d:Did Ms r h M s) {n:Nat} {w:Wk} (q:doS h M.ds (iR M.hs h.sg) s.w=.ok w) (N:News m h n s.w w) (wo:∀ e∈w.out,Wo e.a/\Wo e.b):ROk m (gD Ms r).1:=by
  rw [tu d q]
  obtain ⟨n1,n2,n3⟩:=ym k d N
  have f:=k.fall
  rw [d.pd] at f
  obtain ⟨f1,f2⟩:=rC f
  refine ⟨by rw [Fe]; exact k.len,oP f1 n1 n2,fun e he=>?_,fun e he=>?_⟩
  · rcases cq.mp ((gE _ _).mem_iff.mp he) with z | z
    · obtain ⟨a,b,c,d',e',f',g'⟩:=n3 e z
      have hin:h∈r.pd:=by
        rw [d.pd]
        exact bF _ (aH.mpr rfl)
      have ht:=(k.ev h hin).wt
      have w1:(10:Int) ^ 15=1000000000000000:=by decide
      have w2:(10:Int) ^ 12=1000000000000:=by decide
      refine ⟨f',g',?_,(wo e z).1,(wo e z).2⟩
      unfold Wo at ht |-
      omega
    · exact k.ev e (hZ _ z)
  · have lt:h.to.toNat < r.sts.length:=(aB.mp d.hs).1
    have hin:h∈r.pd:=by
      rw [d.pd]
      exact bF _ (aH.mpr rfl)
    have h0:=(k.ev h hin).to0
    rcases cq.mp ((gE _ _).mem_iff.mp he) with z | z
    · obtain ⟨a,b,c,_⟩:=n3 e z
      refine .inr ⟨h.to.toNat,_,by omega,eM lt,c⟩
    · rcases k.cn e (hZ _ z) with y | ⟨i,s',z1,z2,z3⟩
      · exact .inl y
      · by_cases c:h.to.toNat=i
        · subst c
          have es:s=s':=cW (d.hs.symm.trans z2)
          rw [<- es] at z3
          refine .inr ⟨_,_,z1,eM lt,?_⟩
          have s1:s.se<=w.se:=N.se
          show e.c < w.se
          omega
        · exact .inr ⟨i,s',z1,by rw [hW c]; exact z2,z3⟩
theorem By {m:Nat} {Ms:List MD} {r:RS} {h:Ev} {M:MD} {s:Sta} (k:ROk m r) (d:Did Ms r h M s) {e:Flt} (q:doS h M.ds (iR M.hs h.sg) s.w=.error e):ROk m (gD Ms r).1:=by
  rw [qB d q]
  have f:=k.fall
  rw [d.pd] at f
  exact ⟨k.len,(rC f).1,fun e he=>k.ev e (hZ _ he),fun e he=>k.cn e (hZ _ he)⟩
end My
namespace My
open PySem L2
def Hid (ex:List aa) (G:Hp):Hp:=fun a=>if a∈ex then none else G a
section
variable {ex:List aa} {G G':Hp} {a:aa} {o:HO}
theorem rD (e:Hid ex G a=some o):a∉ex:=fun m=>by
  unfold Hid at e
  rw [if_pos m] at e
  cases e
theorem iS (n:a∉ex):Hid ex G a=G a:=if_neg n
theorem mj:bM (Hid ex G) G:=fun b o e=>by
  rw [iS (rD e)] at e
  exact e
theorem iT (m:a∈ex):Hid ex (upd G a o)=Hid ex G:=by
  funext b
  unfold Hid
  by_cases c:b∈ex
  · rw [if_pos c,if_pos c]
  · rw [if_neg c,if_neg c,aJ fun z=>c (by rw [z]; exact m)]
theorem gT (s:bM G G'):bM (Hid ex G) (Hid ex G'):=fun b o e=>by
  rw [iS (rD e)]
  exact s _ _ (mj _ _ e)
theorem Jy (s:∀ b o,G b=some o->b∉ex->G' b=some o):bM (Hid ex G) (Hid ex G'):=fun b o e=>by
  rw [iS (rD e)]
  exact s _ _ (mj _ _ e) (rD e)
theorem gL {xs:List V} (nt:∀ a∈ex,∃ o,G a=some o/\∀ xs,o≠.tup xs) (h:G a=some (.tup xs)):Hid ex G a=some (.tup xs):=by
  rw [iS fun m=>by
    obtain ⟨o,e,n⟩:=nt a m
    rw [e] at h
    cases h
    exact n _ rfl]
  exact h
theorem lM (n:G a=none):Hid (a :: ex) (upd G a o)=Hid ex G:=by
  funext b
  unfold Hid
  by_cases c:b=a
  · rw [c,if_pos aw]
    by_cases d:a∈ex
    · rw [if_pos d]
    · rw [if_neg d,n]
  · by_cases d:b∈ex
    · rw [if_pos d,if_pos (ag _ d)]
    · rw [if_neg d,if_neg (fun z=>(au.mp z).elim c d),aJ c]
theorem yn:bM (Hid (a :: ex) G) (Hid ex G):=fun b o e=>by
  rw [iS fun m=>rD e (ag _ m)]
  exact mj _ _ e
end
abbrev zF (h:Ev):HO:=.tup [.int h.t,.int h.r,.int h.fr,.int h.c]
def RcIn (F:Hp) (v:V) (q:Rec):Prop:=∃ (rc k wl od:aa) (ws1 ws2 vs:List V) (qa:List (Str×aa)),v=.ref rc/\F rc=some (.tup [.ref k,.int q.h.to,.str q.h.sg,.int q.h.a,.int q.h.b,.ref wl,.ref od])/\F k=some (zF q.h) /\
  F wl=some (.lst (ws1++ws2))/\aO (wU F) ws1 q.wb/\aO (yj F) ws2 qa/\fH F qa q.wq/\F od=some (.lst vs)/\aO (gH F) vs q.out
theorem RcIn.same {F F':Hp} (s:bM F F') {v:V} {q:Rec} (h:RcIn F v q):RcIn F' v q:=by
  obtain ⟨rc,k,wl,od,ws1,ws2,vs,qa,e,h1,h2,h3,h4,h5,h6,h7,h8⟩:=h
  exact ⟨rc,k,wl,od,ws1,ws2,vs,qa,e,s _ _ h1,s _ _ h2,s _ _ h3,Paired.mono (fun _ _ z=>z.keep fun a xs e=>s _ _ e) h4,Paired.mono (fun _ _ z=>z.keep fun a xs e=>s _ _ e) h5,h6.same s,s _ _ h7,Paired.mono (fun _ _ z=>z.same s) h8⟩
def mQ:Flt->Str
  | .nought=>"nought"
  | .great=>"great"
  | .full=>"full"
  | .dry=>"dry"
  | .span=>"span"
  | .late=>"late"
def Gk (F:Hp) (v:V):Option Ev->Prop
  | none=>v=.non
  | some h=>∃ k,v=.ref k/\F k=some (zF h)
def um (F:Hp) (v:V):Stp->Prop
  | .fin h=>∃ t k,v=.ref t/\F t=some (.tup [.str "end",.ref k])/\F k=some (zF h)
  | .flt e h=>∃ t k,v=.ref t/\F t=some (.tup [.str "fault",.str (mQ e),.ref k])/\F k=some (zF h)
def Gm (F:Hp) (v:V):Option Stp->Prop
  | none=>v=.non
  | some s=>um F v s
def uo (F:Hp) (v:V):End->Prop
  | .empty=>∃ t,v=.ref t/\F t=some (.tup [.str "empty"])
  | .cut=>∃ t,v=.ref t/\F t=some (.tup [.str "cut"])
  | .stp s=>um F v s
theorem Gk.same {F F':Hp} (s:bM F F') {v:V}:∀ {q:Option Ev},Gk F v q->Gk F' v q
  | none,h=>h
  | some _,⟨k,e,h⟩=>⟨k,e,s _ _ h⟩
theorem um.same {F F':Hp} (s:bM F F') {v:V}:∀ {q:Stp},um F v q->um F' v q
  | .fin _,⟨t,k,e,h1,h2⟩=>⟨t,k,e,s _ _ h1,s _ _ h2⟩
  | .flt _ _,⟨t,k,e,h1,h2⟩=>⟨t,k,e,s _ _ h1,s _ _ h2⟩
theorem Gm.same {F F':Hp} (s:bM F F') {v:V}:∀ {q:Option Stp},Gm F v q->Gm F' v q
  | none,h=>h
  | some _,h=>um.same s h
theorem uo.same {F F':Hp} (s:bM F F') {v:V}:∀ {q:End},uo F v q->uo F' v q
  | .empty,⟨t,e,h⟩=>⟨t,e,s _ _ h⟩
  | .cut,⟨t,e,h⟩=>⟨t,e,s _ _ h⟩
  | .stp _,h=>um.same s h
def iX (m s p r e:V):List (Str×V):=[("model",m),("states",s),("pending",p),("reached",r),("stopped",e)]
structure CoT (K:af) (mg:Str->Option ae) (CC:aa):Prop where
  cl:Cls K CC
  nM:eE K CC "model"
  nS:eE K CC "states"
  nP:eE K CC "pending"
  nR:eE K CC "reached"
  nE:eE K CC "stopped"
  m:mg "Course"=some (.ref CC)
theorem co_m (m s p r e:V):(iX m s p r e).lookup ("model":Str)=some m:=rfl
theorem Jz (m s p r e:V):(iX m s p r e).lookup ("states":Str)=some s:=rfl
theorem JA (m s p r e:V):(iX m s p r e).lookup ("pending":Str)=some p:=rfl
theorem JB (m s p r e:V):(iX m s p r e).lookup ("stopped":Str)=some e:=rfl
theorem zG (m s p r e:V):(iX m s p r e).length < 1000:=by show 5 < 1000; decide
theorem JC (m s p r e:V):dh "stopped" e (dh "reached" r (dh "pending" p (dh "states" s (dh "model" m []))))=iX m s p r e:=rfl
theorem Gn (m s p r e r':V):dh "reached" r' (iX m s p r e)=iX m s p r' e:=rfl
theorem Ax (m s p r e e':V):dh "stopped" e' (iX m s p r e)=iX m s p r e':=rfl
theorem HN (m s p r e:V) {x:Str} (hx:(["model","states","pending","reached","stopped"]:List Str).contains x=false):(iX m s p r e).lookup x=none:=by
  have z:∀ k∈(["model","states","pending","reached","stopped"]:List Str),(x == k)=false:=fun k hk=>beq_eq_false_iff_ne.mpr fun e=>by
    rw [e,oM.mpr hk] at hx
    cases hx
  unfold iX
  rw [dJ (z _ (by simp)),dJ (z _ (by simp)),dJ (z _ (by simp)),dJ (z _ (by simp)),dJ (z _ (by simp))]
  rfl
def uq (CM:aa) (Ms:List MD) (H:Hp) (m:aa):Prop:=∃ (dx ml:aa) (fs:List (Str×V)),H m=some (.ins CM dx fs)/\fs.lookup ("machines":Str)=some (.ref ml)/\Bx (Ms.length:Int) H ml Ms
theorem uq.same {CM:aa} {Ms:List MD} {H H':Hp} (s:bM H H') {m:aa} (h:uq CM Ms H m):uq CM Ms H' m:=by
  obtain ⟨dx,ml,fs,h1,h2,h3⟩:=h
  exact ⟨dx,ml,fs,s _ _ h1,h2,h3.same s⟩
abbrev StA (CS:aa) (F:Hp):aa->Sta->Prop:=fun a s=>kN CS F a s.bx s.qu s.dr s.se
structure km (CC CS:aa) (Ms:List MD) (Hb:Hp) (ex:List aa) (G:Hp) (co m sl pl:aa) (r:RS):Prop where
  ok:ROk Ms.length r
  sm:bM Hb (Hid ex G)
  i1:co∈ex
  i2:sl∈ex
  i3:pl∈ex
  n1:co≠sl
  n2:co≠pl
  n3:sl≠pl
  hc:∃ dx rv sv,G co=some (.ins CC dx (iX (.ref m) (.ref sl) (.ref pl) rv sv))/\Gk (Hid ex G) rv r.re/\Gm (Hid ex G) sv r.sp
  hs:∃ ss:List aa,G sl=some (.lst (ss.map V.ref))/\aO (StA CS (Hid ex G)) ss r.sts
  hp:∃ ps,G pl=some (.lst ps)/\aO (gH (Hid ex G)) ps r.pd
  wk:∀ (i:Nat) (M:MD) (s:Sta),Ms[i]?=some M->r.sts[i]?=some s->oX M.bs M.qs s.w
  nt:∀ a∈ex,∃ o,G a=some o/\∀ xs,o≠.tup xs
theorem kN.same' {CS:aa} {H H':Hp} (s:bM H H') {st:aa} {bx:List (Str×Int)} {qu:List (Str×List Int)} {dr:Nat} {se:Int} (h:kN CS H st bx qu dr se):kN CS H' st bx qu dr se:=by
  obtain ⟨dx,bd,qd,qa,h1,h2,h3,h4⟩:=h
  exact ⟨dx,bd,qd,qa,s _ _ h1,s _ _ h2,s _ _ h3,h4.same s⟩
section
variable {CC CS:aa} {Ms:List MD} {Hb G G':Hp} {ex:List aa} {co m sl pl:aa} {r:RS}
theorem km.same (c:km CC CS Ms Hb ex G co m sl pl r) (s:bM G G'):km CC CS Ms Hb ex G' co m sl pl r:=by
  obtain ⟨dx,rv,sv,h1,h2,h3⟩:=c.hc
  obtain ⟨ss,h4,h5⟩:=c.hs
  obtain ⟨ps,h6,h7⟩:=c.hp
  have f:=gT (ex:=ex) s
  exact ⟨c.ok,c.sm.trans f,c.i1,c.i2,c.i3,c.n1,c.n2,c.n3,⟨dx,rv,sv,s _ _ h1,h2.same f,h3.same f⟩,⟨ss,s _ _ h4,Paired.mono (fun _ _ z=>kN.same' f z) h5⟩,⟨ps,s _ _ h6,Paired.mono (fun _ _ z=>z.same f) h7⟩,c.wk,fun a ha=>by
    obtain ⟨o,e,n⟩:=c.nt a ha
    exact ⟨o,s _ _ e,n⟩⟩
theorem km.more (c:km CC CS Ms Hb ex G co m sl pl r) {a:aa} {o:HO} (n:G a=none) (no:∀ xs,o≠.tup xs):km CC CS Ms Hb (a :: ex) (upd G a o) co m sl pl r:=by
  obtain ⟨dx,rv,sv,h1,h2,h3⟩:=c.hc
  obtain ⟨ss,h4,h5⟩:=c.hs
  obtain ⟨ps,h6,h7⟩:=c.hp
  refine ⟨c.ok,?_,ag _ c.i1,ag _ c.i2,ag _ c.i3,c.n1,c.n2,c.n3,⟨dx,rv,sv,aX h1 (aG h1 n),?_,?_⟩,⟨ss,aX h4 (aG h4 n),?_⟩,⟨ps,aX h6 (aG h6 n),?_⟩,c.wk,fun b hb=>?_⟩
  · rw [lM n]
    exact c.sm
  · rw [lM n]
    exact h2
  · rw [lM n]
    exact h3
  · rw [lM n]
    exact h5
  · rw [lM n]
    exact h7
  · rcases au.mp hb with z | z
    · rw [z]
      exact ⟨o,ah,no⟩
    · obtain ⟨o',e,n'⟩:=c.nt b z
      exact ⟨o',aX e (aG e n),n'⟩
theorem km.less {a:aa} (c:km CC CS Ms Hb (a :: ex) G co m sl pl r) (a1:co≠a) (a2:sl≠a) (a3:pl≠a):km CC CS Ms Hb ex G co m sl pl r:=by
  obtain ⟨dx,rv,sv,h1,h2,h3⟩:=c.hc
  obtain ⟨ss,h4,h5⟩:=c.hs
  obtain ⟨ps,h6,h7⟩:=c.hp
  have f:bM (Hid (a :: ex) G) (Hid ex G):=yn
  have out:∀ {b:aa},b∈a :: ex->b≠a->b∈ex:=fun m n=>(au.mp m).elim (fun z=>absurd z n) id
  exact ⟨c.ok,c.sm.trans f,out c.i1 a1,out c.i2 a2,out c.i3 a3,c.n1,c.n2,c.n3,⟨dx,rv,sv,h1,h2.same f,h3.same f⟩,⟨ss,h4,Paired.mono (fun _ _ z=>kN.same' f z) h5⟩,⟨ps,h6,Paired.mono (fun _ _ z=>z.same f) h7⟩,c.wk,fun b hb=>c.nt b (ag _ hb)⟩
theorem km.upd (c:km CC CS Ms Hb ex G co m sl pl r) {a:aa} {o:HO} (ha:a∈ex) (a1:co≠a) (a2:sl≠a) (a3:pl≠a) (no:∀ xs,o≠.tup xs):km CC CS Ms Hb ex (L2.upd G a o) co m sl pl r:=by
  obtain ⟨dx,rv,sv,h1,h2,h3⟩:=c.hc
  obtain ⟨ss,h4,h5⟩:=c.hs
  obtain ⟨ps,h6,h7⟩:=c.hp
  refine ⟨c.ok,?_,c.i1,c.i2,c.i3,c.n1,c.n2,c.n3,⟨dx,rv,sv,aX h1 a1,?_,?_⟩,⟨ss,aX h4 a2,?_⟩,⟨ps,aX h6 a3,?_⟩,c.wk,fun b hb=>?_⟩
  · rw [iT ha]
    exact c.sm
  · rw [iT ha]
    exact h2
  · rw [iT ha]
    exact h3
  · rw [iT ha]
    exact h5
  · rw [iT ha]
    exact h7
  · by_cases z:b=a
    · rw [z]
      exact ⟨o,ah,no⟩
    · obtain ⟨o',e,n'⟩:=c.nt b hb
      exact ⟨o',aX e z,n'⟩
end
theorem Paired.snoc_inv {α β:Type} {R:α->β->Prop}:∀ {ys:List β} {xs:List α} {y:β},aO R xs (ys++[y])->∃ xs' x,xs=xs'++[x]/\aO R xs' ys/\R x y
  | [],xs,y,p=>by
    cases p with
    | cons a b =>
      cases b
      exact ⟨[],_,rfl,.nil,a⟩
  | z :: ys,xs,y,p=>by
    cases p with
    | cons a b =>
      obtain ⟨xs',x,e,p',r⟩:=Paired.snoc_inv (ys:=ys) b
      exact ⟨_ :: xs',x,by rw [e]; rfl,.cons a p',r⟩
theorem jf {α β:Type} {R:α->β->Prop}:∀ {xs:List α} {ys:List β} {i:Nat} {y:β},aO R xs ys->ys[i]?=some y->∃ x,xs[i]?=some x/\R x y
  | _,_,i,y,.nil,h=>by simp at h
  | _,_,0,y,.cons a b,h=>by
    simp at h
    subst h
    exact ⟨_,rfl,a⟩
  | _,_,i + 1,y,.cons a b,h=>by
    obtain ⟨x,h1,h2⟩:=jf (i:=i) (y:=y) b (by simpa using h)
    exact ⟨x,by simpa using h1,h2⟩
theorem Paired.set {α β:Type} {R:α->β->Prop}:∀ {xs:List α} {ys:List β},aO R xs ys->∀ (i:Nat) {x:α} {y:β},R x y->aO R (xs.set i x) (ys.set i y)
  | _,_,.nil,i,x,y,h=>.nil
  | _,_,.cons a b,0,x,y,h=>.cons h b
  | _,_,.cons a b,i + 1,x,y,h=>.cons a (Paired.set b i h)
theorem Bz {α β:Type} {f:α->β} {xs ys:List β} (p:xs.Perm ys):∀ us:List α,us.map f=ys->∃ us':List α,us'.Perm us/\us'.map f=xs:=by
  induction p with
  | nil =>
    intro us e
    have:us=[]:=List.map_eq_nil_iff.mp e
    subst this
    exact ⟨[],iJ _,rfl⟩
  | cons x _ ih =>
    intro us e
    cases us with
    | nil=>cases e
    | cons u us =>
      rw [bR] at e
      obtain ⟨e1,e2⟩:=uu e
      obtain ⟨us',p',m'⟩:=ih us e2
      exact ⟨u :: us',p'.cons u,by rw [bR,m',e1]⟩
  | swap x y l =>
    intro us e
    match us,e with
    | a :: b :: r,e =>
      rw [bR,bR] at e
      obtain ⟨e1,e⟩:=uu e
      obtain ⟨e2,e3⟩:=uu e
      exact ⟨b :: a :: r,List.Perm.swap _ _ _,by rw [bR,bR,e1,e2,e3]⟩
  | trans _ _ ih1 ih2 =>
    intro us e
    obtain ⟨u1,p1,m1⟩:=ih2 us e
    obtain ⟨u2,p2,m2⟩:=ih1 u1 m1
    exact ⟨u2,p2.trans p1,m2⟩
theorem rY {α β:Type} {R:α->β->Prop}:∀ {us:List (α×β)},(∀ u∈us,R u.1 u.2)->aO R (us.map (·.1)) (us.map (·.2))
  | [],_=>.nil
  | u :: us,h=>.cons (h u aw) (rY fun v hv=>h v (ag _ hv))
theorem uv {α β:Type} {R:α->β->Prop} {xs:List α} {ys:List β} (p:aO R xs ys):(xs.zip ys).map (·.1)=xs/\(xs.zip ys).map (·.2)=ys/\∀ u∈xs.zip ys,R u.1 u.2:=by
  induction p with
  | nil=>exact ⟨rfl,rfl,fun u hu=>by cases hu⟩
  | cons a _ ih =>
    obtain ⟨h1,h2,h3⟩:=ih
    refine ⟨by rw [gb,bR,h1],by rw [gb,bR,h2],fun u hu=>?_⟩
    rw [gb] at hu
    rcases au.mp hu with z | z
    · rw [z]
      exact a
    · exact h3 u z
theorem zH {G:Hp} {v:V} {e:Ev} (h:gH G v e):zq G (v,e.key):=by
  obtain ⟨t,k,e1,h1,h2⟩:=h
  exact ⟨t,k,_,e1,h1,h2⟩
theorem vJ {F:Hp} {us:List (V×Ev)} {es:List Ev} {zs:List (V×List Int)} (hu:∀ u∈us,gH F u.1 u.2) (p:zs.Perm (us.map fun u=>(u.1,u.2.key))) (f:oo zs) (q:(us.map (·.2)).Perm es) (fe:kH es):∃ ps,zs.map (·.1)=ps/\aO (gH F) ps es:=by
  obtain ⟨us',p',m'⟩:=Bz p us rfl
  have h:=rY (R:=gH F) (us:=us') fun u hu'=>hu u (p'.mem_iff.mp hu')
  have fe':kH (us'.map (·.2)):=by
    rw [<- m'] at f
    have f2:=i9.mp f
    exact i9.mpr f2
  rw [vI fe' fe ((p'.map _).trans q)] at h
  refine ⟨us'.map (·.1),?_,h⟩
  rw [<- m',dX]
  rfl
theorem Gp {F G:Hp} (s:bM F G) {pl:aa} {v:V} {ps:List V} {pd:List Ev} {e:Ev} {Q:VK} {E:XK} (hp:G pl=some (.lst ps)) (pr:aO (gH F) ps pd) (fe:kH pd) (hv:gH F v e) (nw:∀ y∈pd,e.key≠y.key) (len:pd.length<=10000000)
    (k:∀ ps',aO (gH F) ps' (uh e pd)->Q .non (upd G pl (.lst ps'))):Au [.ref pl,v] G Q E:=by
  obtain ⟨z1,z2,z3⟩:=uv pr
  have ln:=aT pr
  obtain ⟨t,kk,rfl,h1,h2⟩:=id hv
  refine ⟨pl,t,(ps.zip pd).map fun u=>(u.1,u.2.key),e.key,rfl,?_,fun z hz=>?_,?_,(zH hv).imp fun a ⟨k,ra,e1,e2,e3⟩=>⟨k,ra,e1,s _ _ e2,s _ _ e3⟩,?_,?_,fun zs' p f=>?_⟩
  · rw [dX]
    have:((fun x:V×List Int=>x.1) ∘ fun u:V×Ev=>(u.1,u.2.key))=(fun u:V×Ev=>u.1):=rfl
    rw [this,z1]
    exact hp
  · obtain ⟨u,hu,rfl⟩:=cL.mp hz
    obtain ⟨a,k,ra,e1,e2,e3⟩:=zH (z3 u hu)
    exact ⟨a,k,ra,e1,s _ _ e2,s _ _ e3⟩
  · refine i9.mpr ?_
    have f2:=fe
    rw [<- z2] at f2
    exact i9.mp f2
  · intro m
    obtain ⟨x,hx,ex⟩:=cL.mp m
    obtain ⟨u,hu,rfl⟩:=cL.mp hx
    refine nw u.2 ?_ ex.symm
    rw [<- z2]
    exact pR hu
  · rw [ar,oh]
    omega
  · have hA:∀ u∈(V.ref t,e) :: ps.zip pd,gH F u.1 u.2:=fun u hu=>by
      rcases au.mp hu with z | z
      · rw [z]
        exact hv
      · exact z3 u z
    have hB:(((V.ref t,e) :: ps.zip pd).map (·.2)).Perm (uh e pd):=by
      rw [bR,z2]
      exact (lK e pd).symm
    obtain ⟨ps',e',pr'⟩:=vJ hA p f hB (rB fe nw)
    rw [e']
    exact k ps' pr'
end My
namespace My
open PySem L2
section
variable {P:aM} {w:bH} {K:af} {mg:Str->Option ae} {base:cB} {f:aa} {fd:bY}
theorem Ey:bV ["self"] ["self"] (aQ lW):=⟨rfl,rfl,rfl,by decide +kernel,rfl,by decide +kernel,by decide +kernel⟩
theorem BB (F:Fun K "word" "Great.word" lW f fd):nX P w K mg base CX0 1 f fd ["self"] (om "great"):=by
  refine F.okH Ey (fun vs H Q E h=>?_) (fun cdv A outer s H vs Q E h=>?_)
  · obtain ⟨a,rfl,_⟩:=h
    rfl
  obtain ⟨a,rfl,q⟩:=h
  exact ⟨_,aF (bX bU),q⟩
theorem Gq:bV ["self"] ["self"] (aQ nY):=⟨rfl,rfl,rfl,by decide +kernel,rfl,by decide +kernel,by decide +kernel⟩
theorem Ez (F:Fun K "word" "Full.word" nY f fd):nX P w K mg base CX0 1 f fd ["self"] (om "full"):=by
  refine F.okH Gq (fun vs H Q E h=>?_) (fun cdv A outer s H vs Q E h=>?_)
  · obtain ⟨a,rfl,_⟩:=h
    rfl
  obtain ⟨a,rfl,q⟩:=h
  exact ⟨_,aF (bX bU),q⟩
theorem JD:bV ["self"] ["self"] (aQ pD):=⟨rfl,rfl,rfl,by decide +kernel,rfl,by decide +kernel,by decide +kernel⟩
theorem Gr (F:Fun K "word" "Dry.word" pD f fd):nX P w K mg base CX0 1 f fd ["self"] (om "dry"):=by
  refine F.okH JD (fun vs H Q E h=>?_) (fun cdv A outer s H vs Q E h=>?_)
  · obtain ⟨a,rfl,_⟩:=h
    rfl
  obtain ⟨a,rfl,q⟩:=h
  exact ⟨_,aF (bX bU),q⟩
theorem Gs:bV ["self"] ["self"] (aQ nZ):=⟨rfl,rfl,rfl,by decide +kernel,rfl,by decide +kernel,by decide +kernel⟩
theorem EA (F:Fun K "word" "Span.word" nZ f fd):nX P w K mg base CX0 1 f fd ["self"] (om "span"):=by
  refine F.okH Gs (fun vs H Q E h=>?_) (fun cdv A outer s H vs Q E h=>?_)
  · obtain ⟨a,rfl,_⟩:=h
    rfl
  obtain ⟨a,rfl,q⟩:=h
  exact ⟨_,aF (bX bU),q⟩
theorem Gu:bV ["self"] ["self"] (aQ n6):=⟨rfl,rfl,rfl,by decide +kernel,rfl,by decide +kernel,by decide +kernel⟩
theorem EB (F:Fun K "word" "Late.word" n6 f fd):nX P w K mg base CX0 1 f fd ["self"] (om "late"):=by
  refine F.okH Gu (fun vs H Q E h=>?_) (fun cdv A outer s H vs Q E h=>?_)
  · obtain ⟨a,rfl,_⟩:=h
    rfl
  obtain ⟨a,rfl,q⟩:=h
  exact ⟨_,aF (bX bU),q⟩
end
def Ay {α:Type} (a b c d e f:α):Flt->α
  | .nought=>a
  | .great=>b
  | .full=>c
  | .dry=>d
  | .span=>e
  | .late=>f
end My
namespace My
open PySem L2
theorem fH.hid {ex:List aa} {G:Hp} {qa:List (Str×aa)} {qu:List (Str×List Int)} (n:∀ a∈qa.map (·.2),a∉ex) (q:fH G qa qu):fH (Hid ex G) qa qu:=
  fH.keep (L:=⟨0,0,0,0,0,0,0,0,0,0,.non,.non,qa⟩) (fun a u e m=>by rw [iS (n a m)]; exact e) (fun _ h=>h) q
theorem gH.hid {ex:List aa} {G:Hp} (nt:∀ a∈ex,∃ o,G a=some o/\∀ xs,o≠.tup xs) {v:V} {e:Ev} (h:gH G v e):gH (Hid ex G) v e:=by
  obtain ⟨t,k,e1,h1,h2⟩:=h
  exact ⟨t,k,e1,gL nt h1,gL nt h2⟩
theorem Dg.sta {CD CS:aa} {bs qs:List Str} {H0 G:Hp} {L:Lay} {h:Ev} {ds:List Int} {w:Wk} (g:Dg CD CS bs qs H0 G L h ds w) {ex:List aa} (n:∀ a∈L.all,a∉ex):kN CS (Hid ex G) L.st w.bx w.qu w.dr w.se:=
  ⟨L.dxs,L.bd,L.qd,L.qa,by rw [iS (n _ HF)]; exact g.hst,by rw [iS (n _ HG)]; exact g.hb,by rw [iS (n _ in_qd)]; exact g.hq,g.hl.hid fun a m=>n a (in_l m)⟩
theorem Er.told {CD CS:aa} {bs qs:List Str} {H G:Hp} {L:Lay} {h:Ev} {ds:List Int} {w:Wk} {t rc wl:aa} {ws1 ws2:List V} {qa:List (Str×aa)} (d:Er CD CS bs qs H G L h ds w t rc wl ws1 ws2 qa) {ex:List aa} (nt:∀ a∈ex,∃ o,H a=some o/\∀ xs,o≠.tup xs) :
    ∃ vs,G L.od=some (.lst vs)/\L.od∉ex/\aO (gH (Hid ex G)) vs w.out/\RcIn (Hid ex G) (.ref rc) ⟨h,wrB bs w,wrQ qs w,w.out⟩:=by
  have ntG:∀ a∈ex,∃ o,G a=some o/\∀ xs,o≠.tup xs:=fun a ha=>by
    obtain ⟨o,e,n⟩:=nt a ha
    exact ⟨o,d.sm _ _ e,n⟩
  have nx:∀ {a},H a=none->a∉ex:=fun {a} z m=>by
    obtain ⟨o,e,_⟩:=nt a m
    rw [z] at e
    cases e
  obtain ⟨H0,s0,g⟩:=d.dg
  obtain ⟨vs,o1,o2⟩:=g.ho
  obtain ⟨k,h1,h2⟩:=d.hrc
  have nod:L.od∉ex:=nx (none_of s0 (g.fr _ HH))
  have pv':=Paired.mono (fun _ _ z=>gH.hid ntG z) o2
  refine ⟨vs,o1,nod,pv',rc,k,wl,L.od,ws1,ws2,vs,qa,rfl,gL ntG h1,gL ntG (d.sm _ _ h2),?_,Paired.mono (fun _ _ z=>z.keep fun a xs e=>gL ntG e) d.wr.b,Paired.mono (fun _ _ z=>z.keep fun a xs e=>gL ntG e) d.wr.q,d.wr.l.hid fun a m=>nx (d.wr.fr a (ag _ m)),?_,pv'⟩
  · rw [iS (nx (d.wr.fr _ aw))]
    exact d.wr.hl
  · rw [iS nod]
    exact o1
theorem oX.clean {bs qs:List Str} {w:Wk} (k:oX bs qs w):oX bs qs (w0 w.bx w.qu w.dr w.se):=
  ⟨k.kb,k.kq,k.nb,k.nq,k.wb,k.wq,i0,(fun x hx=>by cases hx),i0,(fun x hx=>by cases hx),(fun x hx=>by cases hx),k.fw⟩
theorem Az {P:Ds->Prop} {hs:List (Str×Ds)} (h:∀ q∈hs,P q.2) (n:P .nil) (sg:Str):P (iR hs sg):=by
  unfold iR
  cases e:hs.lookup sg with
  | none=>exact n
  | some d=>exact h _ (oj e)
def ToldR (F:Hp) (v:V):List Rec->Prop
  | []=>v=.non
  | q :: _=>RcIn F v q
def Oth (ex:List aa) (co sl pl:aa) (H G:Hp):Prop:=∀ a∈ex,a≠co->a≠sl->a≠pl->∀ o,H a=some o->G a=some o
theorem bT.some {ι:Type} {P:aM} {w:bH} {K:af} {mg:Str->Option ae} {base:cB} {CX:CXT} {k:Nat} {f:aa} {fd:bY} {ps:List Str} {sp:ι->Sp} (F:∀ i,bT P w K mg base CX k f fd ps (sp i)) :
    bT P w K mg base CX k f fd ps (fun vs H Q E=>∃ i,sp i vs H Q E):=
  ⟨fun vs H Q E ⟨i,q⟩=>(F i).len vs H Q E q,fun A outer s H args us vs Q E hr he hb hv ⟨i,hs⟩=>(F i).run A outer s H args us vs Q E hr he hb hv hs⟩
theorem Gv {X:Cx} {o value:cX} {f:Str} {ta tv:TE} {pos pos':Pos} (K:af) (hK:X.K=K) (ha:PE X o ta) (hv:PE X value tv) (hs:rH value (some (.Attribute o f pos')) pos.line X.env=pure false):PS X (.Assign [.Attribute o f pos'] value pos) (sFld K ta tv f):=by
  rw [<- hK]
  exact e9 ha hv hs
theorem jw {σ:St} {H:Hp} {Q:List V->Hp->Prop} (h:Q [] H):xI σ H Q:=h
theorem zI {D:jM} {σ:St} {H:Hp} (h:D.nx σ H):m8 D σ H:=h
theorem BC (xs:List Ev) (x:Ev) (pd:List Ev):pF (xs++[x]) pd=uh x (pF xs pd):=by
  unfold pF
  rw [DK]
  rfl
section
variable {P:aM} {w:bH} {K:af} {mg:Str->Option ae} {base:cB} {f fPu fDn CC CM CS CD CF:aa} {fd fdPu fdDn:bY} {cf fW:Flt->aa} {fdW:Flt->bY}
seal L2.PS L2.PSs L2.PE L2.PA L2.PT L2.PW L2.PI L2.PG L2.PGs L2.PC
def spEd (CC CS:aa):Sp:=fun vs H Q _=>∃ (Ms:List MD) (Hb:Hp) (ex:List aa) (co m sl pl:aa) (r:RS) (left:Int),vs=[.ref co,.int left]/\km CC CS Ms Hb ex H co m sl pl r /\
  ∀ v G,bM H G->((jA r left=none/\v=.non)\/∃ e,jA r left=some e/\uo (Hid ex G) v e)->Q v G
theorem scEd:bV ["self","left"] ["self","left"] (aQ fh):=⟨rfl,rfl,rfl,by decide +kernel,rfl,by decide +kernel,by decide +kernel⟩
theorem ok_ed (M:Mt K CC "ending_due" "Course.ending_due" fh ["self","left"] f fd) (T:CoT K mg CC):bT P w K mg base CX0 1 f fd ["self","left"] (spEd CC CS):=by
  refine M.F.ok scEd (fun vs H Q E h=>?_) (fun cdv A outer s H vs Q E hr h=>?_)
  · obtain ⟨Ms,Hb,ex,co,m,sl,pl,r,left,rfl,_⟩:=h
    rfl
  obtain ⟨Ms,Hb,ex,co,m,sl,pl,r,left,rfl,c,q⟩:=h
  refine ⟨_,ak (cZ (tF (zR (cN (pv 0) rfl))) (aF (bX (cN (pv 0) rfl))) cy)
    (ak (cZ (qN (tL (cN (pv 0) rfl) (fun _=>rfl))) (aF (bX (cR (aq bU ao)))) cy)
    (ak (cZ (cu op_le (pv 1) ay (cE _)) (aF (bX (cR (aq bU ao)))) cy)
    (aF (bX vS)))),?_⟩
  obtain ⟨dx,rv,sv,h1,h2,h3⟩:=c.hc
  obtain ⟨ps,h6,h7⟩:=c.hp
  have nl:=aT h7
  have ntn:∀ {G:Hp},bM H G->∀ a∈ex,∃ o,G a=some o/\∀ xs,o≠.tup xs:=fun s a ha=>by
    obtain ⟨o,e,n⟩:=c.nt a ha
    exact ⟨o,s _ _ e,n⟩
  cases hsp:r.sp with
  | some st =>
    rw [hsp] at h3
    have due:jA r left=some (.stp st):=by
      unfold jA
      rw [hsp]
    obtain ⟨t,rfl⟩:∃ t,sv=.ref t:=by
      cases st with
      | fin h =>
        obtain ⟨t,_,e,_⟩:=h3
        exact ⟨t,e⟩
      | flt e h =>
        obtain ⟨t,_,e,_⟩:=h3
        exact ⟨t,e⟩
    refine ⟨_,rfl,co,CC,dx,_,_,rfl,h1,T.cl,T.nE,JB _ _ _ _ _,_,rfl,gF ?_⟩
    exact ⟨_,rfl,co,CC,dx,_,_,rfl,h1,T.cl,T.nE,JB _ _ _ _ _,q _ _ (bM.refl _) (.inr ⟨_,due,h3⟩)⟩
  | none =>
    rw [hsp] at h3
    have h3:sv=.non:=h3
    subst h3
    refine ⟨_,rfl,co,CC,dx,_,_,rfl,h1,T.cl,T.nE,JB _ _ _ _ _,_,rfl,fV ?_⟩
    refine ⟨_,rfl,co,CC,dx,_,_,rfl,h1,T.cl,T.nP,JA _ _ _ _ _,_,.inl ⟨_,SqL.of h6,rfl⟩,?_⟩
    cases ps with
    | nil =>
      have e0:r.pd=[]:=List.eq_nil_of_length_eq_zero nl.symm
      refine gF ⟨pE,fun t ht=>q _ _ (aD ht _) (.inr ⟨.empty,?_,t,rfl,gL (ntn (aD ht _)) ah⟩)⟩
      unfold jA
      rw [hsp,e0]
      rfl
    | cons x xs =>
      have e0:r.pd.isEmpty=false:=by
        cases z:r.pd with
        | nil =>
          rw [z] at nl
          cases nl
        | cons _ _=>rfl
      refine fV ?_
      refine ⟨_,rfl,_,_,rfl,rfl,_,rfl,jt (fun cc=>?_) (fun cc=>?_)⟩
      · have cc:=of_decide_eq_true cc
        refine ⟨pE,fun t ht=>q _ _ (aD ht _) (.inr ⟨.cut,?_,t,rfl,gL (ntn (aD ht _)) ah⟩)⟩
        unfold jA
        rw [hsp]
        dsimp only
        rw [e0,if_neg (by decide),if_pos cc]
      · have cc:¬ left<=0:=fun z=>cc (decide_eq_true z)
        refine q _ _ (bM.refl _) (.inl ⟨?_,rfl⟩)
        unfold jA
        rw [hsp]
        dsimp only
        rw [e0,if_neg (by decide),if_neg cc]
def HP (CC CM CS:aa):Sp:=fun vs H Q _=>∃ (Ms:List MD) (Hb:Hp) (ex:List aa) (co m sl pl:aa) (r:RS),vs=[.ref co]/\uq CM Ms Hb m/\km CC CS Ms Hb ex H co m sl pl r/\r.sp=none/\r.pd≠[]/\r.pd.length<=9000000 /\
  ∀ v G,km CC CS Ms Hb ex G co m sl pl (gD Ms r).1->bM (Hid ex H) (Hid ex G)->Oth ex co sl pl H G->ToldR (Hid ex G) v (gD Ms r).2->Q v G
abbrev nD1:List Str:=["self","happening","at","told","fault","sent"]
theorem BD:bV nD1 ["self"] (aQ gC):=⟨rfl,rfl,rfl,by decide +kernel,rfl,by decide +kernel,by decide +kernel⟩
theorem JE {n j:Nat} (h:j < n):ixN n (j:Int)=some j:=by
  unfold ixN
  rw [if_pos (by omega),if_pos (by omega)]
  simp
theorem JF (M:Mt K CC "do_one" "Course.do_one" gC ["self"] f fd) (DPu:Df K mg "put_in" qv ["falling","thing"] fPu fdPu) (GPu:bT P w K mg base CX0 2 fPu fdPu ["falling","thing"] Au)
    (DDn:Df K mg "done" wK ["model","state","happening"] fDn fdDn) (GDn:∀ bq:List Str×List Str,bT P w K mg base (CXo P w) 37 fDn fdDn ["model","state","happening"] (Es cf CM CD CS bq.1 bq.2 5))
    (mW:∀ e,vZ K (cf e) "word" (fW e)) (bW:∀ e,Binds K (fdW e) ["self"] []) (GW:∀ e,nX P w K mg base CX0 1 (fW e) (fdW e) ["self"] (om (mQ e))) (XN:∀ e,uS K (cf e)) (mF:mg "Fault"=some (.ref CF)) (hx:∀ e,c5 K (.ref (cf e)) (.ref CF)=some true) (T:CoT K mg CC) (TM:MdT K mg CM CS) :
    bT P w K mg base CX0 38 f fd ["self"] (HP CC CM CS):=by
  have GD:=bT.some GDn
  refine M.F.ok BD (fun vs H Q E h=>?_) (fun cdv A outer s H vs Q E hr h=>?_)
  · obtain ⟨Ms,Hb,ex,co,m,sl,pl,r,rfl,_⟩:=h
    rfl
  obtain ⟨Ms,Hb,ex,co,m,sl,pl,r,rfl,hM,c,hsp,hpd,hln,k⟩:=h
  have r1:dP 1 _:=hr.mono (by decide)
  have r2:dP 2 _:=hr.mono (by decide)
  obtain ⟨dx,rv,sv,hc0,hre,hsp0⟩:=c.hc
  obtain ⟨ss,hs0,hss⟩:=c.hs
  obtain ⟨ps,hp0,hps⟩:=c.hp
  -- the last one
  obtain ⟨h,hl⟩:∃ h,r.pd.getLast?=some h:=by
    cases e:r.pd.getLast? with
    | none=>exact absurd (wW.mp e) hpd
    | some h=>exact ⟨h,rfl⟩
  have spl:=uj hl
  have hin:h∈r.pd:=by
    rw [spl]
    exact bF _ (aH.mpr rfl)
  have eo:=c.ok.ev h hin
  obtain ⟨j,hj⟩:∃ j:Nat,h.to=(j:Int):=⟨h.to.toNat,by have:=eo.to0; omega⟩
  have jl:j < Ms.length:=by have:=eo.to1; omega
  have ej:h.to.toNat=j:=by omega
  have js:j < r.sts.length:=by rw [c.ok.len]; exact jl
  obtain ⟨Mm,hMm⟩:∃ M,Ms[j]?=some M:=⟨_,ax jl⟩
  obtain ⟨st0,hst0⟩:∃ s,r.sts[j]?=some s:=⟨_,ax js⟩
  have d:Did Ms r h Mm st0:=⟨spl,by rw [ej]; exact hMm,by rw [ej]; exact hst0⟩
  obtain ⟨ps',v,hpsv,hps',hv⟩:∃ ps' v,ps=ps'++[v]/\aO (gH (Hid ex H)) ps' r.pd.dropLast/\gH (Hid ex H) v h:=by
    rw [spl] at hps
    exact Paired.snoc_inv hps
  obtain ⟨th,kh,rfl,hth,hkh⟩:=id hv
  -- the aW and the machine
  obtain ⟨dxm,ml,fs,hm,hfs,xs,hml,hxs⟩:=id (hM.same c.sm)
  obtain ⟨mv,hmv,hMo⟩:=jf hxs hMm
  obtain ⟨sta,hsta,hSt⟩:=jf hss hst0
  have dk:=Az (P:=fun D=>D.toOk (Ms.length:Int)/\D.deep<=4/\D.size<=3 * ddz 4) hMo.hk ⟨by simp only [Ds.toOk],by simp only [Ds.deep]; omega,by simp only [Ds.size]; omega⟩ h.sg
  have dz:3 * ddz 4<=5000:=by decide
  refine ⟨_,ak (bz (i:=1) BD.nd rfl (Or.inl rfl) (IC bK xu xw ID (cN (pv 0) rfl)))
    (ak (bz (i:=2) BD.nd rfl (Or.inl rfl) (bZ cF (pv 1) ay (fun _ _=>rfl)))
    (ak (Fz (fun C σ G=>∃ (e:Flt) (u3 u4 u5:Option V),C=cf e/\σ=[some (.ref co),some (.ref th),some (.int h.to),u3,u4,u5]/\doS h Mm.ds (iR Mm.hs h.sg) st0.w=.error e/\bM (upd H pl (.lst ps')) G)
        (fun pins=>aF (bz (i:=3) BD.nd rfl (Or.inl rfl) (C1 GD hr (by rfl) DDn.m DDn.F.kp DDn.b zd (aq (fu K (by rfl) (pv 0) (by rfl)) (aq (bZ (Eu K (by rfl)) (fu K (by rfl) (pv 0) (by rfl)) (pv 2) (fun _ _=>rfl)) (aq (pv 1) ao))))))
        (IS 4 (by rfl) mF BD.nd rfl rfl (fun ea=>ak (Gv K (by rfl) (pv 0) (cR (aq bU (aq (Bh (ι:=Flt) (C:=cf) (fm:=fW) (fd:=fdW) (sp:=fun e=>om (mQ e)) (pv 4) XN mW GW ⟨rfl,r1.dp,r1.un⟩ bW cm) (aq (bZ (mi K (by rfl)) (pv 1) ay (fun _ _=>rfl)) ao)))) rfl) (aF (bX vS))) Fk)
        cy)
    (ak (tG (bZ cF (pv 3) ay (fun _ _=>rfl)) (yJ (cN (pv 0) rfl) (pv 2) tS))
    (ak (e9 (pv 0) (bZ cF (pv 1) ay (fun _ _=>rfl)) rfl)
    (ak (iy cQ rfl (gW (bZ cF (bZ cF (pv 3) ay (fun _ _=>rfl)) ay (fun _ _=>rfl))) (dy (i:=5) BD.nd rfl (Or.inl rfl)) (aF (dW (aS GPu r2 (by rfl) DPu.m DPu.F.kp DPu.b .nil cm (aq (cN (pv 0) rfl) (aq (pv 5) ao))))))
    (ak (cZ (lO (bZ cF (pv 3) ay (fun _ _=>rfl))) (aF (e9 (pv 0) (cR (aq bU (aq (bZ cF (pv 1) ay (fun _ _=>rfl)) ao))) rfl)) cy)
    (aF (bX (bZ cF (pv 3) ay (fun _ _=>rfl)))))))))),?_⟩
  subst hpsv
  -- it is taken out
  refine bS (cJ ?_)
  refine ⟨_,rfl,co,CC,dx,_,_,rfl,hc0,T.cl,T.nP,JA _ _ _ _ _,.inl ⟨rfl,_,SqL.of hp0⟩,pl,_,.ref th,rfl,rfl,hp0,?_,?_⟩
  · rw [aE]
    show (ps'++[V.ref th])[ps'.length + 1 - 1]?=_
    rw [C8,dS (aC _),Nat.sub_self]
    rfl
  rw [Av]
  refine aZ ?_
  dsimp only
  have F1:Hid ex (upd H pl (.lst ps'))=Hid ex H:=iT c.i3
  have hc1:upd H pl (.lst ps') co=some (.ins CC dx (iX (.ref m) (.ref sl) (.ref pl) rv sv)):=aX hc0 c.n2
  have hs1:upd H pl (.lst ps') sl=some (.lst (ss.map V.ref)):=aX hs0 c.n3
  have hp1:upd H pl (.lst ps') pl=some (.lst ps'):=ah
  have nt1:∀ a∈ex,∃ o,upd H pl (.lst ps') a=some o/\∀ xs,o≠.tup xs:=fun a ha=>by
    by_cases z:a=pl
    · rw [z]
      exact ⟨_,ah,fun xs z=>by cases z⟩
    · obtain ⟨o,e,n⟩:=c.nt a ha
      exact ⟨o,aX e z,n⟩
  have ot1:Oth ex co sl pl H (upd H pl (.lst ps')):=fun a _ _ _ z o e=>aX e z
  revert F1 hc1 hs1 hp1 nt1 ot1
  generalize upd H pl (.lst ps')=G1
  intro F1 hc1 hs1 hp1 nt1 ot1
  have sF1:bM (Hid ex H) G1:=by
    rw [<- F1]
    exact mj
  have hth1:=sF1 _ _ hth
  refine bS (cJ ?_)
  refine ⟨_,rfl,th,_,_,_,rfl,rfl,SqT.of hth1,rfl,?_⟩
  refine aZ ?_
  dsimp only
  refine bS ?_
  refine ⟨?_,fun C σ' G6 hl ht=>?_⟩
  · refine cJ ?_
    have at1:atI (ss.map V.ref) h.to=some (.ref sta):=by
      rw [hj]
      exact jh (by rw [bQ,hsta]; rfl)
    refine ⟨_,rfl,co,CC,dx,_,_,rfl,hc1,T.cl,T.nM,co_m _ _ _ _ _,_,rfl,co,CC,dx,_,_,rfl,hc1,T.cl,T.nS,Jz _ _ _ _ _,_,rfl,sl,_,_,_,rfl,rfl,SqL.of hs1,at1,_,rfl,?_⟩
    refine ⟨(Mm.bs,Mm.qs),m,dxm,ml,sta,fs,xs,.ref th,mv,h,Mm.ds,Mm.hs,st0.bx,st0.qu,st0.dr,st0.se,rfl,sF1 _ _ hm,hfs,sF1 _ _ hml,hv.same sF1,by rw [hj]; exact jh hmv,(hMo.same sF1).ma,kN.same' sF1 hSt,c.wk j Mm st0 hMm hst0,eo.wt,eo.wa,eo.wb,by omega,by omega,?_⟩
    cases ew:doS h Mm.ds (iR Mm.hs h.sg) (w0 st0.bx st0.qu st0.dr st0.se) with
    | error e =>
      exact fun G6 s6=>⟨_,rfl,e,_,_,_,rfl,rfl,ew,s6⟩
    | ok w' =>
      intro G6 L t6 rc wl ws1 ws2 qa Dn
      have ew':doS h Mm.ds (iR Mm.hs h.sg) st0.w=.ok w':=ew
      rw [tu d ew'] at k
      have N:=lL (m:=(Ms.length:Int)) _ _ _ dk.1 ew'
      obtain ⟨nw1,nw2,nw3⟩:=ym c.ok d N
      obtain ⟨H0,s0,g⟩:=Dn.dg
      have rok:=Ex c.ok d ew' N g.ok.wo
      rw [tu d ew'] at rok
      obtain ⟨vs,hod,nod,hvs,hrec⟩:=Dn.told nt1
      have sm6:=Dn.sm
      obtain ⟨kk,hrc,_⟩:=Dn.hrc
      have nx:∀ a∈L.all,a∉ex:=fun a ha z=>by
        obtain ⟨o,e,_⟩:=nt1 a z
        have:=g.fr a ha
        rw [s0 _ _ e] at this
        cases this
      have hsn:=g.sta nx
      have f6:bM (Hid ex H) (Hid ex G6):=by
        rw [<- F1]
        exact gT sm6
      have sF6:bM (Hid ex G6) G6:=mj
      have hc6:=sm6 _ _ hc1
      have hs6:=sm6 _ _ hs1
      have hp6:=sm6 _ _ hp1
      have ot6:Oth ex co sl pl H G6:=fun a ha n1 n2 n3 o e=>sm6 _ _ (ot1 a ha n1 n2 n3 o e)
      have nt6:∀ a∈ex,∃ o,G6 a=some o/\∀ xs,o≠.tup xs:=fun a ha=>by
        obtain ⟨o,e,n⟩:=nt1 a ha
        exact ⟨o,sm6 _ _ e,n⟩
      refine aZ ?_
      refine zI ?_
      dsimp only
      refine zI ?_
      dsimp only
      -- the new state
      have jl2:j < (ss.map V.ref).length:=(aB.mp (show (ss.map V.ref)[j]?=some (.ref sta) by rw [bQ,hsta]; rfl)).1
      refine bS (cJ ?_)
      refine ⟨_,rfl,t6,_,_,_,rfl,rfl,SqT.of Dn.ht,rfl,?_⟩
      refine ⟨_,rfl,co,CC,dx,_,_,rfl,hc6,T.cl,T.nS,Jz _ _ _ _ _,_,rfl,sl,_,_,j,rfl,rfl,hs6,by rw [hj]; exact JE jl2,?_⟩
      -- its key is reached
      have hth7:upd G6 sl (.lst ((ss.map V.ref).set j (.ref L.st))) th=some (.tup [.ref kh,.int h.to,.str h.sg,.int h.a,.int h.b]):=aX (sm6 _ _ hth1) (kT (sm6 _ _ hth1) hs6 (by intro z; cases z))
      have hc7:upd G6 sl (.lst ((ss.map V.ref).set j (.ref L.st))) co=some (.ins CC dx (iX (.ref m) (.ref sl) (.ref pl) rv sv)):=aX hc6 c.n1
      refine bS ?_
      refine ⟨_,rfl,th,_,_,_,rfl,rfl,SqT.of hth7,rfl,_,rfl,co,CC,dx,_,rfl,hc7,T.cl,T.nR,zG _ _ _ _ _,?_⟩
      rw [Gn]
      have F8:Hid ex (upd (upd G6 sl (.lst ((ss.map V.ref).set j (.ref L.st)))) co (.ins CC dx (iX (.ref m) (.ref sl) (.ref pl) (.ref kh) sv)))=Hid ex G6:=by
        rw [iT c.i1,iT c.i2]
      have hc8:upd (upd G6 sl (.lst ((ss.map V.ref).set j (.ref L.st)))) co (.ins CC dx (iX (.ref m) (.ref sl) (.ref pl) (.ref kh) sv)) co=some (.ins CC dx (iX (.ref m) (.ref sl) (.ref pl) (.ref kh) sv)):=ah
      have hs8:upd (upd G6 sl (.lst ((ss.map V.ref).set j (.ref L.st)))) co (.ins CC dx (iX (.ref m) (.ref sl) (.ref pl) (.ref kh) sv)) sl=some (.lst ((ss.map V.ref).set j (.ref L.st))):=aX ah c.n1.symm
      have hp8:upd (upd G6 sl (.lst ((ss.map V.ref).set j (.ref L.st)))) co (.ins CC dx (iX (.ref m) (.ref sl) (.ref pl) (.ref kh) sv)) pl=some (.lst ps'):=aX (aX hp6 c.n3.symm) c.n2.symm
      have ot8:Oth ex co sl pl H (upd (upd G6 sl (.lst ((ss.map V.ref).set j (.ref L.st)))) co (.ins CC dx (iX (.ref m) (.ref sl) (.ref pl) (.ref kh) sv))):=fun a ha n1 n2 n3 o e=>aX (aX (ot6 a ha n1 n2 n3 o e) n2) n1
      have nt8:∀ a∈ex,∃ o,upd (upd G6 sl (.lst ((ss.map V.ref).set j (.ref L.st)))) co (.ins CC dx (iX (.ref m) (.ref sl) (.ref pl) (.ref kh) sv)) a=some o/\∀ xs,o≠.tup xs:=fun a ha=>by
        by_cases z:a=co
        · rw [z]
          exact ⟨_,ah,fun xs z=>by cases z⟩
        · by_cases y:a=sl
          · rw [y]
            exact ⟨_,hs8,fun xs z=>by cases z⟩
          · obtain ⟨o,e,n⟩:=nt6 a ha
            exact ⟨o,aX (aX e y) z,n⟩
      revert F8 hc8 hs8 hp8 ot8 nt8
      generalize upd (upd G6 sl (.lst ((ss.map V.ref).set j (.ref L.st)))) co (.ins CC dx (iX (.ref m) (.ref sl) (.ref pl) (.ref kh) sv))=G8
      intro F8 hc8 hs8 hp8 ot8 nt8
      have sF8:bM (Hid ex G6) G8:=by
        rw [<- F8]
        exact mj
      have ht6:Hid ex G6 t6=some (.tup [.ref L.st,.ref rc,.bl w'.en]):=gL nt6 Dn.ht
      have hrc6:Hid ex G6 rc=_:=gL nt6 hrc
      have hod6:Hid ex G6 L.od=some (.lst vs):=by
        rw [iS nod]
        exact hod
      have hth6:Hid ex G6 th=_:=gL nt6 (sm6 _ _ hth1)
      have hkh6:Hid ex G6 kh=some (zF h):=f6 _ _ hkh
      -- what was sent is put in
      have fd':kH r.pd.dropLast:=by
        have z:=c.ok.fall
        rw [spl] at z
        exact (rC z).1
      have nopl:L.od≠pl:=fun z=>nod (by rw [z]; exact c.i3)
      refine bS ?_
      refine ⟨_,rfl,t6,_,_,_,rfl,rfl,SqT.of (sF8 _ _ ht6),rfl,rc,_,_,_,rfl,rfl,SqT.of (sF8 _ _ hrc6),rfl,L.od,rfl,⟨_,SqL.of (sF8 _ _ hod6)⟩,iL (K:=K) (a:=L.od) (xs:=vs) (fun i σ G'=>∃ (u4 u:Option V) (ps:List V),σ=[some (.ref co),some (.ref th),some (.int h.to),some (.ref t6),u4,u]/\G' pl=some (.lst ps)/\aO (gH (Hid ex G6)) ps (pF (w'.out.take i) r.pd.dropLast)/\But pl G8 G')
        ⟨_,_,ps',rfl,hp8,by rw [kE]; exact Paired.mono (fun _ _ z=>z.same f6) hps',But.refl _ _⟩ ?_ ?_ ?_⟩
      · rintro i σ G' _ ⟨_,_,_,rfl,_,_,b⟩
        exact SqL.of (b _ _ (sF8 _ _ hod6) nopl)
      · rintro i x σ G' hi ⟨u4,u,ps,rfl,g1,g2,b⟩
        obtain ⟨e,he,hxe⟩:=lI hvs hi
        have sFb:bM (Hid ex G6) G':=fun a o z=>b _ _ (sF8 _ _ z) fun y=>rD z (by rw [y]; exact c.i3)
        have mem:e∈w'.out:=cw he
        have tk:w'.out.take (i + 1)=w'.out.take i++[e]:=by
          rw [fi,he]
          rfl
        have fo:∀ x∈w'.out.take i,x.key≠e.key:=fun x hx=>by
          have pw:=nw2
          rw [<- oO (i + 1) w'.out,tk] at pw
          exact (gv.mp (gv.mp pw).1).2.2 x hx e (aH.mpr rfl)
        have fall:kH (pF (w'.out.take i) r.pd.dropLast):=oP fd' (fun x hx=>nw1 x (AA hx)) (nw2.sublist (rM _ _))
        refine ⟨_,rfl,co,CC,dx,_,_,rfl,b _ _ hc8 c.n2,T.cl,T.nP,JA _ _ _ _ _,_,rfl,?_⟩
        refine jw ?_
        show Au [V.ref pl,x] G' _ _
        refine Gp (F:=Hid ex G6) sFb g1 g2 fall hxe (fun y hy=>?_) ?_ fun ps2 hps2=>?_
        · rcases cq.mp ((gE _ _).mem_iff.mp hy) with z | z
          · exact fun q=>fo y z q.symm
          · exact nw1 e mem y z
        · rw [(gE _ _).length_eq,aE,jE,cG]
          obtain ⟨new,e1,e2,_⟩:=N.ex
          have e1:w'.out=new:=e1
          have:=dk.2.2
          rw [e1]
          omega
        · refine ⟨_,_,ps2,rfl,ah,?_,b.trans (But.upd pl _ _)⟩
          rw [tk,BC]
          exact hps2
      rintro σ G9 ⟨u4,u,ps9,rfl,g1,g2,b⟩
      have lvs:vs.length=w'.out.length:=aT hvs
      rw [lvs,dG] at g2
      have F9:bM (Hid ex G6) (Hid ex G9):=by
        rw [<- F8]
        exact Jy fun a o e n=>b _ _ e fun y=>n (by rw [y]; exact c.i3)
      have sF9:bM (Hid ex G6) G9:=F9.trans mj
      have hc9:=b _ _ hc8 c.n2
      have hs9:=b _ _ hs8 c.n3
      have ot9:Oth ex co sl pl H G9:=fun a ha n1 n2 n3 o e=>b _ _ (ot8 a ha n1 n2 n3 o e) n3
      have nt9:∀ a∈ex,∃ o,G9 a=some o/\∀ xs,o≠.tup xs:=fun a ha=>by
        by_cases z:a=pl
        · rw [z]
          exact ⟨_,g1,fun xs z=>by cases z⟩
        · obtain ⟨o,e,n⟩:=nt8 a ha
          exact ⟨o,b _ _ e z,n⟩
      have wk9:∀ (i:Nat) (M:MD) (s:Sta),Ms[i]?=some M->(r.sts.set h.to.toNat ⟨w'.bx,w'.qu,w'.dr,w'.se⟩)[i]?=some s->oX M.bs M.qs s.w:=fun i M s hi hs=>by
        rw [ej] at hs
        by_cases z:i=j
        · rw [z,eM js] at hs
          rw [z,hMm] at hi
          cases hs
          cases hi
          exact g.ok.clean
        · rw [hW (fun y=>z y.symm)] at hs
          exact c.wk i M s hi hs
      have st9:∀ {F:Hp},bM (Hid ex G6) F->aO (StA CS F) (ss.set j L.st) (r.sts.set h.to.toNat ⟨w'.bx,w'.qu,w'.dr,w'.se⟩):=fun {F} s=>by
        rw [ej]
        exact Paired.set (Paired.mono (fun _ _ z=>kN.same' (f6.trans s) z) hss) j (kN.same' s hsn)
      have ems:(ss.map V.ref).set j (.ref L.st)=(ss.set j L.st).map V.ref:=List.map_set.symm
      rw [ems] at hs9
      refine bS ?_
      refine ⟨_,rfl,t6,_,_,_,rfl,rfl,SqT.of (sF9 _ _ ht6),rfl,w'.en,rfl,?_⟩
      cases een:w'.en with
      | true =>
        rw [een] at k rok
        refine gF ?_
        refine ⟨_,rfl,th,_,_,_,rfl,rfl,SqT.of (sF9 _ _ hth6),rfl,lt2,fun tz htz=>?_⟩
        have sz:=aD htz (.tup [.str "end",.ref kh])
        refine ⟨_,rfl,co,CC,dx,_,rfl,sz _ _ hc9,T.cl,T.nE,zG _ _ _ _ _,?_⟩
        rw [Ax]
        have F10:Hid ex (upd (upd G9 tz (.tup [.str "end",.ref kh])) co (.ins CC dx (iX (.ref m) (.ref sl) (.ref pl) (.ref kh) (.ref tz))))=Hid ex (upd G9 tz (.tup [.str "end",.ref kh])):=iT c.i1
        have ntz:∀ a∈ex,∃ o,upd G9 tz (.tup [.str "end",.ref kh]) a=some o/\∀ xs,o≠.tup xs:=fun a ha=>by
          obtain ⟨o,e,n⟩:=nt9 a ha
          exact ⟨o,sz _ _ e,n⟩
        have s10:bM (Hid ex G6) (Hid ex (upd G9 tz (.tup [.str "end",.ref kh]))):=F9.trans (gT sz)
        have htz10:Hid ex (upd G9 tz (.tup [.str "end",.ref kh])) tz=some (.tup [.str "end",.ref kh]):=gL ntz ah
        have nco:∀ {a:aa} {o:HO},a≠co->upd G9 tz (.tup [.str "end",.ref kh]) a=some o->upd (upd G9 tz (.tup [.str "end",.ref kh])) co (.ins CC dx (iX (.ref m) (.ref sl) (.ref pl) (.ref kh) (.ref tz))) a=some o:=fun n e=>aX e n
        have s10':bM (Hid ex G6) (upd (upd G9 tz (.tup [.str "end",.ref kh])) co (.ins CC dx (iX (.ref m) (.ref sl) (.ref pl) (.ref kh) (.ref tz)))):=by
          refine bM.trans s10 ?_
          rw [<- F10]
          exact mj
        refine ⟨_,rfl,t6,_,_,_,rfl,rfl,SqT.of (s10' _ _ ht6),rfl,?_⟩
        refine k _ _ ⟨rok,?_,c.i1,c.i2,c.i3,c.n1,c.n2,c.n3,⟨dx,_,_,ah,?_,?_⟩,⟨_,nco c.n1.symm (sz _ _ hs9),?_⟩,⟨_,nco c.n2.symm (sz _ _ g1),?_⟩,wk9,fun a ha=>?_⟩ ?_ ?_ ?_
        · rw [F10]
          exact (c.sm.trans f6).trans s10
        · rw [F10]
          exact ⟨kh,rfl,s10 _ _ hkh6⟩
        · rw [F10]
          exact ⟨tz,kh,rfl,htz10,s10 _ _ hkh6⟩
        · rw [F10]
          exact st9 s10
        · rw [F10]
          exact Paired.mono (fun _ _ z=>z.same s10) g2
        · by_cases z:a=co
          · rw [z]
            exact ⟨_,ah,fun xs z=>by cases z⟩
          · obtain ⟨o,e,n⟩:=ntz a ha
            exact ⟨o,nco z e,n⟩
        · rw [F10]
          exact f6.trans s10
        · exact fun a ha n1 n2 n3 o e=>nco n1 (sz _ _ (ot9 a ha n1 n2 n3 o e))
        · rw [F10]
          exact hrec.same s10
      | false =>
        rw [een] at k rok
        refine fV ?_
        have sv0:sv=.non:=by
          rw [hsp] at hsp0
          exact hsp0
        refine ⟨_,rfl,t6,_,_,_,rfl,rfl,SqT.of (sF9 _ _ ht6),rfl,?_⟩
        exact k _ _ ⟨rok,(c.sm.trans f6).trans F9,c.i1,c.i2,c.i3,c.n1,c.n2,c.n3,⟨dx,_,_,hc9,⟨kh,rfl,F9 _ _ hkh6⟩,sv0⟩,⟨_,hs9,st9 F9⟩,⟨_,g1,Paired.mono (fun _ _ z=>z.same F9) g2⟩,wk9,nt9⟩ (f6.trans F9) ot9 (hrec.same F9)
  · -- a fault
    obtain ⟨e,u3,u4,u5,rfl,rfl,ew,s6⟩:=ht
    rw [qB d ew] at k
    have rok:=By c.ok d ew
    rw [qB d ew] at rok
    refine .inl ⟨hx e,fun ea hea=>?_⟩
    have sx:=aD hea (XO ea (cf e))
    have s7:=s6.trans sx
    have f7:bM (Hid ex H) (Hid ex (upd G6 ea (XO ea (cf e)))):=by
      rw [<- F1]
      exact gT s7
    refine bS ?_
    refine ⟨_,rfl,ea,e,rfl,ah,_,rfl,_,rfl,th,_,_,_,rfl,rfl,SqT.of (s7 _ _ hth1),rfl,(by show 3<=aA; decide),fun tz htz=>?_⟩
    have sz:=aD htz (.tup [.str "fault",.str (mQ e),.ref kh])
    have s8:=s7.trans sz
    refine ⟨_,rfl,co,CC,dx,_,rfl,s8 _ _ hc1,T.cl,T.nE,zG _ _ _ _ _,?_⟩
    rw [Ax]
    revert htz sz s8
    generalize upd G6 ea (XO ea (cf e))=G7 at f7 |-
    intro htz sz s8
    have F10:Hid ex (upd (upd G7 tz (.tup [.str "fault",.str (mQ e),.ref kh])) co (.ins CC dx (iX (.ref m) (.ref sl) (.ref pl) rv (.ref tz))))=Hid ex (upd G7 tz (.tup [.str "fault",.str (mQ e),.ref kh])):=iT c.i1
    have ntz:∀ a∈ex,∃ o,upd G7 tz (.tup [.str "fault",.str (mQ e),.ref kh]) a=some o/\∀ xs,o≠.tup xs:=fun a ha=>by
      obtain ⟨o,e,n⟩:=nt1 a ha
      exact ⟨o,s8 _ _ e,n⟩
    have s10:bM (Hid ex H) (Hid ex (upd G7 tz (.tup [.str "fault",.str (mQ e),.ref kh]))):=f7.trans (gT sz)
    have htz10:Hid ex (upd G7 tz (.tup [.str "fault",.str (mQ e),.ref kh])) tz=some (.tup [.str "fault",.str (mQ e),.ref kh]):=gL ntz ah
    refine k _ _ ⟨rok,?_,c.i1,c.i2,c.i3,c.n1,c.n2,c.n3,⟨dx,_,_,ah,?_,?_⟩,⟨ss,aX (s8 _ _ hs1) c.n1.symm,?_⟩,⟨ps',aX (s8 _ _ hp1) c.n2.symm,?_⟩,c.wk,fun a ha=>?_⟩ ?_ ?_ rfl
    · rw [F10]
      exact c.sm.trans s10
    · rw [F10]
      exact hre.same s10
    · rw [F10]
      exact ⟨tz,kh,rfl,htz10,s10 _ _ hkh⟩
    · rw [F10]
      exact Paired.mono (fun _ _ z=>kN.same' s10 z) hss
    · rw [F10]
      exact Paired.mono (fun _ _ z=>z.same s10) hps'
    · by_cases z:a=co
      · rw [z]
        exact ⟨_,ah,fun xs z=>by cases z⟩
      · obtain ⟨o,e,n⟩:=ntz a ha
        exact ⟨o,aX e z,n⟩
    · rw [F10]
      exact s10
    · exact fun a ha n1 n2 n3 o e=>aX (s8 _ _ (ot1 a ha n1 n2 n3 o e)) n1
end
end My
namespace My
open PySem L2
def wX (Ms:List MD):Prop:=∀ M∈Ms,∀ q∈M.hs,q.2.toOk (Ms.length:Int)/\q.2.deep<=4/\q.2.size<=3 * ddz 4
theorem uq.ok {CM:aa} {Ms:List MD} {H:Hp} {m:aa} (h:uq CM Ms H m):wX Ms:=by
  obtain ⟨dx,ml,fs,_,_,xs,_,p⟩:=h
  intro M hM
  obtain ⟨j,hj⟩:=dU hM
  obtain ⟨x,_,z⟩:=jf p hj
  exact z.hk
theorem JG {Ms:List MD} {r:RS} (k:ROk Ms.length r) (n:r.pd≠[]):∃ h M s,Did Ms r h M s:=by
  obtain ⟨h,hl⟩:∃ h,r.pd.getLast?=some h:=by
    cases e:r.pd.getLast? with
    | none=>exact absurd (wW.mp e) n
    | some h=>exact ⟨h,rfl⟩
  have spl:=uj hl
  have hin:h∈r.pd:=by
    rw [spl]
    exact bF _ (aH.mpr rfl)
  have eo:=k.ev h hin
  have jl:h.to.toNat < Ms.length:=by have:=eo.to1; have:=eo.to0; omega
  have js:h.to.toNat < r.sts.length:=by rw [k.len]; exact jl
  exact ⟨h,_,_,spl,ax jl,ax js⟩
inductive EC (Ms:List MD) (r:RS):Prop
  | err (h:Ev) (M:MD) (s:Sta) (e:Flt) (d:Did Ms r h M s) (q:doS h M.ds (iR M.hs h.sg) s.w=.error e) (eq:gD Ms r=({r with pd:=r.pd.dropLast,sp:=some (.flt e h)},[]))
  | ok (h:Ev) (M:MD) (s:Sta) (w:Wk) (d:Did Ms r h M s) (q:doS h M.ds (iR M.hs h.sg) s.w=.ok w) (N:News (Ms.length:Int) h (3 * ddz 4) s.w w)
      (eq:gD Ms r=(⟨r.sts.set h.to.toNat ⟨w.bx,w.qu,w.dr,w.se⟩,pF w.out r.pd.dropLast,some h,if w.en=true then some (.fin h) else none⟩,[⟨h,wrB M.bs w,wrQ M.qs w,w.out⟩]))
theorem wY {Ms:List MD} {r:RS} (mo:wX Ms) (k:ROk Ms.length r) (n:r.pd≠[]):EC Ms r:=by
  obtain ⟨h,M,s,d⟩:=JG k n
  have dk:=Az (P:=fun D=>D.toOk (Ms.length:Int)/\D.deep<=4/\D.size<=3 * ddz 4) (mo M (cw d.hM)) ⟨by simp only [Ds.toOk],by simp only [Ds.deep]; omega,by simp only [Ds.size]; omega⟩ h.sg
  cases q:doS h M.ds (iR M.hs h.sg) s.w with
  | error e=>exact .err h M s e d q (qB d q)
  | ok w=>exact .ok h M s w d q ((lL _ _ _ dk.1 q).le dk.2.2) (tu d q)
theorem oq {r:RS} {left:Int} (h:jA r left=none):r.sp=none/\r.pd≠[]/\0 < left:=by
  unfold jA at h
  split at h
  · cases h
  · rename_i e
    split at h
    · cases h
    · rename_i c
      split at h
      · cases h
      · refine ⟨e,fun z=>?_,by omega⟩
        rw [z] at c
        exact c rfl
theorem JH {r:RS} {left:Int} {s:Stp} (h:r.sp=some s):jA r left=some (.stp s):=by
  unfold jA
  rw [h]
theorem uw {Ms:List MD} {r:RS} (h:EC Ms r):(gD Ms r).1.pd.length<=r.pd.length + 5000 * (gD Ms r).2.length/\((∃ q,(gD Ms r).2=[q])\/((gD Ms r).2=[]/\∃ s,(gD Ms r).1.sp=some s)):=by
  cases h with
  | err h M s e d q eq =>
    rw [eq]
    refine ⟨?_,.inr ⟨rfl,_,rfl⟩⟩
    show r.pd.dropLast.length<=_
    rw [jE]
    omega
  | ok h M s w d q N eq =>
    rw [eq]
    refine ⟨?_,.inl ⟨_,rfl⟩⟩
    show (pF w.out r.pd.dropLast).length<=r.pd.length + 5000 * 1
    rw [(gE _ _).length_eq,aE,jE]
    obtain ⟨new,e1,e2,_⟩:=N.ex
    have e1:w.out=new:=e1
    have dz:3 * ddz 4<=5000:=by decide
    rw [e1]
    omega
def ux (Ms:List MD) (r:RS) (most:Int) (i:Nat) (e:End):Prop:=(∀ j,j < i->ROk Ms.length (itR Ms r j).1/\jA (itR Ms r j).1 (most - (itR Ms r j).2.length)=none)/\jA (itR Ms r i).1 (most - (itR Ms r i).2.length)=some e/\ROk Ms.length (itR Ms r i).1
def rMu (σ:St) (G:Hp):Nat:=match (σ[3]?:Option (Option V)),(σ[2]?:Option (Option V)) with
  | some (some .non),some (some (.ref rl))=>(match G rl with | some (.lst rs)=>1 + (2000 - rs.length) | _=>0)
  | _,_=>0
theorem AB {σ:St} {G:Hp} {rl:aa} {rs:List V} (h6:σ[3]?=some (some .non)) (h5:σ[2]?=some (some (.ref rl))) (hr:G rl=some (.lst rs)):rMu σ G=1 + (2000 - rs.length):=by
  unfold rMu
  rw [h6,h5]
  dsimp only
  rw [hr]
theorem AC {σ:St} {G:Hp} {t:aa} (h6:σ[3]?=some (some (.ref t))):rMu σ G=0:=by
  unfold rMu
  rw [h6]
theorem uo.ref {F:Hp} {v:V}:∀ {e:End},uo F v e->∃ t,v=.ref t
  | .empty,⟨t,e,_⟩=>⟨t,e⟩
  | .cut,⟨t,e,_⟩=>⟨t,e⟩
  | .stp (.fin _),⟨t,_,e,_⟩=>⟨t,e⟩
  | .stp (.flt _ _),⟨t,_,e,_⟩=>⟨t,e⟩
section
variable {P:aM} {w:bH} {K:af} {mg:Str->Option ae} {base:cB} {f fE fO CC CM CS:aa} {fd fdE fdO:bY}
seal L2.PS L2.PSs L2.PE L2.PA L2.PT L2.PW L2.PI L2.PG L2.PGs L2.PC
structure Ran (CC CS:aa) (Ms:List MD) (Hb:Hp) (ex:List aa) (co m sl pl:aa) (r:RS) (most:Int) (H G:Hp) (t:aa) (i:Nat) (e:End):Prop where
  st:ux Ms r most i e
  cc:km CC CS Ms Hb ex G co m sl pl (itR Ms r i).1
  sm:bM (Hid ex H) (Hid ex G)
  ot:Oth ex co sl pl H G
  rs:∃ rl en rvs,Hid ex G t=some (.tup [.ref rl,en])/\Hid ex G rl=some (.lst rvs)/\H rl=none/\aO (RcIn (Hid ex G)) rvs (itR Ms r i).2/\uo (Hid ex G) en e
def HQ (CC CM CS:aa):Sp:=fun vs H Q _=>∃ (Ms:List MD) (Hb:Hp) (ex:List aa) (co m sl pl:aa) (r:RS) (most:Int),vs=[.ref co,.int most]/\uq CM Ms Hb m/\km CC CS Ms Hb ex H co m sl pl r/\most<=1000/\r.pd.length<=1000000 /\
  ∀ G t i e,Ran CC CS Ms Hb ex co m sl pl r most H G t i e->Q (.ref t) G
abbrev nRn:List Str:=["course","most","records","ending","record"]
theorem ED:bV nRn ["course","most"] (aQ qx):=⟨rfl,rfl,rfl,by decide +kernel,rfl,by decide +kernel,by decide +kernel⟩
theorem JI (D:Df K mg "run_on" qx ["course","most"] f fd) (ME:Mt K CC "ending_due" "Course.ending_due" fh ["self","left"] fE fdE) (GE:bT P w K mg base CX0 1 fE fdE ["self","left"] (spEd CC CS))
    (MO:Mt K CC "do_one" "Course.do_one" gC ["self"] fO fdO) (GO:bT P w K mg base CX0 38 fO fdO ["self"] (HP CC CM CS)) (T:CoT K mg CC) (B:Bl mg) :
    bT P w K mg base CX0 39 f fd ["course","most"] (HQ CC CM CS):=by
  refine D.F.ok ED (fun vs H Q E h=>?_) (fun cdv A outer s H vs Q E hr h=>?_)
  · obtain ⟨Ms,Hb,ex,co,m,sl,pl,r,most,rfl,_⟩:=h
    rfl
  obtain ⟨Ms,Hb,ex,co,m,sl,pl,r,most,rfl,hM,c,hmost,hln,k⟩:=h
  have r1:dP 1 _:=hr.mono (by decide)
  refine ⟨_,ak (bz (i:=2) ED.nd rfl (Or.inl rfl) (eT ao))
    (ak (bz (i:=3) ED.nd rfl (Or.inl rfl) (gI (pv 0) T.cl ME.m GE r1 ME.b .nil cm (aq (pv 1) ao)))
    (ak (xC cQ (tF (Ii (pv 3)))
      (ak (bz (i:=4) ED.nd rfl (Or.inl rfl) (p9 (pv 0) T.cl MO.m GO hr MO.b .nil cm))
      (ak (cZ (tF (zR (pv 4))) (aF (dW (jr bK cg cj e7 (pv 2) (aq (pv 4) ao)))) cy)
      (aF (bz (i:=3) ED.nd rfl (Or.inl rfl) (gI (pv 0) T.cl ME.m GE r1 ME.b .nil cm (aq (cP pf (pv 1) (dA (eR K (by rfl)) (by rfl) B.len cI (aq (pv 2) ao))) ao)))))))
    (aF (bX (cR (aq (pv 2) (aq (pv 3) ao))))))),?_⟩
  have cok:∀ {G:Hp} {r':RS} {ex':List aa},km CC CS Ms Hb ex' G co m sl pl r'->∃ dx fs,G co=some (.ins CC dx fs)/\fs.lookup ("ending_due":Str)=none/\fs.lookup ("do_one":Str)=none:=fun c'=>by
    obtain ⟨dx,rv,sv,h1,_⟩:=c'.hc
    exact ⟨dx,_,h1,HN _ _ _ _ _ (by decide +kernel),HN _ _ _ _ _ (by decide +kernel)⟩
  have mo:=hM.ok
  -- no records
  refine bS (cJ ?_)
  refine ⟨bj _,fun rl hrl=>?_⟩
  refine aZ ?_
  dsimp only
  have c0:=c.more (o:=.lst []) hrl (fun xs z=>by cases z)
  have hr0:upd H rl (.lst []) rl=some (.lst []):=ah
  have f0:bM (Hid ex H) (Hid (rl :: ex) (upd H rl (.lst []))):=by
    rw [lM hrl]
    exact bM.refl _
  have ot0:Oth ex co sl pl H (upd H rl (.lst [])):=fun a _ _ _ _ o e=>aX e (aG e hrl)
  have n1:co≠rl:=by
    obtain ⟨dx,rv,sv,h1,_⟩:=c.hc
    exact aG h1 hrl
  have n2:sl≠rl:=by
    obtain ⟨ss,h1,_⟩:=c.hs
    exact aG h1 hrl
  have n3:pl≠rl:=by
    obtain ⟨ss,h1,_⟩:=c.hp
    exact aG h1 hrl
  revert c0 hr0 f0 ot0
  generalize upd H rl (.lst [])=G0
  intro c0 hr0 f0 ot0
  refine bS (cJ ?_)
  obtain ⟨dx,fs,hco,no1,no2⟩:=cok c0
  refine ⟨_,rfl,co,dx,fs,rfl,hco,no1,_,rfl,Ms,Hb,rl :: ex,co,m,sl,pl,r,most,rfl,c0,fun en G1 s1 hen=>?_⟩
  refine aZ ?_
  dsimp only
  refine bS ?_
  refine xE (fun σ G=>∃ (i:Nat) (en:V) (u4:Option V) (rvs:List V),σ=[some (.ref co),some (.int most),some (.ref rl),some en,u4]/\(∀ j,j < i->ROk Ms.length (itR Ms r j).1/\jA (itR Ms r j).1 (most - (itR Ms r j).2.length)=none)/\km CC CS Ms Hb (rl :: ex) G co m sl pl (itR Ms r i).1 /\
      G rl=some (.lst rvs)/\aO (RcIn (Hid (rl :: ex) G)) rvs (itR Ms r i).2/\bM (Hid ex H) (Hid (rl :: ex) G)/\Oth ex co sl pl H G/\(itR Ms r i).1.pd.length<=1000000 + 5000 * (itR Ms r i).2.length /\
      ((jA (itR Ms r i).1 (most - (itR Ms r i).2.length)=none/\en=.non)\/∃ e,jA (itR Ms r i).1 (most - (itR Ms r i).2.length)=some e/\uo (Hid (rl :: ex) G) en e)) rMu ?_ ?_ ?_
  · refine ⟨0,en,_,[],rfl,fun j hj=>absurd hj (jT _),c0.same s1,s1 _ _ hr0,.nil,f0.trans (gT s1),fun a ha q1 q2 q3 o e=>s1 _ _ (ot0 a ha q1 q2 q3 o e),by show r.pd.length<=_; omega,?_⟩
    have e0:most - (((itR Ms r 0).2.length:Nat):Int)=most:=by
      show most - ((0:Nat):Int)=most
      omega
    rw [e0]
    exact hen
  · clear hen
    rintro σ G ⟨i,en,u4,rvs,rfl,hj,c1,hrl1,hrv,f1,ot1,hpl,hd⟩
    have lrv:=aT hrv
    rcases hd with ⟨hd,rfl⟩ | ⟨e,hd,hen⟩
    · obtain ⟨d1,d2,d3⟩:=oq hd
      have si:=wY mo c1.ok d2
      obtain ⟨sl1,sl2⟩:=uw si
      refine ⟨_,rfl,_,rfl,gF ?_⟩
      refine bS (cJ ?_)
      obtain ⟨dx,fs,hco,no1,no2⟩:=cok c1
      refine ⟨_,rfl,co,dx,fs,rfl,hco,no2,Ms,Hb,rl :: ex,co,m,sl,pl,_,rfl,hM,c1,d1,d2,by omega,fun v G2 c2 f2 ot2 tl=>?_⟩
      refine aZ ?_
      dsimp only
      have hrl2:G2 rl=some (.lst rvs):=ot2 rl aw n1.symm n2.symm n3.symm _ hrl1
      have ot2':Oth ex co sl pl H G2:=fun a ha q1 q2 q3 o e=>ot2 a (ag _ ha) q1 q2 q3 o (ot1 a ha q1 q2 q3 o e)
      have mu1:rMu [some (.ref co),some (.int most),some (.ref rl),some .non,u4] G=1 + (2000 - rvs.length):=AB rfl rfl hrl1
      have big:2000 < aA:=by decide
      have itS:itR Ms r (i + 1)=((gD Ms (itR Ms r i).1).1,(itR Ms r i).2++(gD Ms (itR Ms r i).1).2):=rfl
      have hj':∀ j,j < i + 1->ROk Ms.length (itR Ms r j).1/\jA (itR Ms r j).1 (most - (itR Ms r j).2.length)=none:=fun j hlt=>by
        rcases kj j i with z | z
        · exact hj j z
        · have:j=i:=by omega
          rw [this]
          exact ⟨c1.ok,hd⟩
      rcases sl2 with ⟨q,eq⟩ | ⟨eq,sp,esp⟩
      · rw [eq] at tl sl1
        obtain ⟨rc,erc⟩:∃ rc,v=.ref rc:=by
          obtain ⟨rc,_,_,_,_,_,_,_,e,_⟩:=tl
          exact ⟨rc,e⟩
        subst erc
        refine bS ?_
        refine ⟨_,rfl,_,rfl,gF ?_⟩
        refine ⟨_,rfl,.inl ⟨rfl,_,SqL.of hrl2⟩,_,rfl,rl,rvs,.ref rc,rfl,rfl,hrl2,by omega,?_⟩
        have c3:=c2.upd (a:=rl) (o:=.lst (rvs++[.ref rc])) aw n1 n2 n3 (fun xs z=>by cases z)
        have hrl3:upd G2 rl (.lst (rvs++[.ref rc])) rl=some (.lst (rvs++[.ref rc])):=ah
        have f3:Hid (rl :: ex) (upd G2 rl (.lst (rvs++[.ref rc])))=Hid (rl :: ex) G2:=iT aw
        have ot3:Oth ex co sl pl H (upd G2 rl (.lst (rvs++[.ref rc]))):=fun a ha q1 q2 q3 o e=>aX (ot2' a ha q1 q2 q3 o e) (aG e hrl)
        have hrv3:aO (RcIn (Hid (rl :: ex) (upd G2 rl (.lst (rvs++[.ref rc]))))) (rvs++[.ref rc]) (itR Ms r (i + 1)).2:=by
          rw [f3,itS,eq]
          exact dR (Paired.mono (fun _ _ z=>z.same f2) hrv) tl
        have f3':bM (Hid ex H) (Hid (rl :: ex) (upd G2 rl (.lst (rvs++[.ref rc])))):=by
          rw [f3]
          exact f1.trans f2
        have c3':km CC CS Ms Hb (rl :: ex) (upd G2 rl (.lst (rvs++[.ref rc]))) co m sl pl (itR Ms r (i + 1)).1:=c3
        revert c3' hrl3 ot3 hrv3 f3'
        clear c3 f3
        generalize upd G2 rl (.lst (rvs++[.ref rc]))=G3
        intro hrl3 ot3 hrv3 f3' c3'
        have l3:=aT hrv3
        dsimp only
        refine cJ ?_
        obtain ⟨dx,fs,hco,no1,no2⟩:=cok c3'
        refine ⟨_,rfl,co,dx,fs,rfl,hco,no1,_,rfl,_,rfl,rl,_,rfl,.inl (SqL.of hrl3),_,_,rfl,rfl,Ms,Hb,rl :: ex,co,m,sl,pl,_,_,rfl,c3',fun en4 G4 s4 hen4=>?_⟩
        refine aZ ?_
        dsimp only
        refine ⟨⟨i + 1,en4,_,_,rfl,hj',c3'.same s4,s4 _ _ hrl3,Paired.mono (fun _ _ z=>z.same (gT s4)) hrv3,f3'.trans (gT s4),fun a ha q1 q2 q3 o e=>s4 _ _ (ot3 a ha q1 q2 q3 o e),?_,?_⟩,?_⟩
        · rw [itS,eq,aE]
          show (gD Ms (itR Ms r i).1).1.pd.length<=_
          show _<=1000000 + 5000 * ((itR Ms r i).2.length + 1)
          simp only [aP,cM] at sl1
          omega
        · rw [<- l3]
          exact hen4
        · rw [mu1]
          rcases hen4 with ⟨_,rfl⟩ | ⟨e,_,he⟩
          · rw [AB rfl rfl (s4 _ _ hrl3),aE]
            simp only [aP,cM]
            omega
          · obtain ⟨t,rfl⟩:=he.ref
            rw [AC rfl]
            omega
      · rw [eq] at tl sl1
        have tl:v=.non:=tl
        subst tl
        refine bS ?_
        refine ⟨_,rfl,_,rfl,fV (zI ?_)⟩
        dsimp only
        have c3':km CC CS Ms Hb (rl :: ex) G2 co m sl pl (itR Ms r (i + 1)).1:=c2
        have hrv3:aO (RcIn (Hid (rl :: ex) G2)) rvs (itR Ms r (i + 1)).2:=by
          rw [itS,eq,dC]
          exact Paired.mono (fun _ _ z=>z.same f2) hrv
        have l3:=aT hrv3
        refine cJ ?_
        obtain ⟨dx,fs,hco,no1,no2⟩:=cok c3'
        refine ⟨_,rfl,co,dx,fs,rfl,hco,no1,_,rfl,_,rfl,rl,_,rfl,.inl (SqL.of hrl2),_,_,rfl,rfl,Ms,Hb,rl :: ex,co,m,sl,pl,_,_,rfl,c3',fun en4 G4 s4 hen4=>?_⟩
        refine aZ ?_
        dsimp only
        have hen5:∃ e,jA (itR Ms r (i + 1)).1 (most - (rvs.length:Int))=some e/\uo (Hid (rl :: ex) G4) en4 e:=by
          rcases hen4 with ⟨z,_⟩ | z
          · have y:jA (itR Ms r (i + 1)).1 (most - (rvs.length:Int))=some (.stp sp):=JH esp
            rw [y] at z
            cases z
          · exact z
        refine ⟨⟨i + 1,en4,_,_,rfl,hj',c3'.same s4,s4 _ _ hrl2,Paired.mono (fun _ _ z=>z.same (gT s4)) hrv3,(f1.trans f2).trans (gT s4),fun a ha q1 q2 q3 o e=>s4 _ _ (ot2' a ha q1 q2 q3 o e),?_,?_⟩,?_⟩
        · rw [itS,eq,dC]
          show (gD Ms (itR Ms r i).1).1.pd.length<=1000000 + 5000 * (itR Ms r i).2.length
          simp only [cM] at sl1
          omega
        · rw [<- l3]
          exact .inr hen5
        · rw [mu1]
          obtain ⟨e,_,he⟩:=hen5
          obtain ⟨t,rfl⟩:=he.ref
          rw [AC rfl]
          omega
    · obtain ⟨t0,rfl⟩:=hen.ref
      refine ⟨_,rfl,_,rfl,fV ?_⟩
      dsimp only
      refine gK ?_
      refine ⟨_,rfl,_,rfl,lt2,fun t ht=>?_⟩
      have st_:=aD ht (.tup [.ref rl,.ref t0])
      have f5:bM (Hid (rl :: ex) G) (Hid ex (upd G t (.tup [.ref rl,.ref t0]))):=(gT st_).trans yn
      have nrl:rl∉ex:=fun z=>by
        obtain ⟨o,e,_⟩:=c.nt rl z
        rw [hrl] at e
        cases e
      have nt5:∀ a∈ex,∃ o,upd G t (.tup [.ref rl,.ref t0]) a=some o/\∀ xs,o≠.tup xs:=fun a ha=>by
        obtain ⟨o,e,n⟩:=c1.nt a (ag _ ha)
        exact ⟨o,st_ _ _ e,n⟩
      exact k _ t i e ⟨⟨hj,hd,c1.ok⟩,(c1.same st_).less n1 n2 n3,f1.trans f5,fun a ha q1 q2 q3 o e=>st_ _ _ (ot1 a ha q1 q2 q3 o e),rl,_,rvs,gL nt5 ah,by rw [iS nrl]; exact st_ _ _ hrl1,hrl,Paired.mono (fun _ _ z=>z.same f5) hrv,hen.same f5⟩
  · rintro σ G4 Q1 Q2 hq ⟨x,hx,c,ec,z⟩
    exact ⟨x,hx,c,ec,hq _ _ z⟩
end
end My
namespace My
open PySem L2
def st0 (M:MD):Sta:=⟨M.ps,M.qs.map fun q=>(q,[]),0,0⟩
def rE (es:List Ev):List Ev:=es.mapIdx fun i e=>atP e i
def zJ (Ms:List MD) (es:List Ev):RS:=⟨Ms.map st0,pF (rE es) [],none,none⟩
theorem kO {α β:Type} {R:α->β->Prop}:∀ {xs:List α} {ys:List β},xs.length=ys.length->(∀ (i:Nat) x y,xs[i]?=some x->ys[i]?=some y->R x y)->aO R xs ys
  | [],[],_,_=>.nil
  | [],_ :: _,l,_=>by cases l
  | _ :: _,[],l,_=>by cases l
  | x :: xs,y :: ys,l,h=>.cons (h 0 x y rfl rfl) (kO (by simpa using l) fun i a b ha hb=>h (i + 1) a b (by simpa using ha) (by simpa using hb))
theorem uy (es:List Ev):(rE es).length=es.length:=List.length_mapIdx
theorem qC {es:List Ev} {i:Nat} {x:Ev} (h:(rE es)[i]?=some x):∃ e,es[i]?=some e/\x=atP e i:=by
  unfold rE at h
  rw [List.getElem?_mapIdx] at h
  cases z:es[i]? with
  | none =>
    rw [z] at h
    cases h
  | some e =>
    rw [z] at h
    cases h
    exact ⟨e,rfl,rfl⟩
theorem AD (es:List Ev):(rE es).Pairwise (fun a b=>a.key≠b.key):=by
  refine cY.mpr fun i j hi hj lt=>?_
  obtain ⟨e,_,h1⟩:=qC (es:=es) (i:=i) (x:=(rE es)[i]) (ax hi)
  obtain ⟨e',_,h2⟩:=qC (es:=es) (i:=j) (x:=(rE es)[j]) (ax hj)
  rw [h1,h2]
  refine uk (.inr ?_)
  show (i:Int)≠(j:Int)
  omega
theorem AE {Ms:List MD} {es:List Ev} (h:∀ e∈es,zE Ms.length e):ROk Ms.length (zJ Ms es):=by
  refine ⟨ar _,oP List.Pairwise.nil (fun x _ y hy=>by cases hy) (AD es),fun e he=>?_,fun e he=>?_⟩
  · rcases cq.mp ((gE _ _).mem_iff.mp he) with z | z
    · obtain ⟨i,hi⟩:=dU z
      obtain ⟨e',h',rfl⟩:=qC hi
      obtain ⟨a,b,c,d,f⟩:=h e' (cw h')
      exact ⟨a,b,c,d,f⟩
    · cases z
  · rcases cq.mp ((gE _ _).mem_iff.mp he) with z | z
    · obtain ⟨i,hi⟩:=dU z
      obtain ⟨e',h',rfl⟩:=qC hi
      exact .inl rfl
    · cases z
theorem New.sta {H H':Hp} {CS st dx bd qd:aa} {ls:List aa} {M:MD} (N:New H H' CS st M.ps M.qs dx bd qd ls) (nb:(M.ps.map (·.1)).Nodup) (nq:M.qs.Nodup):StA CS H' st (st0 M):=by
  have inj:∀ xs:List Str,xs.Nodup->(xs.map (Sum.inr:Str->Key)).Nodup:=fun xs h=>List.Pairwise.map _ (fun a b z y=>z (jm y)) h
  refine ⟨dx,bd,qd,M.qs.zip ls,N.hst,?_,?_,?_⟩
  · have z:H' bd=some (.dK (o8 (boK M.ps) [])):=N.hbd
    have e:o8 (boK M.ps) []=boK M.ps:=by
      rw [zu]
      · exact oy _
      · rw [oy]
        unfold boK
        rw [dX]
        have:=inj _ nb
        rw [dX] at this
        exact this
    rw [e] at z
    exact z
  · have z:H' qd=some (.dK (o8 (quK (M.qs.zip ls)) [])):=N.hqd
    have e:o8 (quK (M.qs.zip ls)) []=quK (M.qs.zip ls):=by
      rw [zu]
      · exact oy _
      · rw [oy]
        unfold quK
        rw [dX]
        have e1:(M.qs.zip ls).map ((fun x:Key×V=>x.1) ∘ fun p:Str×aa=>((Sum.inr p.1:Key),V.ref p.2))=((M.qs.zip ls).map (·.1)).map (Sum.inr:Str->Key):=by
          rw [dX]
          rfl
        rw [e1,List.map_fst_zip (by rw [N.len]; exact aC _)]
        exact inj _ nq
    rw [e] at z
    exact z
  · refine kO ?_ fun i x y hx hy=>?_
    · show _=((M.qs.map fun q=>(q,([]:List Int)))).length
      rw [oh,ar,N.len,Nat.min_self]
    · have hx:=wG.mp hx
      have hy:(M.qs.map fun q=>(q,([]:List Int)))[i]?=some y:=hy
      rw [bQ,hx.1] at hy
      cases hy
      exact ⟨rfl,(N.li _ (cw hx.2)).2⟩
theorem MoI.wk0 {m:Int} {H:Hp} {v:V} {M:MD} (h:MoI m H v M):oX M.bs M.qs (st0 M).w:=by
  have w1:(10:Int) ^ 15=1000000000000000:=by decide
  refine ⟨h.kb,?_,h.nb,h.nq,fun p hp=>?_,fun p hp=>?_,i0,(fun x hx=>by cases hx),i0,(fun x hx=>by cases hx),(fun x hx=>by cases hx),?_⟩
  · show (M.qs.map fun q=>(q,([]:List Int))).map (·.1)=_
    rw [dX]
    exact List.map_id _
  · exact h.wb p hp
  · obtain ⟨q,_,rfl⟩:=cL.mp hp
    exact ⟨bj _,fun n hn=>by cases hn⟩
  · rw [aE]
    have:=h.lb
    have:=h.lq
    omega
theorem EE {H G:Hp} {ex:List aa} (s:bM H G) (n:∀ a∈ex,H a=none):bM H (Hid ex G):=fun a o e=>by
  rw [iS fun z=>by
    rw [n a z] at e
    cases e]
  exact s _ _ e
section
variable {P:aM} {w:bH} {K:af} {mg:Str->Option ae} {base:cB} {f fI fF fPf fA fR fBk CC CM CS CB:aa} {fd fdI fdF fdPf fdA fdR fdBk:bY}
seal L2.PS L2.PSs L2.PE L2.PA L2.PT L2.PW L2.PI L2.PG L2.PGs L2.PC
def spCI (CC:aa):Sp:=fun vs H Q _=>∃ (b dx:aa) (m s p:V),vs=[.ref b,m,s,p]/\H b=some (.ins CC dx [])/\∀ G,G b=some (.ins CC dx (iX m s p .non .non))->But b H G->Q .non G
theorem scCI:bV ["self","model","states","pending"] ["self","model","states","pending"] (aQ kL):=⟨rfl,rfl,rfl,by decide +kernel,rfl,by decide +kernel,by decide +kernel⟩
theorem ok_ci (F:Fun K "__init__" "Course.__init__" kL f fd) (T:CoT K mg CC):bT P w K mg base CX0 1 f fd ["self","model","states","pending"] (spCI CC):=by
  refine F.ok scCI (fun vs H Q E h=>?_) (fun cdv A outer s H vs Q E hr h=>?_)
  · obtain ⟨b,dx,m,s',p,rfl,_⟩:=h
    rfl
  obtain ⟨b,dx,m,s',p,rfl,hb,k⟩:=h
  refine ⟨_,ak (e9 (pv 0) (pv 1) rfl) (ak (e9 (pv 0) (pv 2) rfl) (ak (e9 (pv 0) (pv 3) rfl) (ak (e9 (pv 0) vS rfl) (aF (e9 (pv 0) vS rfl))))),?_⟩
  have l1:=gx "model" m []
  have l2:=gx "states" s' (dh "model" m [])
  have l3:=gx "pending" p (dh "states" s' (dh "model" m []))
  have l4:=gx "reached" .non (dh "pending" p (dh "states" s' (dh "model" m [])))
  simp only [cM] at l1
  refine ⟨_,rfl,_,rfl,b,CC,dx,[],rfl,hb,T.cl,T.nM,(by show 0 < 1000; decide),_,rfl,_,rfl,b,CC,dx,_,rfl,ah,T.cl,T.nS,(by omega),_,rfl,_,rfl,b,CC,dx,_,rfl,ah,T.cl,T.nP,(by omega),?_⟩
  refine ⟨_,rfl,b,CC,dx,_,rfl,ah,T.cl,T.nR,(by omega),_,rfl,b,CC,dx,_,rfl,ah,T.cl,T.nE,(by omega),?_⟩
  rw [JC]
  exact k _ ah (((((But.upd b H _).trans (But.upd b _ _)).trans (But.upd b _ _)).trans (But.upd b _ _)).trans (But.upd b _ _))
def HR (CC CM CS:aa):Sp:=fun vs H Q _=>∃ (Ms:List MD) (m sgl:aa) (svs:List V) (es:List Ev),vs=[.ref m,.ref sgl]/\uq CM Ms H m/\Ms.length < 1000/\H sgl=some (.lst svs)/\aO (wV H) svs es/\es.length < 64/\(∀ e∈es,zE Ms.length e) /\
  ∀ (G:Hp) (co sl pl:aa),km CC CS Ms H [co,sl,pl] G co m sl pl (zJ Ms es)->Q (.ref co) G
abbrev nCa:List Str:=["model","signs","states"]
theorem scCa:bV nCa ["model","signs"] (aQ gs):=⟨rfl,rfl,rfl,by decide +kernel,rfl,by decide +kernel,by decide +kernel⟩
theorem ndCa:((["at"]:List Str)++nCa).Nodup:=by decide +kernel
theorem JJ (D:Df K mg "course_at_first" gs ["model","signs"] f fd) (DF:Df K mg "first_state" ji ["model","at"] fF fdF) (GF:bT P w K mg base CX0 3 fF fdF ["model","at"] (yc CM CS)) (DPf:Df K mg "pending_at_first" fX ["signs"] fPf fdPf) (GPf:bT P w K mg base CX0 1 fPf fdPf ["signs"] HK)
    (MC:Mk K CC fI) (bI:Binds K fdI ["self","model","states","pending"] []) (GI:bT P w K mg base CX0 1 fI fdI ["self","model","states","pending"] (spCI CC)) (T:CoT K mg CC) (TM:MdT K mg CM CS) (B:Bl mg) (BS:mg "sorted"=none) :
    bT P w K mg base CX0 4 f fd ["model","signs"] (HR CC CM CS):=by
  refine D.F.ok scCa (fun vs H Q E h=>?_) (fun cdv A outer s H vs Q E hr h=>?_)
  · obtain ⟨Ms,m,sgl,svs,es,rfl,_⟩:=h
    rfl
  obtain ⟨Ms,m,sgl,svs,es,rfl,hM,hlen,hsg,hsv,hes,heo,k⟩:=h
  have hu:=o5 hr
  have h50:=Da hr
  have h5:=iO (BQ (by decide:5<=50) _) h50
  have r1:dP 1 _:=hr.mono (by decide)
  have r2:dP 2 _:=hr.mono (by decide)
  have r3:dP 3 _:=hr.mono (by decide)
  refine ⟨_,ak (qj (i:=2) ["at"] (ia.open (NN:=nCa) (N:=nCa) (sc:=aQ gs) rfl rfl (by decide +kernel) rfl (by decide +kernel) (by decide +kernel) rfl (by decide +kernel)) rfl scCa.nd rfl (Or.inl rfl) (iB (by rfl) B.range (aq (dA (eR K (by rfl)) (by rfl) B.len cI (aq (fu K (by rfl) (pv 0) (by rfl)) ao)) ao)) (fun _ _ _ _=>dy (i:=0) ndCa rfl (Or.inl rfl)) (fun _ _ _ _=>jI)
      (fun _ _ _ _=>aS GF r3 (by rfl) DF.m DF.F.kp DF.b .nil cm (aq (pv 1) (aq (pv 0) ao))))
    (aF (bX (oF MC GI r2 (by rfl) T.m bI .nil cm (aq (pv 0) (aq (pv 2) (aq (Dw h5 (by rfl) BS (aq (aS GPf r1 (by rfl) DPf.m DPf.F.kp DPf.b .nil cm (aq (pv 1) ao)) ao) jN) ao)))))),?_⟩
  obtain ⟨dxm,ml,fs,hm,hfs,xs,hml,hxs⟩:=id hM
  have lxs:xs.length=Ms.length:=aT hxs
  have big:=eU
  refine bS (cJ ?_)
  refine Bu (K:=K) (ms:=xs) rfl hm TM.clM TM.nM hfs hml (by omega) (fun i ys G=>∃ ss:List aa,ys=ss.map V.ref/\bM H G/\aO (StA CS G) ss ((Ms.take i).map st0)) ⟨[],rfl,bM.refl _,by rw [kE]; exact .nil⟩ ?_ ?_ ?_
  · rintro i ys G hi ⟨ss,rfl,s1,p1⟩
    have:=aT p1
    rw [ar,cG] at this
    rw [ar]
    omega
  · rintro i ys G hi ⟨ss,rfl,s1,p1⟩
    obtain ⟨Mi,hMi⟩:∃ M,Ms[i]?=some M:=⟨_,ax (by omega)⟩
    obtain ⟨x,hx,mo⟩:=jf hxs hMi
    obtain ⟨t,bl,ql,n0,x3,x4,vb,rfl,g1,g2,g3,g4⟩:=mo.fs
    refine ⟨rfl,?_⟩
    unfold uP
    refine gF ?_
    have lb:Mi.ps.length<=100:=by
      have e:=congrArg jD mo.kb
      rw [ar] at e
      have:=mo.lb
      omega
    have lq:Mi.qs.length<=100:=by
      have:=mo.lq
      omega
    refine ⟨_,rfl,_,rfl,m,dxm,ml,t,bl,ql,fs,n0,x3,x4,i,xs,vb,Mi.ps,Mi.qs,by rw [Int.zero_add]; rfl,s1 _ _ hm,hfs,s1 _ _ hml,hx,s1 _ _ g1,s1 _ _ g2,g3.same s1,lb,s1 _ _ g4,lq,fun st dx bd qd ls G' N=>?_⟩
    refine ⟨ss++[st],by rw [cA]; rfl,s1.trans N.same,?_⟩
    rw [fi,hMi,cA]
    exact dR (Paired.mono (fun _ _ z=>kN.same' N.same z) p1) (N.sta (by rw [mo.kb]; exact mo.nb) mo.nq)
  rintro ys G ⟨ss,rfl,s1,p1⟩
  rw [lxs,dG] at p1
  intro sl hsl
  have ssl:=aD hsl (.lst (ss.map V.ref))
  refine aZ ?_
  dsimp only
  refine gK (zA ?_)
  have fsl:=none_of s1 hsl
  refine ⟨_,rfl,_,rfl,_,rfl,sgl,svs,es,rfl,ssl _ _ (s1 _ _ hsg),Paired.mono (fun _ _ z=>(z.same s1).same ssl) hsv,by omega,fun G1 l0 ys sm1 fl0 hl0 ly hy=>?_⟩
  have hys:aO (gH G1) ys (rE es):=kO (by rw [uy]; exact ly) fun i y e hy' he=>by
    obtain ⟨e',h',rfl⟩:=qC he
    exact hy i y e' hy' h'
  obtain ⟨z1,z2,z3⟩:=uv hys
  refine ⟨l0,(ys.zip (rE es)).map fun u=>(u.1,u.2.key),rfl,?_,fun z hz=>?_,?_,?_,fun pl zs' hpl pm fz=>?_⟩
  · rw [dX]
    have:((fun x:V×List Int=>x.1) ∘ fun u:V×Ev=>(u.1,u.2.key))=(fun u:V×Ev=>u.1):=rfl
    rw [this,z1]
    exact hl0
  · obtain ⟨u,hu,rfl⟩:=cL.mp hz
    exact zH (z3 u hu)
  · rw [dX]
    have:((fun x:V×List Int=>x.2) ∘ fun u:V×Ev=>(u.1,u.2.key))=Ev.key ∘ (fun u:V×Ev=>u.2):=rfl
    rw [this,<- dX,z2]
    exact i9.mpr (AD es)
  · rw [ar,oh,uy]
    omega
  obtain ⟨ps,eps,hps⟩:=vJ (F:=G1) (us:=ys.zip (rE es)) (es:=pF (rE es) []) (zs:=zs') z3 pm fz (by
    rw [z2]
    have:=gE (rE es) []
    rw [dC] at this
    exact this.symm) (AE heo).fall
  rw [eps]
  have spl:=aD hpl (.lst ps)
  have hsl1:=sm1 _ _ (ah:upd G sl (.lst (ss.map V.ref)) sl=_)
  have nsp:sl≠pl:=aG hsl1 hpl
  intro co dxc hco hdx ndx
  have hslG:=spl _ _ hsl1
  have hplG:upd G1 pl (.lst ps) pl=some (.lst ps):=ah
  have nsc:sl≠co:=aG hslG hco
  have npc:pl≠co:=aG hplG hco
  have sA:bM H (upd G1 pl (.lst ps)):=(s1.trans (ssl.trans sm1)).trans spl
  refine ⟨co,dxc,_,_,_,rfl,ah,fun G' hG' but=>⟨rfl,?_⟩⟩
  have sB:bM (upd G1 pl (.lst ps)) G':=fun a o e=>but _ _ (aX (aX e (aG e hdx)) (aG e hco)) (aG e hco)
  have fco:H co=none:=none_of sA hco
  have fpl:H pl=none:=none_of (s1.trans (ssl.trans sm1)) hpl
  have fG:∀ a∈[co,sl,pl],G a=none:=fun a ha=>by
    simp only [au,aR,or_false] at ha
    rcases ha with rfl | rfl | rfl
    · exact none_of ((ssl.trans sm1).trans spl) hco
    · exact hsl
    · exact none_of (ssl.trans sm1) hpl
  have sG:bM G (Hid [co,sl,pl] G'):=EE (((ssl.trans sm1).trans spl).trans sB) fG
  have ntt:∀ a∈[co,sl,pl],∃ o,G' a=some o/\∀ xs,o≠.tup xs:=fun a ha=>by
    simp only [au,aR,or_false] at ha
    rcases ha with rfl | rfl | rfl
    · exact ⟨_,hG',fun xs z=>by cases z⟩
    · exact ⟨_,sB _ _ hslG,fun xs z=>by cases z⟩
    · exact ⟨_,sB _ _ hplG,fun xs z=>by cases z⟩
  refine k G' co sl pl ⟨AE heo,s1.trans sG,by simp,by simp,by simp,nsc.symm,npc.symm,nsp,⟨dxc,_,_,hG',rfl,rfl⟩,⟨ss,sB _ _ hslG,Paired.mono (fun _ _ z=>kN.same' sG z) p1⟩,⟨ps,sB _ _ hplG,Paired.mono (fun _ _ z=>gH.hid ntt (z.same (spl.trans sB))) hps⟩,fun i M s hi hs=>?_,ntt⟩
  have hs:(Ms.map st0)[i]?=some s:=hs
  rw [bQ,hi] at hs
  cases hs
  obtain ⟨x,_,mo⟩:=jf hxs hi
  exact mo.wk0
structure JK (CB CS:aa) (G:Hp) (b:aa) (q:RS×List Rec) (e:End):Prop where
  ex:∃ (dx rl sl:aa) (en:V) (rvs:List V) (ss:List aa),G b=some (.ins CB dx (Bv (.ref rl) en (.ref sl)))/\G rl=some (.lst rvs)/\aO (RcIn G) rvs q.2/\uo G en e/\G sl=some (.lst (ss.map V.ref))/\aO (StA CS G) ss q.1.sts
def oz (CM CS CB:aa):Sp:=fun vs H Q _=>∃ (Ms:List MD) (m sgl:aa) (svs:List V) (es:List Ev) (most:Int),vs=[.ref m,.ref sgl,.int most]/\uq CM Ms H m/\Ms.length < 1000/\H sgl=some (.lst svs)/\aO (wV H) svs es/\es.length < 64/\(∀ e∈es,zE Ms.length e)/\most<=1000 /\
  ∀ (G:Hp) (b:aa) (i:Nat) (e:End),bM H G->ux Ms (zJ Ms es) most i e->JK CB CS G b (itR Ms (zJ Ms es) i) e->Q (.ref b) G
theorem JL:bV ["model","signs","most","course","told"] ["model","signs","most"] (aQ oJ):=⟨rfl,rfl,rfl,by decide +kernel,rfl,by decide +kernel,by decide +kernel⟩
theorem JM (D:Df K mg "plain" oJ ["model","signs","most"] f fd) (DA:Df K mg "course_at_first" gs ["model","signs"] fA fdA) (GA:bT P w K mg base CX0 4 fA fdA ["model","signs"] (HR CC CM CS)) (DR:Df K mg "run_on" qx ["course","most"] fR fdR) (GR:bT P w K mg base CX0 39 fR fdR ["course","most"] (HQ CC CM CS))
    (MB:Mk K CB fBk) (bB:Binds K fdBk ["self","records","ending","states"] []) (GB:bT P w K mg base CX0 1 fBk fdBk ["self","records","ending","states"] (spBk CB)) (TB:BkT K mg CB) (T:CoT K mg CC) :
    bT P w K mg base CX0 40 f fd ["model","signs","most"] (oz CM CS CB):=by
  refine D.F.ok JL (fun vs H Q E h=>?_) (fun cdv A outer s H vs Q E hr h=>?_)
  · obtain ⟨Ms,m,sgl,svs,es,most,rfl,_⟩:=h
    rfl
  obtain ⟨Ms,m,sgl,svs,es,most,rfl,hM,hlen,hsg,hsv,hes,heo,hmost,k⟩:=h
  have r2:dP 2 _:=hr.mono (by decide)
  have r4:dP 4 _:=hr.mono (by decide)
  refine ⟨_,ak (bz (i:=3) JL.nd rfl (Or.inl rfl) (aS GA r4 (by rfl) DA.m DA.F.kp DA.b .nil cm (aq (pv 0) (aq (pv 1) ao))))
    (ak (bz (i:=4) JL.nd rfl (Or.inl rfl) (aS GR hr (by rfl) DR.m DR.F.kp DR.b .nil cm (aq (pv 3) (aq (pv 2) ao))))
    (aF (bX (oF MB GB r2 (by rfl) TB.m bB .nil cm (aq (bZ cF (pv 4) ay (fun _ _=>rfl)) (aq (bZ cF (pv 4) ay (fun _ _=>rfl)) (aq (cN (pv 3) rfl) ao))))))),?_⟩
  refine bS (cJ ?_)
  refine ⟨_,rfl,_,rfl,Ms,m,sgl,svs,es,rfl,hM,hlen,hsg,hsv,hes,heo,fun G co sl pl c=>?_⟩
  refine aZ ?_
  dsimp only
  refine bS (cJ ?_)
  refine ⟨_,rfl,_,rfl,Ms,H,[co,sl,pl],co,m,sl,pl,_,most,rfl,hM,c,hmost,?_,fun G2 t i e R=>?_⟩
  · show (pF (rE es) []).length<=1000000
    rw [(gE _ _).length_eq,dC,uy]
    omega
  refine aZ ?_
  dsimp only
  obtain ⟨rl,en,rvs,h1,h2,_,h3,h4⟩:=R.rs
  obtain ⟨dx,rv,sv,h5,_⟩:=R.cc.hc
  obtain ⟨ss,h6,h7⟩:=R.cc.hs
  have hl:bM (Hid [co,sl,pl] G2) G2:=mj
  refine gK (zA ?_)
  refine ⟨_,rfl,t,_,_,_,rfl,rfl,SqT.of (hl _ _ h1),rfl,_,rfl,t,_,_,_,rfl,rfl,SqT.of (hl _ _ h1),rfl,_,rfl,co,CC,dx,_,_,rfl,h5,T.cl,T.nS,Jz _ _ _ _ _,fun b dxb hb hdx nb=>⟨b,dxb,_,_,_,rfl,ah,fun G' hG' but=>⟨rfl,?_⟩⟩⟩
  have sgb:bM G2 G':=fun a o e=>but _ _ (aX (aX e (aG e hdx)) (aG e hb)) (aG e hb)
  have sl2:=hl.trans sgb
  exact k G' b i e ((R.cc.sm.trans hl).trans sgb) R.st ⟨dxb,rl,sl,en,rvs,ss,hG',sl2 _ _ h2,Paired.mono (fun _ _ z=>z.same sl2) h3,h4.same sl2,sgb _ _ h6,Paired.mono (fun _ _ z=>kN.same' sl2 z) h7⟩
end
end My
namespace My
open PySem L2
section
variable {X:Cx} {es:List cX} {te:TE} {t:TA}
theorem uz {es':List cX} {k:Nat} {p:Pos} {env:Env}:cH (.Tuple es' k p :: es) env=(false,eW (.Tuple es' k p) env) :: cH es env:=by rfl
theorem ic {es':List cX} {k:Nat} {p:Pos} (ha:PE X (.Tuple es' k p) te) (hr:PA X es t):PA X (.Tuple es' k p :: es) (mE te t):=aq ha hr (by rfl)
theorem dB {c:Const} {k:Nat} {p:Pos} (ha:PE X (.Constant c k p) te) (hr:PA X es t):PA X (.Constant c k p :: es) (mE te t):=aq ha hr (by rfl)
theorem bN {x:Str} {p:Pos} (ha:PE X (.Name x p) te) (hr:PA X es t):PA X (.Name x p :: es) (mE te t):=aq ha hr (by rfl)
theorem kP {g:cX} {as:List cX} {ks:List Kn} {p:Pos} (ha:PE X (.Call g as ks p) te) (hr:PA X es t):PA X (.Call g as ks p :: es) (mE te t):=aq ha hr (by rfl)
theorem EF {a b:cX} {p:Pos} (ha:PE X (.Subscript a b p) te) (hr:PA X es t):PA X (.Subscript a b p :: es) (mE te t):=aq ha hr (by rfl)
theorem jJ {a b:cX} {o:E2} {p:Pos} (ha:PE X (.BinOp a o b p) te) (hr:PA X es t):PA X (.BinOp a o b p :: es) (mE te t):=aq ha hr (by rfl)
end
theorem HS {t:L2.TT} {a b:TS} {D:jM} {σ:St} {H:Hp} (h:t σ H fun c H1=>if c=true then a D σ H1 else b D σ H1):B9 t a b D σ H:=h
theorem mr {D:jM} {σ:St} {H:Hp} (h:D.nx σ H):m8 D σ H:=h
def Det (t:L2.TT) (σ:St) (H:Hp) (b:Bool):Prop:=∀ Q:Bool->Hp->Prop,Q b H->t σ H Q
theorem Det.or {tA tB:L2.TT} {σ:St} {H:Hp} {x y:Bool} (a:Det tA σ H x) (b:x=false->Det tB σ H y):Det (tOr tA tB) σ H (x || y):=fun Q q=>a _ (by
  cases x with
  | true=>exact gF q
  | false=>exact fV (b rfl Q q))
theorem oA {t:L2.TT} {a b:TS} {D:jM} {σ:St} {H:Hp} {c:Bool} (h:Det t σ H c) (k1:c=true->a D σ H) (k2:c=false->b D σ H):B9 t a b D σ H:=h _ (by
  cases c with
  | true=>exact gF (k1 rfl)
  | false=>exact fV (k2 rfl))
theorem uA {i:Nat} {w k:Int} {σ:St} {H:Hp} (hv:σ[i]?=some (some (.int w))):Det (vc (tOp rEq (tE i) (tC (.int k)))) σ H (decide (w=k)):=fun Q q=>⟨_,hv,rfl,_,rfl,by
  rw [show decide (V.int w=V.int k)=decide (w=k) from by
    by_cases c:w=k
    · subst c
      rw [decide_eq_true rfl,decide_eq_true rfl]
    · rw [decide_eq_false c,decide_eq_false (fun z=>c (by cases z; rfl))]]
  exact q⟩
theorem zK {i:Nat} {w k:Int} {σ:St} {H:Hp} (hv:σ[i]?=some (some (.int w))):Det (vc (tOp (rI0 fun i j=>.bl (decide (i < j))) (tE i) (tC (.int k)))) σ H (decide (w < k)):=fun Q q=>⟨_,hv,_,_,rfl,rfl,_,rfl,q⟩
theorem JN {i:Nat} {w k:Int} {σ:St} {H:Hp} (hv:σ[i]?=some (some (.int w))):Det (vc (tOp (rI0 fun i j=>.bl (decide (j < i))) (tE i) (tC (.int k)))) σ H (decide (k < w)):=fun Q q=>⟨_,hv,_,_,rfl,rfl,_,rfl,q⟩
end My
namespace My
open PySem L2
def abc:Str:="abcdefghijklmnopqrstuvwxyz"
theorem AF:abc.cps.toList.length=26:=by decide +kernel
theorem vK:abc.length<=aA:=by decide +kernel
theorem JO {z:Int} (h0:0<=z) (h1:z < 26):∃ c,atI abc.cps.toList z=some c:=by
  obtain ⟨j,rfl⟩:∃ j:Nat,z=(j:Int):=⟨z.toNat,by omega⟩
  have l:j < abc.cps.toList.length:=by rw [AF]; omega
  exact ⟨abc.cps.toList[j],jh (ax l)⟩
section
variable {P:aM} {w:bH} {K:af} {mg:Str->Option ae} {base:cB} {f fT fW:aa} {fd fdT fdW:bY}
seal L2.PS L2.PSs L2.PE L2.PA L2.PT L2.PW L2.PI L2.PG L2.PGs L2.PC
def eK (H:Hp) (p:aa):Prop:=∃ x y:Int,H p=some (.lst [.int x,.int y])
theorem eK.same {H H':Hp} {p:aa} (a:eK H p) (b:bM H H'):eK H' p:=by
  obtain ⟨x,y,e⟩:=a
  exact ⟨x,y,b _ _ e⟩
theorem rF (x:Int):-(2 ^ 64) < x % 2147483629/\x % 2147483629 < 2 ^ 64:=by
  have h1:=gN x (show (2147483629:Int)≠0 by decide)
  have h2:=gf x (show (0:Int) < 2147483629 by decide)
  omega
theorem vL {n:Nat} {ti:TE} {g:TG} {tc:L2.TT} {te:TE} {σ:St} {H:Hp} {Q:VK} (P:Nat->Hp->Prop) (hi:∀ R:VK,(∀ (m:Nat) (H1:Hp),P m H1->R (.int m) H1)->ti σ H R) (hb:∀ m H1,P m H1->m < 1000) (Pv:Nat->Hp->Nat->List V->Hp->Prop) (h0:∀ m H1,P m H1->Pv m H1 0 [] H1) (hl:∀ m H1,P m H1->∀ i ys H,i<=m->Pv m H1 i ys H->ys.length < aA)
    (hs:∀ m H1,P m H1->∀ i ys H,i < m->Pv m H1 i ys H->g (.int (0 + i)) (cC n none++σ) H fun σ2 H2=>σ2.drop n=σ/\tc σ2 H2 fun b H3=>if b=true then te σ2 H3 fun y H4=>Pv m H1 (i + 1) (ys++[y]) H4 else Pv m H1 (i + 1) ys H3)
    (hd:∀ m H1,P m H1->∀ ys H,Pv m H1 m ys H->∀ p,H p=none->Q (.ref p) (upd H p (.lst ys))):rP n (Cf (mE ti xI)) g tc te σ H Q:=
  hi _ fun m H1 p=>⟨(m:Int),rfl,by have:=hb m H1 p; omega,by have:=hb m H1 p; omega,by
    rw [sI]
    exact Dx (Pv m H1) (h0 m H1 p) (hl m H1 p) (hs m H1 p) (hd m H1 p)⟩
theorem pH {p:aa} {G:Hp} {a:aa} (h:eK G p) (n:G a=none):a≠p:=by
  obtain ⟨x,y,e⟩:=h
  exact (aG e n).symm
theorem oQ {p:aa} {G:Hp} (h:eK G p) {a:aa} {o:HO} (n:a≠p):eK (upd G a o) p:=by
  obtain ⟨x,y,e⟩:=h
  exact ⟨x,y,by rw [aJ n.symm]; exact e⟩
theorem uB {K:af} {n:Nat} {ti:TE} {g:TG} {tc:L2.TT} {te:TE} {σ:St} {H:Hp} {Q:VK} {a:aa} {xs:List V} (hi:∀ R:VK,R (.ref a) H->ti σ H R) (hx:SqL K H a xs) (Pv:Nat->List V->Hp->Prop) (h0:Pv 0 [] H) (hl:∀ i ys H,i<=xs.length->Pv i ys H->SqL K H a xs/\ys.length < aA)
    (hs:∀ i x ys H,xs[i]?=some x->Pv i ys H->g x (cC n none++σ) H fun σ2 H2=>σ2.drop n=σ/\tc σ2 H2 fun b H3=>if b=true then te σ2 H3 fun y H4=>Pv (i + 1) (ys++[y]) H4 else Pv (i + 1) ys H3)
    (hd:∀ ys H,Pv xs.length ys H->∀ p,H p=none->Q (.ref p) (upd H p (.lst ys))):rP n (Cd K ti) g tc te σ H Q:=
  hi _ ⟨a,rfl,⟨xs,hx⟩,qZ Pv h0 hl hs hd⟩
theorem Gw {xs:List V} {lo hi:Option Int} {v:V} (h:v∈j8 xs lo hi):v∈xs:=by
  unfold j8 at h
  exact List.mem_of_mem_drop (AA h)
theorem JP {xs:List V} (h:xs≠[]) (z:Int):∃ v,atI xs (z % (xs.length:Int))=some v/\v∈xs:=by
  have hl:0 < xs.length:=pS.mpr h
  have h0:=gN z (show (xs.length:Int)≠0 by omega)
  have h1:=gf z (show (0:Int) < (xs.length:Int) by omega)
  obtain ⟨j,hj⟩:∃ j:Nat,z % (xs.length:Int)=(j:Int):=⟨(z % (xs.length:Int)).toNat,by omega⟩
  rw [hj] at h1 |-
  have hj2:j < xs.length:=by omega
  exact ⟨xs[j],jh (ax hj2),mO hj2⟩
abbrev nT:List Str:=["_law_purse_here","_law_many","_law_at","_law_found"]
abbrev pT:List Str:=["_law_purse_here","_law_many"]
theorem scT:bV nT pT (aQ fc):=⟨rfl,rfl,rfl,by decide +kernel,rfl,by decide +kernel,by decide +kernel⟩
def oB:Sp:=fun vs H Q _=>∃ (p:aa) (n:Int),vs=[.ref p,.int n]/\eK H p/\0 < n/\n < 2 ^ 64/\∀ (r:Int) (H':Hp),0<=r->r < n->eK H' p->But p H H'->Q (.int r) H'
theorem mw (D:Df K mg "_law_take" fc pT f fd) (B:Bl mg):bT P w K mg base CX0 1 f fd pT oB:=by
  refine D.F.ok scT (fun vs H Q E h=>?_) (fun cdv A outer s H vs Q E hr h=>?_)
  · obtain ⟨p,n,rfl,_⟩:=h
    rfl
  obtain ⟨p,n,rfl,⟨x,y,hp⟩,hn,hn2,q⟩:=h
  refine ⟨_,ak (bz (i:=2) scT.nd rfl (Or.inl rfl) (iC vd (by rfl) B.int boot_int (aq (kn ff (bZ dZ (pv 0) ay (fun _ _=>rfl)) ay (cE _)) ao)))
    (ak (bz (i:=3) scT.nd rfl (Or.inl rfl) (cP lQ (bZ dZ (pv 0) (pv 2) (fun _ _=>rfl)) (pv 1)))
    (ak (tG (cP xY (bZ dZ (pv 0) (pv 2) (fun _ _=>rfl)) (pv 1)) (yJ (pv 0) (pv 2) tS))
    (aF (bX (pv 3))))),?_⟩
  refine bS (cJ ?_)
  refine ⟨_,rfl,p,_,_,_,rfl,rfl,SqL.of hp,rfl,rfl,.inr ⟨_,rfl,?_⟩⟩
  refine aZ ?_
  dsimp only
  generalize hb:decide (V.int x=V.int 0)=b
  refine bS (cJ ?_)
  cases b with
  | true =>
    refine ⟨_,rfl,_,rfl,p,_,_,_,rfl,rfl,SqL.of hp,rfl,_,rfl,_,_,rfl,rfl,hn,?_⟩
    refine aZ ?_
    dsimp only
    refine ⟨_,rfl,_,rfl,p,_,_,_,rfl,rfl,SqL.of hp,rfl,_,rfl,_,_,rfl,rfl,⟨hn,hn2⟩,_,rfl,_,rfl,p,_,_,_,rfl,rfl,hp,rfl,?_⟩
    refine ⟨_,rfl,?_⟩
    exact q _ _ (gN _ (by omega)) (gf _ hn) ⟨_,_,ah⟩ (But.upd p H _)
  | false =>
    refine ⟨_,rfl,_,rfl,p,_,_,_,rfl,rfl,SqL.of hp,rfl,_,rfl,_,_,rfl,rfl,hn,?_⟩
    refine aZ ?_
    dsimp only
    refine ⟨_,rfl,_,rfl,p,_,_,_,rfl,rfl,SqL.of hp,rfl,_,rfl,_,_,rfl,rfl,⟨hn,hn2⟩,_,rfl,_,rfl,p,_,_,_,rfl,rfl,hp,rfl,?_⟩
    refine ⟨_,rfl,?_⟩
    exact q _ _ (gN _ (by omega)) (gf _ hn) ⟨_,_,ah⟩ (But.upd p H _)
abbrev nP:List Str:=["_law_script","_law_cells","_law_found","_law_number","_law_k","_law_cell"]
abbrev pP:List Str:=["_law_script"]
theorem scP:bV nP pP (aQ kx):=⟨rfl,rfl,rfl,by decide +kernel,rfl,by decide +kernel,by decide +kernel⟩
def AG (K:af):Sp:=fun vs H Q _=>∃ (a:aa) (ns:List Int),vs=[.ref a]/\SqL K H a (ns.map V.int)/\ns.length<=63/\(∀ x∈ns,eX x<=1048576)/\∀ (p:aa) (H':Hp),H p=none->eK H' p->bM H H'->Q (.ref p) H'
theorem EG (D:Df K mg "_law_purse" kx pP f fd) (B:Bl mg):bT P w K mg base CX0 1 f fd pP (AG K):=by
  refine D.F.ok scP (fun vs H Q E h=>?_) (fun cdv A outer s H vs Q E hr h=>?_)
  · obtain ⟨a,ns,rfl,_⟩:=h
    rfl
  obtain ⟨a,ns,rfl,hS,hlen,hbits,q⟩:=h
  refine ⟨_,ak (bz (i:=1) scP.nd rfl (Or.inl rfl) (cP CQ (ip qc (pv 0) jG (iN ay)) (eT (dB ay ao))))
    (ak (bz (i:=2) scP.nd rfl (Or.inl rfl) ay)
    (ak (bz (i:=3) scP.nd rfl (Or.inl rfl) ay)
    (ak (iy cQ rfl (iB (by rfl) B.range (dB ay ao)) (dy (i:=4) scP.nd rfl (Or.inl rfl)) (ak (bz (i:=5) scP.nd rfl (Or.inl rfl) (bZ dZ (pv 1) (cP lQ (pv 4) (dA (eR K (by rfl)) (by rfl) B.len cI (bN (pv 1) ao))) (fun _ _=>rfl)))
    (ak (bz (i:=3) scP.nd rfl (Or.inl rfl) (cP lQ (cP fJ (cP fJ (cP fJ (cP qQ (pv 3) (pv 3)) (pv 5)) (cP qQ ay (pv 4))) ay) ay))
    (aF (bz (i:=2) scP.nd rfl (Or.inl rfl) (cP fJ (cP qQ (pv 2) ay) (cP lQ (cP qQ (pv 3) (pv 3)) ay)))))))
    (ak (cZ (cu ff (cP lQ (bZ dZ (pv 1) ay (fun _ _=>rfl)) ay) ay (cE _)) (aF (bX (eT (jJ (cP xY (dA xH (by rfl) B.abs boot_abs (EF (bZ dZ (pv 1) ay (fun _ _=>rfl)) ao)) ay) (bN (pv 2) ao))))) cy)
    (aF (bX (eT (dB ay (bN (pv 2) ao))))))))),?_⟩
  have big:=eU
  refine bS (cJ ?_)
  refine ⟨_,rfl,_,rfl,a,_,rfl,hS,fun l hl=>⟨(by show 1<=aA; decide),fun m hm=>?_⟩⟩
  have hlm:l≠m:=aG (ah:upd H l (.lst (j8 (ns.map V.int) none (some 63))) l=_) hm
  have cl:(j8 (ns.map V.int) none (some 63)).length<=63:=c8 (nA _ _ _) (by rw [ar]; exact hlen)
  have l64:(j8 (ns.map V.int) none (some 63)).length + [V.int 1].length<=aA:=by
    rw [y9]
    omega
  refine ⟨l,m,_,_,rfl,rfl,(by rw [aJ hlm]; exact ah),ah,l64,fun c hc=>?_⟩
  generalize hcs:j8 (ns.map V.int) none (some 63)++[V.int 1]=cs at hc |-
  have sc:bM H (upd (upd (upd H l (.lst (j8 (ns.map V.int) none (some 63)))) m (.lst [.int 1])) c (.lst cs)):=(aD hl _).trans ((aD hm _).trans (aD hc _))
  generalize hH:upd (upd (upd H l (.lst (j8 (ns.map V.int) none (some 63)))) m (.lst [.int 1])) c (.lst cs)=H1 at sc |-
  have hc1:H1 c=some (.lst cs):=by rw [<- hH]; exact ah
  have nonil:cs≠[]:=by rw [<- hcs]; simp
  have cells:∀ v∈cs,∃ z:Int,v=.int z/\eX z<=1048576:=fun v hv=>by
    rw [<- hcs] at hv
    rcases cq.mp hv with z | z
    · obtain ⟨n,hn,rfl⟩:=cL.mp (Gw z)
      exact ⟨n,rfl,hbits n hn⟩
    · rw [aH.mp z]
      exact ⟨1,rfl,by decide⟩
  refine aZ ?_
  dsimp only
  refine bS (cJ ?_)
  refine aZ ?_
  dsimp only
  refine bS (cJ ?_)
  refine aZ ?_
  dsimp only
  refine bS ?_
  refine ⟨120,rfl,by decide,by decide,kU (n:=120) (fun i σ H2=>∃ (z y:Int) (u v:Option V),σ=[some (.ref a),some (.ref c),some (.int z),some (.int y),u,v]/\-(2 ^ 64) < y/\y < 2 ^ 64/\H2=H1) ⟨1,5,none,none,rfl,by decide,by decide,rfl⟩ ?_ ?_⟩
  · rintro i σ H2 hi ⟨z,y0,u0,v,rfl,hy1,hy2,rfl⟩
    obtain ⟨u,hu,hm2⟩:=JP nonil (0 + (i:Int))
    obtain ⟨y,rfl,hy⟩:=cells u hm2
    have lpos:(0:Int) < (cs.length:Int):=by
      have:=pS.mpr nonil
      omega
    refine bS (cJ ?_)
    refine ⟨_,rfl,_,rfl,_,rfl,c,_,rfl,.inl (SqL.of hc1),_,_,rfl,rfl,lpos,c,_,_,_,rfl,rfl,SqL.of hc1,hu,?_⟩
    refine aZ ?_
    dsimp only
    refine bS (cJ ?_)
    refine ⟨_,rfl,_,rfl,_,_,rfl,rfl,.inl ⟨hy1,hy2⟩,_,rfl,_,_,rfl,rfl,_,rfl,_,_,rfl,rfl,.inl ⟨by decide,by decide⟩,_,_,rfl,rfl,_,_,rfl,rfl,_,_,rfl,rfl,(by show (0:Int) < 2147483629; decide),?_⟩
    refine aZ ?_
    dsimp only
    refine cJ ?_
    refine ⟨_,rfl,_,_,rfl,rfl,.inr ⟨by decide,by decide⟩,_,rfl,_,rfl,_,_,rfl,rfl,.inl (rF _),_,_,rfl,rfl,(by show (0:Int) < 2147483587; decide),_,_,rfl,rfl,?_⟩
    refine aZ ?_
    exact ⟨_,_,_,_,rfl,(rF _).1,(rF _).2,rfl⟩
  · rintro σ H2 ⟨z,y0,u0,v,rfl,hy1,hy2,rfl⟩
    obtain ⟨x0,hx0⟩:∃ x0,cs[0]?=some x0:=by
      cases cs with
      | nil=>exact absurd rfl nonil
      | cons x0 r=>exact ⟨x0,rfl⟩
    obtain ⟨y,rfl,hy⟩:=cells x0 (cw hx0)
    have a0:atI cs 0=some (.int y):=jh (j:=0) hx0
    refine bS ?_
    refine ⟨_,rfl,c,_,_,_,rfl,rfl,SqL.of hc1,a0,_,_,rfl,rfl,(by show (0:Int) < 2; decide),rfl,_,rfl,?_⟩
    refine jt (fun _=>?_) (fun _=>?_)
    · refine ⟨_,rfl,c,_,_,_,rfl,rfl,SqL.of hc1,a0,_,rfl,_,_,rfl,rfl,⟨by decide,by decide⟩,_,rfl,lt2,fun p hp=>?_⟩
      exact q p _ (sc.free hp) ⟨_,_,ah⟩ (sc.trans (aD hp _))
    · refine ⟨_,rfl,lt2,fun p hp=>?_⟩
      exact q p _ (sc.free hp) ⟨_,_,ah⟩ (sc.trans (aD hp _))
end
end My
namespace My
open PySem L2
theorem JQ:abc.cps.toList.Nodup:=by decide +kernel
def zL:List Int:=[1,3,5,25,7,11]
def placeOf (b st:Int) (i:Nat):Int:=(b + st * (0 + (i:Int))) % 26
theorem qD (b st:Int) (i:Nat):0<=placeOf b st i/\placeOf b st i < 26:=by
  unfold placeOf
  exact ⟨gN _ (by decide),gf _ (by decide)⟩
theorem EH {b st:Int} (hs:st∈zL) {i j:Nat} (hi:i < 9) (hj:j < 9) (h:placeOf b st i=placeOf b st j):i=j:=by
  unfold placeOf at h
  unfold zL at hs
  simp only [au,aR,or_false] at hs
  rcases hs with rfl | rfl | rfl | rfl | rfl | rfl <;> omega
def GN (b st:Int) (ss:List Str):Prop:=∀ i s,ss[i]?=some s->∃ c,abc.cps.toList[(placeOf b st i).toNat]?=some c/\s.cps.toList[0]?=some c
theorem Gx {i j:Nat} {c} (hi:abc.cps.toList[i]?=some c) (hj:abc.cps.toList[j]?=some c):i=j:=by
  have li:=(aB.mp hi).1
  exact (List.getElem?_inj li JQ).mp (hi.trans hj.symm)
theorem Gy {z:Int} (h0:0<=z) (h1:z < 26):∃ c,abc.cps.toList[z.toNat]?=some c/\atI abc.cps.toList z=some c:=by
  obtain ⟨j,rfl⟩:∃ j:Nat,z=(j:Int):=⟨z.toNat,by omega⟩
  have l:j < abc.cps.toList.length:=by rw [AF]; omega
  exact ⟨abc.cps.toList[j],by rw [sI]; exact ax l,jh (ax l)⟩
theorem GN.nodup {b st:Int} (hs:st∈zL) {ss:List Str} (h:GN b st ss) (hl:ss.length<=9):ss.Nodup:=by
  refine cY.mpr fun i j li lj hij e=>?_
  obtain ⟨c,a1,a2⟩:=h i _ (ax li)
  obtain ⟨d,b1,b2⟩:=h j _ (ax lj)
  rw [<- e,a2] at b2
  cases b2
  have z:=Gx a1 b1
  obtain ⟨p1,p2⟩:=qD b st i
  obtain ⟨q1,q2⟩:=qD b st j
  have w:placeOf b st i=placeOf b st j:=by omega
  have:=EH hs (by omega) (by omega) w
  omega
theorem GN.snoc {b st:Int} {ss:List Str} {s:Str} {c} (h:GN b st ss) (h2:abc.cps.toList[(placeOf b st ss.length).toNat]?=some c) (h3:s.cps.toList[0]?=some c):GN b st (ss++[s]):=by
  intro i x e
  by_cases hi:i < ss.length
  · rw [eQ hi] at e
    exact h i x e
  · rw [dS (by omega)] at e
    have z:i - ss.length=0:=by
      by_cases y:i - ss.length=0
      · exact y
      · obtain ⟨k,hk⟩:∃ k,i - ss.length=k + 1:=⟨i - ss.length - 1,by omega⟩
        rw [hk] at e
        simp at e
    have hi':i=ss.length:=by omega
    rw [z] at e
    simp at e
    subst e
    rw [hi']
    exact ⟨c,h2,h3⟩
theorem wZ {x y:Str} {c} (h:x.cps.toList[0]?=some c):(x++y).cps.toList[0]?=some c:=by
  show (x.cps++y.cps).toList[0]?=some c
  rw [Array.toList_append,eQ (aB.mp h).1]
  exact h
theorem vM (z:Str):∀ (ps:List Str) (acc:Array Nat),(ps.foldl (fun acc p=>acc++z.cps++p.cps) acc).size=acc.size + (ps.map fun x=>x.length).sum + ps.length * z.length
  | [],acc=>by simp
  | p :: ps,acc=>by
    rw [nK,vM z ps,BZ,BZ,bR,xx,aP,oC]
    show acc.size + z.length + p.length + _ + _=_
    omega
theorem EI (z:Str) (ys:List Str):(Bj z ys).length<=jsz z ys:=by
  cases ys with
  | nil=>exact bj _
  | cons p ps =>
    show (ps.foldl (fun acc p=>acc++z.cps++p.cps) p.cps).size<=_
    rw [vM]
    unfold jsz
    rw [bR,xx,aP,oC]
    show p.length + _ + _<=_
    omega
theorem JR {z:Str} {ys:List Str} {k:Nat} (h:∀ x∈ys,x.length<=k):jsz z ys<=ys.length * (k + z.length):=by
  unfold jsz
  induction ys with
  | nil=>simp
  | cons y ys ih =>
    have h1:=h y (aw ..)
    have h2:=ih fun x hx=>h x (ag _ hx)
    rw [bR,xx,aP,oC,oC]
    omega
section
variable {P:aM} {w:bH} {K:af} {mg:Str->Option ae} {base:cB} {f fT fW:aa} {fd fdT fdW:bY}
seal L2.PS L2.PSs L2.PE L2.PA L2.PT L2.PW L2.PI L2.PG L2.PGs L2.PC
abbrev nN:List Str:=["_law_purse_here","_law_many","_law_letters","_law_first","_law_found","_law_k","_law_size","_law_tail"]
abbrev pN:List Str:=["_law_purse_here","_law_many"]
theorem scN:bV nN pN (aQ iF):=⟨rfl,rfl,rfl,by decide +kernel,rfl,by decide +kernel,by decide +kernel⟩
theorem ndN:((["_law_j"]:List Str)++nN).Nodup:=by decide +kernel
def w5:Sp:=fun vs H Q _=>∃ (p:aa) (n:Int),vs=[.ref p,.int n]/\eK H p/\0<=n/\n<=9 /\
  ∀ (l:aa) (ss:List Str) (H':Hp),H l=none->H' l=some (.lst (ss.map V.str))->(ss.length:Int)=n->ss.Nodup->eK H' p->But p H H'->Q (.ref l) H'
theorem yo (D:Df K mg "_law_names" iF pN f fd) (DT:Df K mg "_law_take" fc pT fT fdT) (B:Bl mg):bT P w K mg base CX0 2 f fd pN w5:=by
  have GT:bT P w K mg base CX0 1 fT fdT pT oB:=mw DT B
  refine D.F.ok scN (fun vs H Q E h=>?_) (fun cdv A outer s H vs Q E r1 h=>?_)
  · obtain ⟨p,n,rfl,_⟩:=h
    rfl
  obtain ⟨p,n,rfl,hp,hn0,hn9,q⟩:=h
  refine ⟨_,ak (bz (i:=2) scN.nd rfl (Or.inr rfl) bU)
    (ak (bz (i:=3) scN.nd rfl (Or.inl rfl) (aS GT r1 (by rfl) DT.m DT.F.kp DT.b .nil cm (bN (pv 0) (dB ay ao))))
    (ak (bz (i:=4) scN.nd rfl (Or.inl rfl) (eT ao))
    (ak (iy cQ rfl (iB (by rfl) B.range (bN (pv 1) ao)) (dy (i:=5) scN.nd rfl (Or.inl rfl)) (ak (bz (i:=6) scN.nd rfl (Or.inl rfl) (aS GT r1 (by rfl) DT.m DT.F.kp DT.b .nil cm (bN (pv 0) (dB ay ao))))
    (ak (qj (i:=7) ["_law_j"] (ia.open (NN:=nN) (N:=nN) (sc:=aQ iF) rfl rfl (by decide +kernel) rfl (by decide +kernel) (by decide +kernel) rfl (by decide +kernel)) rfl scN.nd rfl (Or.inl rfl) (iB (by rfl) B.range (bN (pv 6) ao)) (fun _ _ _ _=>dy (i:=0) ndN rfl (Or.inl rfl)) (fun _ _ _ _=>jI) (fun _ _ _ _=>bZ CH (pv 3) (aS GT r1 (by rfl) DT.m DT.F.kp DT.b .nil cm (bN (pv 1) (dB ay ao))) (fun _ _=>rfl)))
    (aF (dW (jr bK cg cj e7 (pv 4) (jJ (cP yN (bZ CH (pv 2) (cP lQ (cP fJ (pv 3) (cP qQ ay (pv 5))) ay) (fun _ _=>rfl)) (jr PySem.F.plainAttrs_str PySem.F.slot_str_join PySem.F.type_str_join FH bU (bN (pv 7) ao))) ao)))))))
    (aF (bX (pv 4)))))),?_⟩
  have big:=eU
  refine bS (cJ ?_)
  refine aZ ?_
  dsimp only
  refine bS (cJ ?_)
  refine ⟨_,rfl,p,26,rfl,hp,by decide,by decide,fun first H1 f0 f1 hp1 b1=>?_⟩
  refine aZ ?_
  dsimp only
  refine bS (cJ ?_)
  refine ⟨bj _,fun l hl=>?_⟩
  have s3:=aD hl (.lst [])
  have nl:l≠p:=pH hp1 hl
  have hlH:H l=none:=by
    cases e:H l with
    | none=>rfl
    | some o =>
      rw [b1 l o e nl] at hl
      cases hl
  refine aZ ?_
  dsimp only
  refine bS ?_
  refine ⟨_,rfl,n,rfl,by omega,by omega,kU (n:=n.toNat) (fun i σ G=>∃ (ss:List Str) (v6 v7 v8:Option V),σ=[some (.ref p),some (.int n),some (.str abc),some (.int first),some (.ref l),v6,v7,v8]/\i<=n.toNat/\G l=some (.lst (ss.map V.str))/\ss.length=i/\GN first 3 ss/\eK G p/\But p H G)
    ⟨[],none,none,none,rfl,bj _,ah,rfl,(fun i x e=>by cases e),hp1.same s3,b1.same s3⟩ ?_ ?_⟩
  · rintro i σ G hi ⟨ss,v6,v7,v8,rfl,hi2,hG,hss,gn,pu,bt⟩
    refine bS (cJ ?_)
    refine ⟨_,rfl,p,6,rfl,pu,by decide,by decide,fun m G1 m0 m1 pu1 bt1=>?_⟩
    refine aZ ?_
    dsimp only
    have hG1:=bt1 _ _ hG nl
    obtain ⟨k,rfl⟩:∃ k:Nat,m=(k:Int):=⟨m.toNat,by omega⟩
    refine bS (cJ ?_)
    refine vL (fun m G'=>m=k/\G'=G1) (fun R hR=>⟨_,rfl,hR k G1 ⟨rfl,rfl⟩⟩) (fun m G' h=>by omega) (fun m G' i ys G2=>∃ ts:List Str,ys=ts.map V.str/\ts.length=i/\(∀ x∈ts,x.length<=1)/\eK G2 p/\But p G1 G2) ?_ ?_ ?_ ?_
    · rintro m G' ⟨rfl,rfl⟩
      exact ⟨[],rfl,rfl,(fun x e=>by cases e),pu1,But.refl _ _⟩
    · rintro m G' ⟨rfl,rfl⟩ i ys G2 hi ⟨ts,rfl,hts,_⟩
      rw [ar]
      omega
    · rintro m G' ⟨rfl,rfl⟩ j ys G2 hj ⟨ts,rfl,hts,lts,pu2,bt2⟩
      refine aZ ⟨rfl,?_⟩
      unfold uP
      refine gF ?_
      refine ⟨_,rfl,_,rfl,p,26,rfl,pu2,by decide,by decide,fun r G3 r0 r1' pu3 bt3=>?_⟩
      obtain ⟨c,hc⟩:=JO r0 r1'
      refine ⟨abc,_,c,rfl,rfl,vK,hc,ts++[⟨#[c]⟩],by rw [cA]; rfl,by rw [aE]; show _=j + 1; rw [hts]; rfl,fun x hx=>?_,pu3,bt2.trans bt3⟩
      rcases cq.mp hx with z | z
      · exact lts x z
      · rw [aH.mp z]
        exact aC 1
    · rintro m G' ⟨rfl,rfl⟩ ys G2 ⟨ts,rfl,hts,lts,pu2,bt2⟩ lt hlt
      refine aZ ?_
      dsimp only
      have st:=aD hlt (.lst (ts.map V.str))
      have hG2:=st _ _ (bt2 _ _ hG1 nl)
      have pu3:=pu2.same st
      obtain ⟨c,hc0,hc⟩:=Gy (qD first 3 i).1 (qD first 3 i).2
      have js:jsz "" ts<=5:=by
        have:=JR (z:="") lts
        have e0:("":Str).length=0:=by decide
        rw [e0,hts] at this
        omega
      have jl:=EI "" ts
      refine ⟨_,rfl,.inl ⟨rfl,_,SqL.of hG2⟩,_,rfl,_,rfl,_,rfl,_,_,rfl,rfl,.inl ⟨by decide,by decide⟩,_,_,rfl,rfl,_,_,rfl,rfl,(by show (0:Int) < 26; decide),abc,_,c,rfl,rfl,vK,hc,rfl,_,rfl,_,lt,ts,rfl,rfl,.inl (SqL.of ah),by omega,_,_,rfl,rfl,?_,l,_,_,rfl,rfl,hG2,(by rw [ar]; omega),?_⟩
      · show 1 + (Bj "" ts).length<=aA
        omega
      · refine ⟨ss++[⟨#[c]⟩++Bj "" ts],_,_,_,rfl,by omega,by rw [cA]; exact ah,by rw [aE,hss]; rfl,gn.snoc (c:=c) (by rw [hss]; exact hc0) (wZ rfl),oQ pu3 nl,?_⟩
        · intro b o e n
          have nb:b≠l:=aG e hlH
          rw [aJ nb]
          exact st _ _ (bt2 _ _ (bt1 _ _ (bt _ _ e n) n) n)
  · rintro σ G ⟨ss,v6,v7,v8,rfl,hi2,hG,hss,gn,pu,bt⟩
    refine ⟨_,rfl,?_⟩
    exact q l ss G hlH hG (by omega) (gn.nodup (by decide) (by omega)) pu bt
end
end My
namespace My
open PySem L2
theorem dY.ref {bs qs:List Str} {H:Hp} {d:Dd} {v:V} (h:dY bs qs H d v):∃ t,v=.ref t:=by
  cases d <;> simp only [dY] at h
  · obtain ⟨t,_,e,_⟩:=h
    exact ⟨t,e⟩
  · obtain ⟨t,_,e,_⟩:=h
    exact ⟨t,e⟩
  · obtain ⟨t,_,e,_⟩:=h
    exact ⟨t,e⟩
  · obtain ⟨t,_,e,_⟩:=h
    exact ⟨t,e⟩
  · obtain ⟨t,_,_,_,e,_⟩:=h
    exact ⟨t,e⟩
  · obtain ⟨t,_,_,_,e,_⟩:=h
    exact ⟨t,e⟩
  · obtain ⟨t,e,_⟩:=h
    exact ⟨t,e⟩
end My
namespace My
open PySem L2
theorem Tree.scal {H:Hp} {v:V} (h:zt v):∀ n,Tree H n v
  | 0=>h
  | _ + 1=>.inl h
theorem Tree.atup {H:Hp} {a:aa} {xs:List V} {n:Nat} (h:H a=some (.tup xs)) (l:xs.length < 1000) (k:∀ x∈xs,Tree H n x):Tree H (n + 1) (.ref a):=.inr ⟨a,xs,rfl,.inr h,l,k⟩
theorem Tree.alst {H:Hp} {a:aa} {xs:List V} {n:Nat} (h:H a=some (.lst xs)) (l:xs.length < 1000) (k:∀ x∈xs,Tree H n x):Tree H (n + 1) (.ref a):=.inr ⟨a,xs,rfl,.inl h,l,k⟩
theorem gG.tree {bs qs:List Str} {H:Hp} {v:V} {f:Fm} (h:gG bs qs H v f):∀ n,f.depth<=n->Tree H n v:=by
  induction h with
  | num h1 _=>exact fun n hn=>match n,hn with
    | n + 1,_=>Tree.atup h1 (by show 2 < 1000; decide) fun x hx=>by
      simp only [au,aR,or_false] at hx
      rcases hx with rfl | rfl <;> exact Tree.scal (by exact trivial) _
    | 0,hn=>absurd hn (by unfold Fm.depth; decide)
  | box h1 _=>exact fun n hn=>match n,hn with
    | n + 1,_=>Tree.atup h1 (by show 2 < 1000; decide) fun x hx=>by
      simp only [au,aR,or_false] at hx
      rcases hx with rfl | rfl <;> exact Tree.scal (by exact trivial) _
    | 0,hn=>absurd hn (by unfold Fm.depth; decide)
  | long h1 _=>exact fun n hn=>match n,hn with
    | n + 1,_=>Tree.atup h1 (by show 2 < 1000; decide) fun x hx=>by
      simp only [au,aR,or_false] at hx
      rcases hx with rfl | rfl <;> exact Tree.scal (by exact trivial) _
    | 0,hn=>absurd hn (by unfold Fm.depth; decide)
  | got h1=>exact fun n hn=>match n,hn with
    | n + 1,_=>Tree.atup h1 (by show 2 < 1000; decide) fun x hx=>by
      simp only [au,aR,or_false] at hx
      rcases hx with rfl | rfl <;> exact Tree.scal (by exact trivial) _
    | 0,hn=>absurd hn (by unfold Fm.depth; decide)
  | now h1=>exact fun n hn=>match n,hn with
    | n + 1,_=>Tree.atup h1 (by show 1 < 1000; decide) fun x hx=>by
      simp only [au,aR,or_false] at hx
      rcases hx with rfl
      exact Tree.scal (by exact trivial) _
    | 0,hn=>absurd hn (by unfold Fm.depth; decide)
  | two h1 _ _ _ ih1 ih2=>exact fun n hn=>match n,hn with
    | n + 1,hn=>Tree.atup h1 (by show 3 < 1000; decide) fun x hx=>by
      unfold Fm.depth at hn
      simp only [au,aR,or_false] at hx
      rcases hx with rfl | rfl | rfl
      · exact Tree.scal (by exact trivial) _
      · exact ih1 n (by omega)
      · exact ih2 n (by omega)
    | 0,hn=>absurd hn (by unfold Fm.depth; omega)
mutual
theorem dY.tree {bs qs:List Str} {H:Hp}:∀ (d:Dd) (v:V) (n:Nat),dY bs qs H d v->2 * d.deep + 16<=n->Tree H n v
  | _,_,0,_,hn=>absurd hn (by omega)
  | .put x f,v,n + 1,h,hn=>by
    obtain ⟨t,u,rfl,h1,h2,h3⟩:=(by simpa only [dY] using h)
    refine Tree.atup h1 (by show 3 < 1000; decide) fun y hy=>?_
    simp only [au,aR,or_false] at hy
    rcases hy with rfl | rfl | rfl
    · exact Tree.scal (by exact trivial) _
    · exact Tree.scal (by exact trivial) _
    · exact h3.1.tree n (by have:=h3.2; omega)
  | .push q f,v,n + 1,h,hn=>by
    obtain ⟨t,u,rfl,h1,h2,h3⟩:=(by simpa only [dY] using h)
    refine Tree.atup h1 (by show 3 < 1000; decide) fun y hy=>?_
    simp only [au,aR,or_false] at hy
    rcases hy with rfl | rfl | rfl
    · exact Tree.scal (by exact trivial) _
    · exact Tree.scal (by exact trivial) _
    · exact h3.1.tree n (by have:=h3.2; omega)
  | .pull q x o,v,n + 1,h,hn=>by
    obtain ⟨t,u,rfl,h1,h2,h3,l,vs,rfl,h4,h5,h6⟩:=(by simpa only [dY] using h)
    unfold Dd.deep at hn
    refine Tree.atup h1 (by show 4 < 1000; decide) fun y hy=>?_
    simp only [au,aR,or_false] at hy
    rcases hy with rfl | rfl | rfl | rfl
    · exact Tree.scal (by exact trivial) _
    · exact Tree.scal (by exact trivial) _
    · exact Tree.scal (by exact trivial) _
    · obtain ⟨m,rfl⟩:∃ m,n=m + 1:=⟨n - 1,by omega⟩
      exact Tree.alst h4 h5 (eJ.tree o vs m h6 (by omega))
  | .draw x f,v,n + 1,h,hn=>by
    obtain ⟨t,u,rfl,h1,h2,h3⟩:=(by simpa only [dY] using h)
    refine Tree.atup h1 (by show 3 < 1000; decide) fun y hy=>?_
    simp only [au,aR,or_false] at hy
    rcases hy with rfl | rfl | rfl
    · exact Tree.scal (by exact trivial) _
    · exact Tree.scal (by exact trivial) _
    · exact h3.1.tree n (by have:=h3.2; omega)
  | .send to sg sp rk a b,v,n + 1,h,hn=>by
    obtain ⟨t,u,u1,u2,rfl,h1,h2,h3,h4⟩:=(by simpa only [dY] using h)
    refine Tree.atup h1 (by show 7 < 1000; decide) fun y hy=>?_
    simp only [au,aR,or_false] at hy
    rcases hy with rfl | rfl | rfl | rfl | rfl | rfl | rfl
    · exact Tree.scal (by exact trivial) _
    · exact Tree.scal (by exact trivial) _
    · exact Tree.scal (by exact trivial) _
    · exact h2.1.tree n (by have:=h2.2; omega)
    · exact Tree.scal (by exact trivial) _
    · exact h3.1.tree n (by have:=h3.2; omega)
    · exact h4.1.tree n (by have:=h4.2; omega)
  | .ife f x y,v,n + 1,h,hn=>by
    obtain ⟨t,u,u1,u2,rfl,h1,h2,⟨l,vs,rfl,g1,g2,g3⟩,l',vs',rfl,k1,k2,k3⟩:=(by simpa only [dY] using h)
    unfold Dd.deep at hn
    refine Tree.atup h1 (by show 4 < 1000; decide) fun z hz=>?_
    simp only [au,aR,or_false] at hz
    obtain ⟨m,rfl⟩:∃ m,n=m + 1:=⟨n - 1,by omega⟩
    rcases hz with rfl | rfl | rfl | rfl
    · exact Tree.scal (by exact trivial) _
    · exact h2.1.tree _ (by have:=h2.2; omega)
    · exact Tree.alst g1 g2 (eJ.tree x vs m g3 (by omega))
    · exact Tree.alst k1 k2 (eJ.tree y vs' m k3 (by omega))
  | .fin,v,n + 1,h,hn=>by
    obtain ⟨t,rfl,h1⟩:=(by simpa only [dY] using h)
    refine Tree.atup h1 (by show 1 < 1000; decide) fun y hy=>?_
    simp only [au,aR,or_false] at hy
    rw [hy]
    exact Tree.scal (by exact trivial) _
theorem eJ.tree {bs qs:List Str} {H:Hp}:∀ (d:Ds) (vs:List V) (n:Nat),eJ bs qs H d vs->2 * d.deep + 16<=n->∀ x∈vs,Tree H n x
  | .nil,vs,n,h,hn=>by
    have e:vs=[]:=by simpa only [eJ] using h
    subst e
    intro x hx
    cases hx
  | .cons d r,vs,n,h,hn=>by
    obtain ⟨v,vr,rfl,h1,h2⟩:=(by simpa only [eJ] using h)
    unfold Ds.deep at hn
    intro x hx
    rcases au.mp hx with rfl | hx
    · exact dY.tree d _ n h1 (by omega)
    · exact eJ.tree r vr n h2 (by omega) x hx
end
end My
namespace My
open PySem L2
def vN (o:HO):Prop:=(∃ xs,o=.tup xs)\/∃ xs,o=.lst xs/\∀ (i:Int) (r:List V),xs≠.int i :: r
def dO (H H':Hp):Prop:=∀ a o,H a=some o->vN o->H' a=some o
theorem dO.same {H H':Hp} (s:bM H H'):dO H H':=fun a o e _=>s _ _ e
theorem dO.trans {H H1 H2:Hp} (a:dO H H1) (b:dO H1 H2):dO H H2:=fun c o e n=>b _ _ (a _ _ e n) n
def Kp (own:List aa) (H G:Hp):Prop:=∀ b o,H b=some o->b∉own->G b=some o
theorem Kp.trans {own:List aa} {H G G':Hp} (a:Kp own H G) (b:Kp own G G'):Kp own H G':=fun c o e n=>b c o (a c o e n) n
theorem Kp.same {own:List aa} {H G:Hp} (s:bM H G):Kp own H G:=fun c o e _=>s _ _ e
theorem Kp.but {own:List aa} {H G:Hp} {p:aa} (s:But p H G) (m:p∈own):Kp own H G:=fun c o e n=>s _ _ e fun z=>n (by rw [z]; exact m)
theorem Kp.upd {own:List aa} {H:Hp} {a:aa} {o:HO} (m:a∈own):Kp own H (upd H a o):=fun c u e n=>by
  rw [aJ fun z=>n (by rw [z]; exact m)]
  exact e
theorem Kp.keepI {own:List aa} {H G:Hp} (k:Kp own H G) (h:∀ a∈own,∃ (i:Int) (r:List V),H a=some (.lst (.int i :: r))):dO H G:=fun a o e n=>k a o e fun m=>by
  obtain ⟨i,r,q⟩:=h a m
  rw [q] at e
  cases e
  rcases n with ⟨xs,n⟩ | ⟨xs,n,y⟩
  · cases n
  · cases n
    exact y i r rfl
theorem dO.but {H H':Hp} {p:aa} (pu:eK H p) (b:But p H H'):dO H H':=Kp.keepI (own:=[p]) (Kp.but b aw) fun a m=>by
  obtain ⟨x,y,h⟩:=pu
  rw [aH.mp m]
  exact ⟨x,_,h⟩
theorem jB (xs:List V):vN (.tup xs):=.inl ⟨xs,rfl⟩
theorem w6 (ss:List Str):vN (.lst (ss.map V.str)):=.inr ⟨_,rfl,fun i r z=>by
  cases ss with
  | nil=>cases z
  | cons x xs=>cases z⟩
theorem FmI.keepI {bs qs:List Str} {H H':Hp} (k:dO H H') {v:V} {f:Fm} (h:FmI bs qs H v f):FmI bs qs H' v f:=⟨h.1.mono fun t xs e=>k _ _ e (jB xs),h.2⟩
theorem eJ.ni {bs qs:List Str} {H:Hp} {d:Ds} {vs:List V} (h:eJ bs qs H d vs):vN (.lst vs):=.inr ⟨vs,rfl,fun i r z=>by
  subst z
  cases d with
  | nil =>
    simp only [eJ] at h
    cases h
  | cons d r =>
    obtain ⟨v,vr,e,h1,_⟩:=(by simpa only [eJ] using h)
    cases e
    obtain ⟨t,e⟩:=h1.ref
    cases e⟩
end My
namespace My
open PySem L2
def Tk (H H':Hp):Prop:=∀ (t:aa) (xs:List V),H t=some (.tup xs)->H' t=some (.tup xs)
def Nk (H H' H2:Hp):Prop:=∀ (l:aa) (xs:List V),H l=none->vN (.lst xs)->H' l=some (.lst xs)->H2 l=some (.lst xs)
def OwD (bs qs:List Str) (H H':Hp) (d:Dd) (v:V):Prop:=∀ H2,Tk H' H2->Nk H H' H2->dY bs qs H2 d v
def OwS (bs qs:List Str) (H H':Hp) (d:Ds) (vs:List V):Prop:=∀ H2,Tk H' H2->Nk H H' H2->eJ bs qs H2 d vs
theorem Tk.refl (H:Hp):Tk H H:=fun _ _ e=>e
theorem Nk.refl (H H':Hp):Nk H H' H':=fun _ _ _ _ e=>e
theorem OwS.now {bs qs:List Str} {H H':Hp} {d:Ds} {v:List V} (h:OwS bs qs H H' d v):eJ bs qs H' d v:=h H' (Tk.refl _) (Nk.refl _ _)
theorem dO.tk {H H':Hp} (k:dO H H'):Tk H H':=fun t xs e=>k _ _ e (jB xs)
theorem dO.nk {H H1 H' H2:Hp} (k:dO H' H1) (n:Nk H H1 H2):Nk H H' H2:=fun l xs h i e=>n l xs h i (k _ _ e i)
theorem OwS.keepI {bs qs:List Str} {H H' H1:Hp} {d:Ds} {v:List V} (h:OwS bs qs H H' d v) (k:dO H' H1):OwS bs qs H H1 d v:=fun H2 t n=>h H2 (fun a xs e=>t a xs (k.tk a xs e)) (k.nk n)
def Dm (H G:Hp):Prop:=∀ a,G a=none->H a=none
theorem Dm.same {H G:Hp} (s:bM H G):Dm H G:=fun a n=>none_of s n
theorem Dm.trans {H G G':Hp} (a:Dm H G) (b:Dm G G'):Dm H G':=fun x n=>a x (b x n)
theorem OwD.base {bs qs:List Str} {H H0 H':Hp} {d:Dd} {v:V} (h:OwD bs qs H H' d v) (s:Dm H0 H):OwD bs qs H0 H' d v:=fun H2 t n=>h H2 t fun l xs hl i e=>n l xs (s l hl) i e
theorem OwS.base {bs qs:List Str} {H H0 H':Hp} {d:Ds} {v:List V} (h:OwS bs qs H H' d v) (s:Dm H0 H):OwS bs qs H0 H' d v:=fun H2 t n=>h H2 t fun l xs hl i e=>n l xs (s l hl) i e
theorem OwD.old {bs qs:List Str} {H H':Hp} {d:Dd} {v:V} {a:aa} {o:HO} (h:OwD bs qs H H' d v) (ol:H a≠none) (nt:∀ xs,H' a≠some (.tup xs)):OwD bs qs H (upd H' a o) d v:=fun H2 t n=>h H2 (fun b xs e=>t b xs (by rw [aJ (fun z=>nt xs (by rw [<- z]; exact e))]; exact e)) fun l xs hl i e=>n l xs hl i (by rw [aJ (fun z=>ol (by rw [<- z]; exact hl))]; exact e)
theorem OwS.old {bs qs:List Str} {H H':Hp} {d:Ds} {v:List V} {a:aa} {o:HO} (h:OwS bs qs H H' d v) (ol:H a≠none) (nt:∀ xs,H' a≠some (.tup xs)):OwS bs qs H (upd H' a o) d v:=fun H2 t n=>h H2 (fun b xs e=>t b xs (by rw [aJ (fun z=>nt xs (by rw [<- z]; exact e))]; exact e)) fun l xs hl i e=>n l xs hl i (by rw [aJ (fun z=>ol (by rw [<- z]; exact hl))]; exact e)
theorem FmI.tk {bs qs:List Str} {H H2:Hp} {v:V} {F:Fm} (h:FmI bs qs H v F) (t:Tk H H2):FmI bs qs H2 v F:=⟨h.1.mono t,h.2⟩
section
variable {bs qs:List Str} {H H':Hp} {t:aa} {u u1 u2:V} {F F1 F2:Fm} {x q:Str}
theorem JS (h:H' t=some (.tup [.str "put",.str x,u])) (m:x∈bs) (f:FmI bs qs H' u F):OwD bs qs H H' (.put x F) (.ref t):=fun H2 k _=>by simp only [dY]; exact ⟨t,u,rfl,k _ _ h,m,f.tk k⟩
theorem Gz (h:H' t=some (.tup [.str "push",.str q,u])) (m:q∈qs) (f:FmI bs qs H' u F):OwD bs qs H H' (.push q F) (.ref t):=fun H2 k _=>by simp only [dY]; exact ⟨t,u,rfl,k _ _ h,m,f.tk k⟩
theorem GG (h:H' t=some (.tup [.str "draw",.str x,u])) (m:x∈bs) (f:FmI bs qs H' u F):OwD bs qs H H' (.draw x F) (.ref t):=fun H2 k _=>by simp only [dY]; exact ⟨t,u,rfl,k _ _ h,m,f.tk k⟩
theorem JT (h:H' t=some (.tup [.str "end"])):OwD bs qs H H' .fin (.ref t):=fun H2 k _=>by simp only [dY]; exact ⟨t,rfl,k _ _ h⟩
theorem GH {to rk:Int} {sg:Str} (h:H' t=some (.tup [.str "send",.int to,.str sg,u,.int rk,u1,u2])) (f:FmI bs qs H' u F) (f1:FmI bs qs H' u1 F1) (f2:FmI bs qs H' u2 F2):OwD bs qs H H' (.send to sg F rk F1 F2) (.ref t):=fun H2 k _=>by simp only [dY]; exact ⟨t,u,u1,u2,rfl,k _ _ h,f.tk k,f1.tk k,f2.tk k⟩
theorem GJ {l:aa} {xs:List V} {d:Ds} (h:H' t=some (.tup [.str "pull",.str q,.str x,.ref l])) (mq:q∈qs) (mx:x∈bs) (hl:H l=none) (e:H' l=some (.lst xs)) (z:xs.length < 1000) (D:OwS bs qs H H' d xs):OwD bs qs H H' (.pull q x d) (.ref t):=fun H2 k n=>by
  simp only [dY]
  exact ⟨t,.ref l,rfl,k _ _ h,mq,mx,l,xs,rfl,n l xs hl D.now.ni e,z,D H2 k n⟩
theorem JU {l l':aa} {xs ys:List V} {d d':Ds} (h:H' t=some (.tup [.str "if",u,.ref l,.ref l'])) (f:FmI bs qs H' u F) (hl:H l=none) (e:H' l=some (.lst xs)) (z:xs.length < 1000) (D:OwS bs qs H H' d xs) (hl':H l'=none) (e':H' l'=some (.lst ys)) (z':ys.length < 1000) (D':OwS bs qs H H' d' ys):OwD bs qs H H' (.ife F d d') (.ref t):=fun H2 k n=>by
  simp only [dY]
  exact ⟨t,u,.ref l,.ref l',rfl,k _ _ h,f.tk k,⟨l,xs,rfl,n l xs hl D.now.ni e,z,D H2 k n⟩,l',ys,rfl,n l' ys hl' D'.now.ni e',z',D' H2 k n⟩
theorem w8:OwS bs qs H H' .nil []:=fun _ _ _=>by simp only [eJ]
end
end My
namespace My
open PySem L2
theorem jK {H:Hp} {p lb:aa} {bs:List Str} (pu:eK H p) (hb:H lb=some (.lst (bs.map V.str))):lb≠p:=by
  obtain ⟨x,y,e⟩:=pu
  refine kT hb e fun z=>?_
  cases bs with
  | nil=>cases z
  | cons b r=>cases z
theorem jY {bs:List Str} {r:Int} (h0:0<=r) (h1:r < bs.length):∃ x,atI (bs.map V.str) r=some (.str x)/\x∈bs:=by
  obtain ⟨j,rfl⟩:∃ j:Nat,r=(j:Int):=⟨r.toNat,by omega⟩
  have lt:j < bs.length:=by omega
  exact ⟨bs[j],jh (by rw [bQ,ax lt]; rfl),mO lt⟩
theorem gG.but {bs qs:List Str} {H H':Hp} {p:aa} {v:V} {f:Fm} (pu:eK H p) (b:But p H H') (h:gG bs qs H v f):gG bs qs H' v f:=h.mono fun t xs e=>dO.but pu b _ _ e (jB xs)
theorem iH {n:Int} (h:-1000000<=n/\n<=1000000):Wo n:=by
  have e:(10:Int) ^ 15=1000000000000000:=by decide
  unfold Wo
  omega
def w9:List Str:=["plus","less","times","part","rest","below","same"]
theorem EJ {r:Int} (h0:0<=r) (h1:r < 7):∃ x,atI (w9.map V.str) r=some (.str x)/\x∈Al:=by
  obtain ⟨x,hx,m⟩:=jY (bs:=w9) h0 h1
  refine ⟨x,hx,?_⟩
  have:∀ y∈w9,y∈Al:=by decide +kernel
  exact this x m
section
variable {P:aM} {w:bH} {K:af} {mg:Str->Option ae} {base:cB} {f fT:aa} {fd fdT:bY} {bs qs:List Str}
seal L2.PS L2.PSs L2.PE L2.PA L2.PT L2.PW L2.PI L2.PG L2.PGs L2.PC
abbrev nSm:List Str:=["_law_purse_here","_law_boxes","_law_queues","_law_most","_law_sort","_law_word","_law_one"]
abbrev pSm:List Str:=["_law_purse_here","_law_boxes","_law_queues","_law_most"]
theorem GK:bV nSm pSm (aQ iG):=⟨rfl,rfl,rfl,by decide +kernel,rfl,by decide +kernel,by decide +kernel⟩
def GV (bs qs:List Str) (n:Nat):Sp:=fun vs H Q _=>∃ (p lb lq:aa) (d:Int),vs=[.ref p,.ref lb,.ref lq,.int d]/\0<=d/\d < 3 * n/\eK H p/\H lb=some (.lst (bs.map V.str))/\H lq=some (.lst (qs.map V.str))/\(0 < bs.length/\bs.length<=9)/\(0 < qs.length/\qs.length<=9) /\
  ∀ (v:V) (F:Fm) (H':Hp),gG bs qs H' v F->F.depth<=n->eK H' p->But p H H'->Q v H'
theorem GX {n:Nat} (D:Df K mg "_law_small" iG pSm f fd) (DT:Df K mg "_law_take" fc pT fT fdT) (B:Bl mg) (GR:bT P w K mg base CX0 (n + 1) f fd pSm (GV bs qs n)):bT P w K mg base CX0 (n + 2) f fd pSm (GV bs qs (n + 1)):=by
  have GT:bT P w K mg base CX0 1 fT fdT pT oB:=mw DT B
  refine D.F.ok GK (fun vs H Q E h=>?_) (fun cdv A outer s H vs Q E hr h=>?_)
  · obtain ⟨p,lb,lq,d,rfl,_⟩:=h
    rfl
  obtain ⟨p,lb,lq,d,rfl,d0,dn,pu,hb,hq,lbs,lqs,k⟩:=h
  have r1:dP 1 _:=hr.mono (by omega)
  refine ⟨_,ak (bz (i:=4) GK.nd rfl (Or.inl rfl) (aS GT r1 (by rfl) DT.m DT.F.kp DT.b .nil cm (bN (pv 0) (dB ay ao))))
    (ak (cZ ((B7 (cu tI (pv 3) ay (cE _)) (yH (cu tI (pv 4) ay (cE _)))).pt) (aF (bX (bZ dZ (eT (ic (cR (dB bU (jJ (cP pf (aS GT r1 (by rfl) DT.m DT.F.kp DT.b .nil cm (bN (pv 0) (dB ay ao))) ay) ao))) (ic (cR (dB bU (EF (bZ dZ (pv 1) (aS GT r1 (by rfl) DT.m DT.F.kp DT.b .nil cm (bN (pv 0) (kP (dA (eR K (by rfl)) (by rfl) B.len cI (bN (pv 1) ao)) ao))) (fun _ _=>rfl)) ao))) (ic (cR (dB bU ao)) (ic (cR (dB bU (kP (aS GT r1 (by rfl) DT.m DT.F.kp DT.b .nil cm (bN (pv 0) (dB ay ao))) ao))) (ic (cR (dB bU (EF (bZ dZ (pv 2) (aS GT r1 (by rfl) DT.m DT.F.kp DT.b .nil cm (bN (pv 0) (kP (dA (eR K (by rfl)) (by rfl) B.len cI (bN (pv 2) ao)) ao))) (fun _ _=>rfl)) ao))) (ic (cR (dB bU (jJ (cP fJ ay (aS GT r1 (by rfl) DT.m DT.F.kp DT.b .nil cm (bN (pv 0) (dB ay ao)))) ao))) ao))))))) (cP lQ (pv 4) ay) (fun _ _=>rfl)))) cy)
    (ak (bz (i:=5) GK.nd rfl (Or.inl rfl) (bZ dZ (eT (dB bU (dB bU (dB bU (dB bU (dB bU (dB bU (dB bU ao)))))))) (aS GT r1 (by rfl) DT.m DT.F.kp DT.b .nil cm (bN (pv 0) (dB ay ao))) (fun _ _=>rfl)))
    (ak (bz (i:=6) GK.nd rfl (Or.inl rfl) (aS GR hr (by rfl) D.m D.F.kp D.b .nil cm (bN (pv 0) (bN (pv 1) (bN (pv 2) (jJ (cP vW (pv 3) ay) ao))))))
    (aF (bX (cR (bN (pv 5) (bN (pv 6) (kP (aS GR hr (by rfl) D.m D.F.kp D.b .nil cm (bN (pv 0) (bN (pv 1) (bN (pv 2) (jJ (cP vW (pv 3) ay) ao))))) ao))))))))),?_⟩
  have big:=eU
  refine bS (cJ ?_)
  refine ⟨_,rfl,p,10,rfl,pu,by decide,by decide,fun so G so0 so1 puG bG=>?_⟩
  refine aZ ?_
  dsimp only
  have hbG:=bG _ _ hb (jK pu hb)
  have hqG:=bG _ _ hq (jK pu hq)
  have nb:=jK puG hbG
  have nq:=jK puG hqG
  refine bS ?_
  refine oA (Det.or (zK rfl) fun _=>zK rfl) (fun c=>?_) (fun c=>?_)
  · -- one of six
    refine gK ?_
    refine ⟨_,rfl,p,7,rfl,puG,by decide,by decide,fun a1 G1 a10 a11 pu1 b1=>⟨_,_,rfl,rfl,lt2,fun t1 ht1=>?_⟩⟩
    have q1:=aD ht1 (.tup [.str "number",.int (a1 - 1)])
    have f1:gG bs qs (upd G1 t1 (.tup [.str "number",.int (a1 - 1)])) (.ref t1) (.num (a1 - 1)):=.num ah (iH (by omega))
    have pu1:=pu1.same q1
    have hb1:=q1 _ _ (b1 _ _ hbG nb)
    have hq1:=q1 _ _ (b1 _ _ hqG nq)
    have b1:But p H (upd G1 t1 (.tup [.str "number",.int (a1 - 1)])):=(bG.trans b1).same q1
    revert f1 pu1 hb1 hq1 b1
    clear q1 ht1
    generalize upd G1 t1 (.tup [.str "number",.int (a1 - 1)])=G1
    intro f1 pu1 hb1 hq1 b1
    refine ⟨_,rfl,_,rfl,_,rfl,lb,_,rfl,.inl (SqL.of hb1),p,_,rfl,pu1,by rw [ar]; omega,by rw [ar]; omega,fun a2 G2 a20 a21 pu2 b2=>?_⟩
    rw [ar] at a21
    obtain ⟨x,hx,mx⟩:=jY a20 a21
    refine ⟨lb,_,_,_,rfl,rfl,SqL.of (b2 _ _ hb1 nb),hx,lt2,fun t2 ht2=>⟨pE,fun t3 ht3=>?_⟩⟩
    have q2:=aD ht2 (.tup [.str "box",.str x])
    have q3:=aD ht3 (.tup [.str "now"])
    have f1:=(f1.but pu1 b2).mono fun t xs e=>q3 _ _ (q2 _ _ e)
    have f2:gG bs qs (upd (upd G2 t2 (.tup [.str "box",.str x])) t3 (.tup [.str "now"])) (.ref t2) (.box x):=.box (q3 _ _ ah) mx
    have f3:gG bs qs (upd (upd G2 t2 (.tup [.str "box",.str x])) t3 (.tup [.str "now"])) (.ref t3) .now:=.now ah
    have pu2:=(pu2.same q2).same q3
    have hq2:=q3 _ _ (q2 _ _ (b2 _ _ hq1 nq))
    have b2:But p H (upd (upd G2 t2 (.tup [.str "box",.str x])) t3 (.tup [.str "now"])):=((b1.trans b2).same q2).same q3
    revert f1 f2 f3 pu2 hq2 b2
    clear q2 q3 ht2 ht3
    generalize upd (upd G2 t2 (.tup [.str "box",.str x])) t3 (.tup [.str "now"])=G2
    intro f1 f2 f3 pu2 hq2 b2
    refine ⟨_,rfl,p,2,rfl,pu2,by decide,by decide,fun a4 G4 a40 a41 pu4 b4=>⟨lt2,fun t4 ht4=>?_⟩⟩
    have q4:=aD ht4 (.tup [.str "got",.int a4])
    have er:a4=if (decide (a4=1))=true then 1 else 0:=by
      by_cases c:a4=1
      · rw [decide_eq_true c,if_pos rfl]
        exact c
      · rw [decide_eq_false c,if_neg (by decide)]
        omega
    have f4:gG bs qs (upd G4 t4 (.tup [.str "got",.int a4])) (.ref t4) (.got (decide (a4=1))):=.got (by rw [ah,<- er])
    have f1:=(f1.but pu2 b4).mono fun t xs e=>q4 _ _ e
    have f2:=(f2.but pu2 b4).mono fun t xs e=>q4 _ _ e
    have f3:=(f3.but pu2 b4).mono fun t xs e=>q4 _ _ e
    have pu4:=pu4.same q4
    have hq4:=q4 _ _ (b4 _ _ hq2 nq)
    have b4:But p H (upd G4 t4 (.tup [.str "got",.int a4])):=(b2.trans b4).same q4
    revert f1 f2 f3 f4 pu4 hq4 b4
    clear q4 ht4
    generalize upd G4 t4 (.tup [.str "got",.int a4])=G4
    intro f4 f1 f2 f3 pu4 hq4 b4
    refine ⟨_,rfl,_,rfl,_,rfl,lq,_,rfl,.inl (SqL.of hq4),p,_,rfl,pu4,by rw [ar]; omega,by rw [ar]; omega,fun a5 G5 a50 a51 pu5 b5=>?_⟩
    rw [ar] at a51
    obtain ⟨y,hy,my⟩:=jY a50 a51
    refine ⟨lq,_,_,_,rfl,rfl,SqL.of (b5 _ _ hq4 nq),hy,lt2,fun t5 ht5=>?_⟩
    have q5:=aD ht5 (.tup [.str "long",.str y])
    have f5:gG bs qs (upd G5 t5 (.tup [.str "long",.str y])) (.ref t5) (.long y):=.long ah my
    have f1:=(f1.but pu4 b5).mono fun t xs e=>q5 _ _ e
    have f2:=(f2.but pu4 b5).mono fun t xs e=>q5 _ _ e
    have f3:=(f3.but pu4 b5).mono fun t xs e=>q5 _ _ e
    have f4:=(f4.but pu4 b5).mono fun t xs e=>q5 _ _ e
    have pu5:=pu5.same q5
    have b5:But p H (upd G5 t5 (.tup [.str "long",.str y])):=(b4.trans b5).same q5
    revert f1 f2 f3 f4 f5 pu5 b5
    clear q5 ht5
    generalize upd G5 t5 (.tup [.str "long",.str y])=G5
    intro f5 f1 f2 f3 f4 pu5 b5
    refine ⟨_,rfl,p,5,rfl,pu5,by decide,by decide,fun a6 G6 a60 a61 pu6 b6=>⟨_,_,rfl,rfl,lt2,fun t6 ht6=>⟨by show 6<=aA; omega,fun l hl=>?_⟩⟩⟩
    have q6:=(aD ht6 (.tup [.str "number",.int (1 + a6)])).trans (aD hl (.lst [.ref t1,.ref t2,.ref t3,.ref t4,.ref t5,.ref t6]))
    have f6:gG bs qs (upd (upd G6 t6 (.tup [.str "number",.int (1 + a6)])) l (.lst [.ref t1,.ref t2,.ref t3,.ref t4,.ref t5,.ref t6])) (.ref t6) (.num (1 + a6)):=.num ((aD hl _) _ _ ah) (iH (by omega))
    have g1:=(f1.but pu5 b6).mono fun t xs e=>q6 _ _ e
    have g2:=(f2.but pu5 b6).mono fun t xs e=>q6 _ _ e
    have g3:=(f3.but pu5 b6).mono fun t xs e=>q6 _ _ e
    have g4:=(f4.but pu5 b6).mono fun t xs e=>q6 _ _ e
    have g5:=(f5.but pu5 b6).mono fun t xs e=>q6 _ _ e
    have pu7:=pu6.same q6
    have b7:=(b5.trans b6).same q6
    have hl7:upd (upd G6 t6 (.tup [.str "number",.int (1 + a6)])) l (.lst [.ref t1,.ref t2,.ref t3,.ref t4,.ref t5,.ref t6]) l=_:=ah
    refine ⟨_,rfl,_,_,rfl,rfl,(by show (0:Int) < 6; decide),?_⟩
    have m0:=gN so (show (6:Int)≠0 by decide)
    have m1:=gf so (show (0:Int) < 6 by decide)
    obtain ⟨v,F,hat,hF,hd⟩:∃ (v:V) (F:Fm),atI [V.ref t1,.ref t2,.ref t3,.ref t4,.ref t5,.ref t6] (so % 6)=some v/\gG bs qs (upd (upd G6 t6 (.tup [.str "number",.int (1 + a6)])) l (.lst [.ref t1,.ref t2,.ref t3,.ref t4,.ref t5,.ref t6])) v F/\F.depth<=1:=by
      have cs:so % 6=0\/so % 6=1\/so % 6=2\/so % 6=3\/so % 6=4\/so % 6=5:=by omega
      rcases cs with e | e | e | e | e | e <;> rw [e]
      · exact ⟨_,_,rfl,g1,by show 1<=1; decide⟩
      · exact ⟨_,_,rfl,g2,by show 1<=1; decide⟩
      · exact ⟨_,_,rfl,g3,by decide⟩
      · exact ⟨_,_,rfl,g4,by show 1<=1; decide⟩
      · exact ⟨_,_,rfl,g5,by show 1<=1; decide⟩
      · exact ⟨_,_,rfl,f6,by show 1<=1; decide⟩
    exact ⟨l,_,_,_,rfl,rfl,SqL.of hl7,hat,k v F _ hF (by omega) pu7 b7⟩
  · rw [Bool.or_eq_false_iff] at c
    have c1:=of_decide_eq_false c.1
    refine mr ?_
    dsimp only
    -- of two
    refine bS (cJ ?_)
    refine ⟨by show 7<=aA; omega,fun l hl=>?_⟩
    have ql:=aD hl (.lst (w9.map V.str))
    refine ⟨_,rfl,p,7,rfl,puG.same ql,by decide,by decide,fun r G1 r0 r1' pu1 b1=>?_⟩
    have nlp:l≠p:=pH puG hl
    obtain ⟨x,hx,mx⟩:=EJ r0 r1'
    refine ⟨l,_,_,_,rfl,rfl,SqL.of (b1 _ _ ah nlp),hx,?_⟩
    refine aZ ?_
    dsimp only
    have hb1:=b1 _ _ (ql _ _ hbG) nb
    have hq1:=b1 _ _ (ql _ _ hqG) nq
    have bb1:But p H G1:=(bG.same ql).trans b1
    have dv:d / 2 < 3 * n:=by omega
    refine bS (cJ ?_)
    refine ⟨_,rfl,_,rfl,_,rfl,_,rfl,_,_,rfl,rfl,⟨by decide,by omega⟩,p,lb,lq,d / 2,rfl,by omega,dv,pu1,hb1,hq1,lbs,lqs,fun v1 F1 G2 hF1 dF1 pu2 b2=>?_⟩
    refine aZ ?_
    dsimp only
    refine gK ?_
    refine ⟨_,rfl,_,rfl,_,rfl,_,rfl,_,rfl,_,rfl,_,_,rfl,rfl,⟨by decide,by omega⟩,p,lb,lq,d / 2,rfl,by omega,dv,pu2,b2 _ _ hb1 nb,b2 _ _ hq1 nq,lbs,lqs,fun v2 F2 G3 hF2 dF2 pu3 b3=>⟨by show 3<=aA; omega,fun t ht=>?_⟩⟩
    have qt:=aD ht (.tup [.str x,v1,v2])
    exact k _ (.two x F1 F2) _ (.two ah mx ((hF1.but pu2 b3).mono fun t xs e=>qt _ _ e) (hF2.mono fun t xs e=>qt _ _ e)) (by show max F1.depth F2.depth + 1<=n + 1; omega) (pu3.same qt) (((bb1.trans b2).trans b3).same qt)
theorem HU (D:Df K mg "_law_small" iG pSm f fd) (DT:Df K mg "_law_take" fc pT fT fdT) (B:Bl mg):∀ n:Nat,bT P w K mg base CX0 (n + 1) f fd pSm (GV bs qs n)
  | 0=>⟨fun vs H Q E h=>by
      obtain ⟨p,lb,lq,d,_,h0,h,_⟩:=h
      omega,fun A outer s H args us vs Q E _ _ _ _ h=>by
      obtain ⟨p,lb,lq,d,_,h0,h,_⟩:=h
      omega⟩
  | n + 1=>GX D DT B (HU D DT B n)
end
end My
namespace L2
open PySem PySem.Spec PyProof.Rows
section
variable {prog:aM} {w:bH} {A:bP} {E:ae->aj->Prop} {s:aj}
theorem BE (ys:Array ae) {j:Nat} (n:Nat) (l:j < ys.size):(ys.toList.drop j).take (n + 1)=ys[j] :: (ys.toList.drop (j + 1)).take n:=by
  rw [kS (by simpa using l),List.take_succ_cons]
  simp
theorem uC {u l:aa} {ys:Array ae} (nu:l≠u):∀ (n j:Nat) (s:aj) (R:List ae->aj->Prop),s.heap.IsListIter u l j->s.heap.IsList l ys->j + n<=ys.size ->
    (∀ g:cB,g.IsListIter u l (j + n)->mX u s.heap g->R ((ys.toList.drop j).take n) {s with heap:=g})->aU (aW prog w) A (draw (.ref u) n) R E s
  | 0,j,s,R,hu,_,_,kR=>aN (by simpa using kR s.heap hu (Heap.SameBut.refl ..))
  | n + 1,j,s,R,hu,hy,hb,kR=>by
    have lj:j < ys.size:=by omega
    refine ai (m:=pyNext (.ref u)) (pe hu hy (x:=ys[j]) (by simp [lj]) fun g1 u1 s1=>ai (c7 (uC nu n (j + 1) _ _ u1 (hy.extBut s1.extBut nu) (by omega) fun g2 u2 s2=>aN ?_)))
    have z:=kR g2 (by rw [<- Nat.add_assoc,Nat.add_right_comm]; exact u2) (s1.trans s2)
    rw [BE ys n lj] at z
    exact z
theorem xa {l:aa} {ys:Array ae} {R:List ae->aj->Prop} (hd:A.handled=none) (hy:s.heap.IsList l ys)
    (kR:∀ g,Heap.ExtBut s.heap.objs.size s.heap g->R ys.toList {s with heap:=g}):aU (aW prog w) A (unpackItems (.ref l) ys.size none) R E s:=by
  have ne:l≠s.heap.objs.size:=by
    obtain ⟨o,e,_⟩:=hy
    exact aL (aK e)
  unfold unpackItems notIterableAtAll
  refine ai (ai (wpAny_specialOf hy.typeIs slot_list_iter.lookup (aN ?_)))
  simp only [iK,if_false]
  refine ai (c7 (uI hy (ai (c7 (uC ne ys.size 0 _ _ ⟨_,cv _ rfl,rfl,rfl⟩ (hy.push _) (by omega) fun g1 u1 s1=>?_)))))
  rw [o7,yE (by simp),if_neg (by simp)]
  refine ai (c7 (p7 hd u1 ((hy.push _).extBut s1.extBut ne) (by simp) fun g2 e2=>?_))
  simp only [Option.isSome_none,iK,if_false]
  exact aN (kR g2 fun b o nb e=>e2 b o nb (s1.extBut b o nb (aI _ e)))
end
section
variable {X:Cx} {pos:Pos}
def gLst (K:af) (n:Nat) (t:TGs):TG:=fun v σ H Q=>∃ a xs,v=.ref a/\SqL K H a xs/\xs.length=n/\t xs σ H Q
theorem EK {es:List cX} {k:Nat} {t:TGs} {n:Nat} (hc:X.calm=true) (h:PGs X es t) (hn:(gO es X.env).length=n:=by rfl) (hf:(gO es X.env).findIdx? (·.1)=none:=by rfl):PG X (.Tuple es k pos) (gLst X.K n t):=by
  intro pins s σ H v u Q I r ⟨a,xs,ea,hq,hl,hw⟩
  subst ea
  cases r
  obtain ⟨its,rv,hp,_⟩:=I.list hq
  rw [assign_Tuple]
  refine ai (sJ ?_)
  unfold unpack
  rw [show (gO es X.env).length=its.toArray.size by simp [hn,<- hl,rv.length],hf]
  refine ai (c7 (xa (I.ok.hd hc) hp.isList fun g ex=>?_))
  exact h pins _ σ H xs _ Q (I.kept (t':=s.toks) fun b o e=>ex b o (aL (aK e)) e) (by simpa using rv) hw
end
end L2
namespace My
open PySem L2
theorem zM {X:Cx} {st:df} {t:TS} (t':TS) (h:PS X st t) (k:∀ D σ H,t' D σ H->t D σ H):PS X st t':=fun pins s σ H D I q=>h pins s σ H D I (k D σ H q)
theorem BF {α:Type} {xs:List α} {i:Nat} {x:α} (h:xs[i]?=some x):xs.set i x=xs:=by
  obtain ⟨lt,e⟩:=aB.mp h
  rw [<- e]
  exact List.set_getElem_self lt
structure Lf (H:Hp) (p lf:aa):Prop where
  pu:eK H p
  hl:∃ k:Int,H lf=some (.lst [.int k])
theorem Lf.int {H:Hp} {p lf:aa} (h:Lf H p lf):∀ a∈[p,lf],∃ (i:Int) (r:List V),H a=some (.lst (.int i :: r)):=fun a m=>by
  obtain ⟨x,y,e⟩:=h.pu
  obtain ⟨z,e'⟩:=h.hl
  rcases au.mp m with rfl | m
  · exact ⟨x,_,e⟩
  · rw [aH.mp m]
    exact ⟨z,_,e'⟩
theorem Lf.ne {H:Hp} {p lf:aa} (h:Lf H p lf):lf≠p:=by
  obtain ⟨x,y,e⟩:=h.pu
  obtain ⟨z,e'⟩:=h.hl
  exact kT e' e (by intro q; cases q)
theorem Lf.but {H H':Hp} {p lf:aa} (h:Lf H p lf) (b:But p H H') (pu:eK H' p):Lf H' p lf:=by
  obtain ⟨z,e'⟩:=h.hl
  exact ⟨pu,z,b _ _ e' h.ne⟩
theorem Lf.same {H H':Hp} {p lf:aa} (h:Lf H p lf) (s:bM H H'):Lf H' p lf:=by
  obtain ⟨z,e'⟩:=h.hl
  exact ⟨h.pu.same s,z,s _ _ e'⟩
def oE:Ds->Dd->Ds
  | .nil,d=>.cons d .nil
  | .cons a r,d=>.cons a (oE r d)
theorem AH {bs qs:List Str} {H:Hp} {d:Dd} {v:V} (hd:dY bs qs H d v):∀ (ds:Ds) (xs:List V),eJ bs qs H ds xs->eJ bs qs H (oE ds d) (xs++[v])
  | .nil,xs,h=>by
    have e:xs=[]:=by simpa only [eJ] using h
    subst e
    unfold oE
    simp only [eJ]
    exact ⟨v,[],rfl,hd,rfl⟩
  | .cons a r,xs,h=>by
    obtain ⟨u,ur,rfl,h1,h2⟩:=(by simpa only [eJ] using h)
    unfold oE
    simp only [eJ]
    exact ⟨u,ur++[v],rfl,h1,AH hd r ur h2⟩
theorem AI {m:Int} {d:Dd} (hd:d.toOk m):∀ ds:Ds,ds.toOk m->(oE ds d).toOk m
  | .nil,_=>⟨hd,trivial⟩
  | .cons a r,h=>⟨h.1,AI hd r h.2⟩
theorem vO (d:Dd):∀ ds:Ds,(oE ds d).deep=max ds.deep d.deep
  | .nil=>by
    show max d.deep 0=max 0 d.deep
    exact Nat.max_comm _ _
  | .cons a r=>by
    show max a.deep (oE r d).deep=max (max a.deep r.deep) d.deep
    rw [vO d r]
    exact (Nat.max_assoc _ _ _).symm
theorem vP (d:Dd):∀ ds:Ds,(oE ds d).size=ds.size + d.size
  | .nil=>by
    show d.size + 0=0 + d.size
    omega
  | .cons a r=>by
    show a.size + (oE r d).size=a.size + r.size + d.size
    rw [vP d r]
    omega
theorem EL {bs qs:List Str} {H H':Hp} {ds:Ds} {xs:List V} {d:Dd} {v:V} (a:OwS bs qs H H' ds xs) (b:OwD bs qs H H' d v):OwS bs qs H H' (oE ds d) (xs++[v]):=fun H2 k n=>AH (b H2 k n) ds xs (a H2 k n)
theorem GY:∀ n,1<=ddz n
  | 0=>aC _
  | n + 1=>by
    show 1<=1 + 6 * ddz n
    omega
theorem Kp.dm {own:List aa} {H G:Hp} (k:Kp own H G) (h:∀ a∈own,∃ o,G a=some o):Dm H G:=fun a n=>by
  cases e:H a with
  | none=>rfl
  | some o =>
    by_cases m:a∈own
    · obtain ⟨u,q⟩:=h a m
      rw [q] at n
      cases n
    · rw [k a o e m] at n
      cases n
theorem Lf.there {H:Hp} {p lf:aa} (h:Lf H p lf):∀ a∈[p,lf],∃ o,H a=some o:=fun a m=>by
  obtain ⟨i,r,e⟩:=h.int a m
  exact ⟨_,e⟩
end My
namespace My
open PySem L2
def HV:TS:=fun D σ H=>∃ v13 v11 w,σ[13]?=some (some v13)/\σ[11]?=some (some v11)/\σ[8]?=some (some (.int w))/\∀ v,(v=v13\/v=v11)->D.nx (σ.set 13 (some v)) H
theorem JV {D:jM} {σ:St} {H:Hp} (h:HV D σ H):B9 (vc (tOp rEq (tE 8) (tC (.int 8)))) (AX (tE 11) (u9 13)) m8 D σ H:=by
  obtain ⟨v13,v11,w,h13,h11,h8,k⟩:=h
  refine oA (uA h8) (fun _=>cJ ⟨_,h11,aZ (k v11 (.inr rfl))⟩) (fun _=>mr ?_)
  have z:=k v13 (.inl rfl)
  rw [BF h13] at z
  exact z
def endJ:TS:=fun D σ H=>∃ (p:aa) (w:Int),σ[0]?=some (some (.ref p))/\σ[8]?=some (some (.int w))/\eK H p/\(∀ (H':Hp) (t:aa),eK H' p->But p H H'->H' t=none->D.rt (.ref t) (upd H' t (.tup [.str "end"])))/\∀ H',eK H' p->But p H H'->D.nx σ H'
structure Th (H:Hp) (lt lb lq ls:aa) (m:Int) (bs qs sgs:List Str):Prop where
  ht:H lt=some (.lst [.ref lb,.ref lq,.ref ls,.int m])
  hb:H lb=some (.lst (bs.map V.str))
  hq:H lq=some (.lst (qs.map V.str))
  hs:H ls=some (.lst (sgs.map V.str))
  lb:0 < bs.length/\bs.length<=9
  lq:0 < qs.length/\qs.length<=9
  ls:0 < sgs.length/\sgs.length<=9
  m0:0 < m/\m < 1000
theorem GZ {a:aa} {xs:List V}:vN (.lst (.ref a :: xs)):=.inr ⟨_,rfl,fun i r z=>by cases z⟩
theorem Th.keepI {H H':Hp} {lt lb lq ls:aa} {m:Int} {bs qs sgs:List Str} (k:dO H H') (h:Th H lt lb lq ls m bs qs sgs):Th H' lt lb lq ls m bs qs sgs:=
  ⟨k _ _ h.ht GZ,k _ _ h.hb (w6 _),k _ _ h.hq (w6 _),k _ _ h.hs (w6 _),h.lb,h.lq,h.ls,h.m0⟩
section
variable {P:aM} {w:bH} {K:af} {mg:Str->Option ae} {base:cB} {f fT fSm fS fE:aa} {fd fdT fdSm fdS fdE:bY} {bs qs sgs:List Str}
seal L2.PS L2.PSs L2.PE L2.PA L2.PT L2.PW L2.PI L2.PG L2.PGs L2.PC
abbrev nLd:List Str:=["_law_purse_here","_law_things","_law_left","_law_deep","_law_boxes","_law_queues","_law_signs","_law_many","_law_sort","_law_box","_law_queue","_law_one","_law_ones","_law_span","_law_sign","_law_rank"]
abbrev pLd:List Str:=["_law_purse_here","_law_things","_law_left","_law_deep"]
theorem qE:bV nLd pLd (aQ gm):=⟨rfl,rfl,rfl,by decide +kernel,rfl,by decide +kernel,by decide +kernel⟩
abbrev nLs:List Str:=["_law_purse_here","_law_things","_law_left","_law_deep","_law_found","_law_k"]
abbrev pLs:List Str:=["_law_purse_here","_law_things","_law_left","_law_deep"]
theorem JW:bV nLs pLs (aQ gz):=⟨rfl,rfl,rfl,by decide +kernel,rfl,by decide +kernel,by decide +kernel⟩
def Ha (bs qs sgs:List Str) (n:Nat):Sp:=fun vs H Q _=>∃ (p lt lb lq ls lf:aa) (m:Int) (d:Nat),vs=[.ref p,.ref lt,.ref lf,.int d]/\d < n/\Lf H p lf/\Th H lt lb lq ls m bs qs sgs /\
  ∀ (v:V) (dd:Dd) (H':Hp),OwD bs qs H H' dd v->dd.toOk m->dd.deep<=d + 1->dd.size<=ddz d->Lf H' p lf->Kp [p,lf] H H'->Q v H'
def JX (bs qs sgs:List Str) (n:Nat):Sp:=fun vs H Q _=>∃ (p lt lb lq ls lf:aa) (m:Int) (d:Nat),vs=[.ref p,.ref lt,.ref lf,.int d]/\d < n/\Lf H p lf/\Th H lt lb lq ls m bs qs sgs /\
  ∀ (l:aa) (xs:List V) (ds:Ds) (H':Hp),H l=none->H' l=some (.lst xs)->xs.length < 1000->OwS bs qs H H' ds xs->ds.toOk m->ds.deep<=d->2 * ds.size + 1<=ddz d->Lf H' p lf->Kp [p,lf] H H'->Q (.ref l) H'
theorem AJ {n kk:Nat} (hk:3<=kk) (D:Df K mg "_law_live_deed" gm pLd f fd) (DS:Df K mg "_law_live_deeds" gz pLs fS fdS) (GS:bT P w K mg base CX0 kk fS fdS pLs (JX bs qs sgs n)) (DSm:Df K mg "_law_small" iG pSm fSm fdSm) (DT:Df K mg "_law_take" fc pT fT fdT) (B:Bl mg) :
    bT P w K mg base CX0 (kk + 1) f fd pLd (Ha bs qs sgs n):=by
  have GT:bT P w K mg base CX0 1 fT fdT pT oB:=mw DT B
  have GSm:bT P w K mg base CX0 3 fSm fdSm pSm (GV bs qs 2):=HU DSm DT B 2
  refine D.F.ok qE (fun vs H Q E h=>?_) (fun cdv A outer s H vs Q E hr h=>?_)
  · obtain ⟨p,lt,lb,lq,ls,lf,m,d,rfl,_⟩:=h
    rfl
  obtain ⟨p,lt,lb,lq,ls,lf,m,d,rfl,dn,L,T,k⟩:=h
  have r1:dP 1 _:=hr.mono (by omega)
  have r3:dP 3 _:=hr.mono hk
  refine ⟨_,ak (tG (pv 1) (EK rfl (gA (dy (i:=4) qE.nd rfl (Or.inl rfl)) (gA (dy (i:=5) qE.nd rfl (Or.inl rfl)) (gA (dy (i:=6) qE.nd rfl (Or.inl rfl)) (gA (dy (i:=7) qE.nd rfl (Or.inl rfl)) p0))))))
    (ak (tG (cP pf (bZ dZ (pv 2) ay (fun _ _=>rfl)) ay) (yJ (pv 2) ay tS))
    (ak (bz (i:=8) qE.nd rfl (Or.inl rfl) (aS GT r1 (by rfl) DT.m DT.F.kp DT.b .nil cm (bN (pv 0) (dB ay ao))))
    (ak (bz (i:=9) qE.nd rfl (Or.inl rfl) (bZ dZ (pv 4) (aS GT r1 (by rfl) DT.m DT.F.kp DT.b .nil cm (bN (pv 0) (kP (dA (eR K (by rfl)) (by rfl) B.len cI (bN (pv 4) ao)) ao))) (fun _ _=>rfl)))
    (ak (bz (i:=10) qE.nd rfl (Or.inl rfl) (bZ dZ (pv 5) (aS GT r1 (by rfl) DT.m DT.F.kp DT.b .nil cm (bN (pv 0) (kP (dA (eR K (by rfl)) (by rfl) B.len cI (bN (pv 5) ao)) ao))) (fun _ _=>rfl)))
    (ak (bz (i:=11) qE.nd rfl (Or.inl rfl) (aS GSm r3 (by rfl) DSm.m DSm.F.kp DSm.b .nil cm (bN (pv 0) (bN (pv 4) (bN (pv 5) (dB ay ao))))))
    (ak (cZ (cu tI (pv 8) ay (cE _)) (aF (bX (cR (dB bU (bN (pv 9) (bN (pv 11) ao)))))) cy)
    (ak (cZ (cu ff (pv 8) ay (cE _)) (aF (bX (cR (dB bU (bN (pv 10) (bN (pv 11) ao)))))) cy)
    (ak (cZ (cu ff (pv 8) ay (cE _)) (aF (bX (cR (dB bU (bN (pv 10) (bN (pv 9) (kP (aS GS hr (by rfl) DS.m DS.F.kp DS.b .nil cm (bN (pv 0) (bN (pv 1) (bN (pv 2) (bN (pv 3) ao))))) ao))))))) cy)
    (ak (cZ (cu ff (pv 8) ay (cE _)) (aF (bX (cR (dB bU (bN (pv 9) (ic (cR (dB bU (jJ (cP fJ ay (aS GT r1 (by rfl) DT.m DT.F.kp DT.b .nil cm (bN (pv 0) (dB ay ao)))) ao))) ao)))))) cy)
    (ak (cZ (cu ff (pv 8) ay (cE _)) (ak (bz (i:=12) qE.nd rfl (Or.inl rfl) (aS GS hr (by rfl) DS.m DS.F.kp DS.b .nil cm (bN (pv 0) (bN (pv 1) (bN (pv 2) (bN (pv 3) ao))))))
    (aF (bX (cR (dB bU (bN (pv 11) (bN (pv 12) (kP (aS GS hr (by rfl) DS.m DS.F.kp DS.b .nil cm (bN (pv 0) (bN (pv 1) (bN (pv 2) (bN (pv 3) ao))))) ao)))))))) cy)
    (ak (zM endJ (cZ ((B6 (cu ff (pv 8) ay (cE _)) (zS (cu ff (aS GT r1 (by rfl) DT.m DT.F.kp DT.b .nil cm (bN (pv 0) (dB ay ao))) ay (cE _)))).pt) (aF (bX (cR (dB bU ao)))) cy) (fun D σ H q=>by
      obtain ⟨p,w,h0,h8,pu,k1,k2⟩:=q
      refine ⟨_,h8,rfl,_,rfl,?_⟩
      refine jt (fun _=>?_) (fun _=>?_)
      · exact ⟨_,h0,p,6,rfl,pu,by decide,by decide,fun r G r0 r1' puG bG=>⟨rfl,_,rfl,jt (fun _=>⟨pE,fun t ht=>k1 G t puG bG ht⟩) (fun _=>k2 G puG bG)⟩⟩
      · exact fV (k2 H pu (But.refl _ _))))
    (ak (bz (i:=13) qE.nd rfl (Or.inl rfl) (cR (dB bU (jJ (cP fJ ay (aS GT r1 (by rfl) DT.m DT.F.kp DT.b .nil cm (bN (pv 0) (dB ay ao)))) ao))))
    (ak (zM HV (cZ (cu ff (pv 8) ay (cE _)) (aF (bz (i:=13) qE.nd rfl (Or.inl rfl) (pv 11))) cy) (fun D σ H q=>JV q))
    (ak (bz (i:=14) qE.nd rfl (Or.inl rfl) (bZ dZ (pv 6) (aS GT r1 (by rfl) DT.m DT.F.kp DT.b .nil cm (bN (pv 0) (kP (dA (eR K (by rfl)) (by rfl) B.len cI (bN (pv 6) ao)) ao))) (fun _ _=>rfl)))
    (ak (bz (i:=15) qE.nd rfl (Or.inl rfl) (aS GT r1 (by rfl) DT.m DT.F.kp DT.b .nil cm (bN (pv 0) (dB ay ao))))
    (aF (bX (cR (dB bU (kP (aS GT r1 (by rfl) DT.m DT.F.kp DT.b .nil cm (bN (pv 0) (bN (pv 7) ao))) (bN (pv 14) (bN (pv 13) (bN (pv 15) (bN (pv 11) (ic (cR (dB bU ao)) ao))))))))))))))))))))))))),?_⟩
  have big:=eU
  have mp:p∈[p,lf]:=aw
  have dz:=GY d
  have mf:lf∈[p,lf]:=ag _ aw
  -- the names, one less is left
  refine bS (cJ ?_)
  refine ⟨_,rfl,lt,_,rfl,SqL.of T.ht,rfl,_,_,rfl,_,_,rfl,_,_,rfl,_,_,rfl,rfl,?_⟩
  dsimp only
  refine bS (cJ ?_)
  obtain ⟨kl,hkl⟩:=L.hl
  refine ⟨_,rfl,lf,_,_,_,rfl,rfl,SqL.of hkl,rfl,_,_,rfl,rfl,?_⟩
  refine ⟨_,rfl,lf,_,_,0,rfl,rfl,hkl,rfl,?_⟩
  dsimp only
  have L0:Lf (upd H lf (.lst ([V.int kl].set 0 (.int (kl - 1))))) p lf:=⟨oQ L.pu L.ne,kl - 1,ah⟩
  have k0:Kp [p,lf] H (upd H lf (.lst ([V.int kl].set 0 (.int (kl - 1))))):=Kp.upd mf
  have T0:=T.keepI (k0.keepI L.int)
  revert L0 k0 T0
  generalize upd H lf (.lst ([V.int kl].set 0 (.int (kl - 1))))=G0
  intro L0 k0 T0
  -- the sort, a box, a queue, a formula
  refine bS (cJ ?_)
  refine ⟨_,rfl,p,12,rfl,L0.pu,by decide,by decide,fun so G1 so0 so1 pu1 b1=>?_⟩
  refine aZ ?_
  dsimp only
  have L1:=L0.but b1 pu1
  have k1:Kp [p,lf] H G1:=k0.trans (Kp.but b1 mp)
  have T1:=T0.keepI (dO.but L0.pu b1)
  have lb9:=T.lb
  have lq9:=T.lq
  have ls9:=T.ls
  refine bS (cJ ?_)
  refine ⟨_,rfl,_,rfl,_,rfl,lb,_,rfl,.inl (SqL.of T1.hb),p,_,rfl,pu1,by rw [ar]; omega,by rw [ar]; omega,fun r G2 r0 r1' pu2 b2=>?_⟩
  rw [ar] at r1'
  obtain ⟨x,hx,mx⟩:=jY r0 r1'
  have L2':=L1.but b2 pu2
  have k2:Kp [p,lf] H G2:=k1.trans (Kp.but b2 mp)
  have T2:=T1.keepI (dO.but L1.pu b2)
  refine ⟨lb,_,_,_,rfl,rfl,SqL.of T2.hb,hx,?_⟩
  refine aZ ?_
  dsimp only
  refine bS (cJ ?_)
  refine ⟨_,rfl,_,rfl,_,rfl,lq,_,rfl,.inl (SqL.of T2.hq),p,_,rfl,pu2,by rw [ar]; omega,by rw [ar]; omega,fun r3' G3 r30 r31 pu3 b3=>?_⟩
  rw [ar] at r31
  obtain ⟨y,hy,my⟩:=jY r30 r31
  have L3:=L2'.but b3 pu3
  have k3:Kp [p,lf] H G3:=k2.trans (Kp.but b3 mp)
  have T3:=T2.keepI (dO.but L2'.pu b3)
  refine ⟨lq,_,_,_,rfl,rfl,SqL.of T3.hq,hy,?_⟩
  refine aZ ?_
  dsimp only
  refine bS (cJ ?_)
  refine ⟨_,rfl,_,rfl,_,rfl,p,lb,lq,5,rfl,by decide,by decide,pu3,T3.hb,T3.hq,lb9,lq9,fun vf F G hF dF puG bG=>?_⟩
  refine aZ ?_
  dsimp only
  have L4:=L3.but bG puG
  have kG:Kp [p,lf] H G:=k3.trans (Kp.but bG mp)
  have T4:=T3.keepI (dO.but L3.pu bG)
  have dmG:Dm H G:=kG.dm L4.there
  have fI:FmI bs qs G vf F:=⟨hF,by omega⟩
  clear k3 k2 k1 k0 L3 L2' L1 L0 T3 T2 T1 T0 b3 b2 b1 pu3 pu2 pu1 bG
  refine bS ?_
  refine oA (zK rfl) (fun _=>?_) (fun _=>?_)
  · refine gK ⟨_,rfl,_,rfl,by show 3<=aA; omega,fun t ht=>?_⟩
    have st_:=aD ht (.tup [.str "put",.str x,vf])
    exact k _ (.put x F) _ (JS ah mx (fI.keepI (dO.same st_))) trivial (bj _) dz (L4.same st_) (kG.trans (Kp.same st_))
  refine mr ?_
  dsimp only
  refine bS ?_
  refine oA (uA rfl) (fun _=>?_) (fun _=>?_)
  · refine gK ⟨_,rfl,_,rfl,by show 3<=aA; omega,fun t ht=>?_⟩
    have st_:=aD ht (.tup [.str "push",.str y,vf])
    exact k _ (.push y F) _ (Gz ah my (fI.keepI (dO.same st_))) trivial (bj _) dz (L4.same st_) (kG.trans (Kp.same st_))
  refine mr ?_
  dsimp only
  refine bS ?_
  refine oA (uA rfl) (fun _=>?_) (fun _=>?_)
  · refine gK ⟨_,rfl,_,rfl,_,rfl,_,rfl,_,rfl,_,rfl,p,lt,lb,lq,ls,lf,m,d,rfl,dn,L4,T4,fun l1 xs1 ds1 G1 hl1 h1 len1 O1 t1 dp1 sz1 L1 k1=>⟨by show 4<=aA; omega,fun t ht=>?_⟩⟩
    have st_:=aD ht (.tup [.str "pull",.str y,.str x,.ref l1])
    refine k _ (.pull y x ds1) _ (GJ ah my mx (dmG l1 hl1) (st_ _ _ h1) len1 ((O1.base dmG).keepI (dO.same st_))) t1 ?_ ?_ (L1.same st_) ((kG.trans k1).trans (Kp.same st_))
    · show ds1.deep + 1<=d + 1
      omega
    · show ds1.size + 1<=ddz d
      omega
  refine mr ?_
  dsimp only
  refine bS ?_
  refine oA (uA rfl) (fun _=>?_) (fun _=>?_)
  · refine gK ⟨_,rfl,_,rfl,p,9,rfl,puG,by decide,by decide,fun a G1 a0 a1 pu1 b1=>⟨_,_,rfl,rfl,lt2,fun t1 ht1=>⟨by show 3<=aA; omega,fun t ht=>?_⟩⟩⟩
    have s1:=aD ht1 (.tup [.str "number",.int (1 + a)])
    have st_:=aD ht (.tup [.str "draw",.str x,.ref t1])
    exact k _ (.draw x (.num (1 + a))) _ (GG ah mx ⟨.num (st_ _ _ ah) (iH (by omega)),by show 1<=15; decide⟩) trivial (bj _) dz (((L4.but b1 pu1).same s1).same st_) (((kG.trans (Kp.but b1 mp)).trans (Kp.same s1)).trans (Kp.same st_))
  refine mr ?_
  dsimp only
  refine bS ?_
  refine oA (uA rfl) (fun _=>?_) (fun _=>?_)
  · refine bS (cJ ?_)
    refine ⟨_,rfl,_,rfl,_,rfl,_,rfl,p,lt,lb,lq,ls,lf,m,d,rfl,dn,L4,T4,fun l1 xs1 ds1 G1 hl1 h1 len1 O1 t1 dp1 sz1 L1 k1=>?_⟩
    refine aZ ?_
    dsimp only
    have ki1:=k1.keepI L4.int
    have T5:=T4.keepI ki1
    have dm1:Dm G G1:=k1.dm L1.there
    refine gK ⟨_,rfl,_,rfl,_,rfl,_,rfl,_,rfl,_,rfl,p,lt,lb,lq,ls,lf,m,d,rfl,dn,L1,T5,fun l2 xs2 ds2 G2 hl2 h2 len2 O2 t2 dp2 sz2 L2' k2=>⟨by show 4<=aA; omega,fun t ht=>?_⟩⟩
    have ki2:=k2.keepI L1.int
    have st_:=aD ht (.tup [.str "if",vf,.ref l1,.ref l2])
    refine k _ (.ife F ds1 ds2) _ (JU ah (fI.keepI ((ki1.trans ki2).trans (dO.same st_))) (dmG l1 hl1) (st_ _ _ (ki2 _ _ h1 O1.now.ni)) len1 ((O1.base dmG).keepI (ki2.trans (dO.same st_))) (dmG l2 (dm1 l2 hl2)) (st_ _ _ h2) len2 ((O2.base (dmG.trans dm1)).keepI (dO.same st_))) ⟨t1,t2⟩ ?_ ?_ (L2'.same st_) (((kG.trans k1).trans k2).trans (Kp.same st_))
    · show max ds1.deep ds2.deep + 1<=d + 1
      omega
    · show ds1.size + ds2.size + 1<=ddz d
      omega
  refine mr ?_
  dsimp only
  refine bS ?_
  refine ⟨p,so,rfl,rfl,puG,fun H' t pu' b' ht=>?_,fun G1 pu1 b1=>?_⟩
  · have st_:=aD ht (.tup [.str "end"])
    exact k _ .fin _ (JT ah) trivial (bj _) dz ((L4.but b' pu').same st_) ((kG.trans (Kp.but b' mp)).trans (Kp.same st_))
  dsimp only
  have L5:=L4.but b1 pu1
  have k5:Kp [p,lf] H G1:=kG.trans (Kp.but b1 mp)
  have ki5:=dO.but puG b1
  have T5:=T4.keepI ki5
  refine bS (cJ ?_)
  refine ⟨_,rfl,p,9,rfl,pu1,by decide,by decide,fun a G2 a0 a1 pu2 b2=>⟨_,_,rfl,rfl,lt2,fun t1 ht1=>?_⟩⟩
  have s1:=aD ht1 (.tup [.str "number",.int (1 + a)])
  refine aZ ?_
  dsimp only
  have ki6:=(ki5.trans (dO.but pu1 b2)).trans (dO.same s1)
  have T6:=T4.keepI ki6
  have L6:=(L5.but b2 pu2).same s1
  have k6:Kp [p,lf] H (upd G2 t1 (.tup [.str "number",.int (1 + a)])):=(k5.trans (Kp.but b2 mp)).trans (Kp.same s1)
  have f1:=fI.keepI ki6
  have f2:FmI bs qs (upd G2 t1 (.tup [.str "number",.int (1 + a)])) (.ref t1) (.num (1 + a)):=⟨.num ah (iH (by omega)),by show 1<=15; decide⟩
  revert T6 L6 k6 f1 f2
  clear ki6 s1 ht1
  generalize upd G2 t1 (.tup [.str "number",.int (1 + a)])=G6
  intro T6 L6 k6 f1 f2
  refine bS ?_
  refine ⟨_,_,_,rfl,rfl,rfl,fun vs hvs=>?_⟩
  obtain ⟨SF,hSF⟩:∃ SF,FmI bs qs G6 vs SF:=by
    rcases hvs with rfl | rfl
    · exact ⟨_,f2⟩
    · exact ⟨_,f1⟩
  dsimp only
  refine bS (cJ ?_)
  refine ⟨_,rfl,_,rfl,_,rfl,ls,_,rfl,.inl (SqL.of T6.hs),p,_,rfl,L6.pu,by rw [ar]; omega,by rw [ar]; omega,fun r7 G7 r70 r71 pu7 b7=>?_⟩
  rw [ar] at r71
  obtain ⟨z,hz,mz⟩:=jY r70 r71
  have ki7:=dO.but L6.pu b7
  have T7:=T6.keepI ki7
  refine ⟨ls,_,_,_,rfl,rfl,SqL.of T7.hs,hz,?_⟩
  refine aZ ?_
  dsimp only
  refine bS (cJ ?_)
  refine ⟨_,rfl,p,3,rfl,pu7,by decide,by decide,fun r8 G8 r80 r81 pu8 b8=>?_⟩
  refine aZ ?_
  dsimp only
  have mm:=T.m0
  refine gK ⟨_,rfl,_,rfl,p,m,rfl,pu8,by omega,by omega,fun r9 G9 r90 r91 pu9 b9=>⟨_,rfl,_,rfl,_,rfl,_,rfl,pE,fun t9 ht9=>⟨by show 7<=aA; omega,fun t ht=>?_⟩⟩⟩
  have s9:=aD ht9 (.tup [.str "now"])
  have st_:=aD ht (.tup [.str "send",.int r9,.str z,vs,.int r8,vf,.ref t9])
  have ka:=(((ki7.trans (dO.but pu7 b8)).trans (dO.but pu8 b9)).trans (dO.same s9)).trans (dO.same st_)
  exact k _ (.send r9 z SF r8 F .now) _ (GH ah (hSF.keepI ka) (f1.keepI ka) ⟨.now (st_ _ _ ah),by decide⟩) ⟨r90,r91⟩ (bj _) dz (((((L6.but b7 pu7).but b8 pu8).but b9 pu9).same s9).same st_) (((((k6.trans (Kp.but b7 mp)).trans (Kp.but b8 mp)).trans (Kp.but b9 mp)).trans (Kp.same s9)).trans (Kp.same st_))
end
end My
namespace My
open PySem L2
structure Gro (bs qs:List Str) (m:Int) (dp S:Nat) (B G:Hp) (l0:aa) (i:Nat):Prop where
  ex:∃ (xs:List V) (ds:Ds),G l0=some (.lst xs)/\xs.length<=i/\OwS bs qs B G ds xs/\ds.toOk m/\ds.deep<=dp/\ds.size<=i * S
theorem Gro.up {bs qs:List Str} {m:Int} {dp S:Nat} {B G:Hp} {l0:aa} {i:Nat} (h:Gro bs qs m dp S B G l0 i):Gro bs qs m dp S B G l0 (i + 1):=by
  obtain ⟨xs,ds,h1,h2,h3,h4,h5,h6⟩:=h.ex
  exact ⟨xs,ds,h1,by omega,h3,h4,h5,c8 h6 (pI _ (fb _))⟩
theorem Gro.step {bs qs:List Str} {m:Int} {dp S:Nat} {B G G3:Hp} {p lf l0:aa} {i:Nat} {xs:List V} {ds:Ds} {v:V} {dd:Dd} (n0:l0∉[p,lf]) (L:Lf G p lf) (k:Kp [p,lf] G G3) (hB:B l0≠none) (dm:Dm B G) (hx:G l0=some (.lst xs)) (lx:xs.length<=i) (O:OwS bs qs B G ds xs) (to:ds.toOk m) (d1:ds.deep<=dp) (sz:ds.size<=i * S)
    (hO:OwD bs qs G G3 dd v) (t:dd.toOk m) (d2:dd.deep<=dp) (s2:dd.size<=S):Gro bs qs m dp S B (upd G3 l0 (.lst (xs++[v]))) l0 (i + 1):=by
  have hx3:=k _ _ hx n0
  have ol:G l0≠none:=by
    rw [hx]
    intro z
    cases z
  have nt3:∀ ys,G3 l0≠some (.tup ys):=fun ys z=>by
    rw [hx3] at z
    cases z
  refine ⟨xs++[v],oE ds dd,ah,by rw [aE]; show xs.length + 1<=i + 1; omega,EL ((O.keepI (k.keepI L.int)).old hB nt3) ((hO.old ol nt3).base dm),AI t ds to,by rw [vO]; omega,?_⟩
  rw [vP,oC]
  omega
theorem Lf.put {G:Hp} {p lf l0:aa} {o:HO} (L:Lf G p lf) (n0:l0∉[p,lf]):Lf (upd G l0 o) p lf:=by
  obtain ⟨x,y,e⟩:=L.pu
  obtain ⟨z,e'⟩:=L.hl
  exact ⟨⟨x,y,aX e (fun q=>n0 (by rw [<- q]; exact aw))⟩,z,aX e' (fun q=>n0 (by rw [<- q]; exact ag _ aw))⟩
section
variable {P:aM} {w:bH} {K:af} {mg:Str->Option ae} {base:cB} {f fT fSm fS fE:aa} {fd fdT fdSm fdS fdE:bY} {bs qs sgs:List Str}
seal L2.PS L2.PSs L2.PE L2.PA L2.PT L2.PW L2.PI L2.PG L2.PGs L2.PC
theorem Hc {n kk:Nat} (hk:1<=kk) (D:Df K mg "_law_live_deeds" gz pLs f fd) (DE:Df K mg "_law_live_deed" gm pLd fE fdE) (GE:bT P w K mg base CX0 kk fE fdE pLd (Ha bs qs sgs n)) (DT:Df K mg "_law_take" fc pT fT fdT) (B:Bl mg) :
    bT P w K mg base CX0 (kk + 1) f fd pLs (JX bs qs sgs (n + 1)):=by
  have GT:bT P w K mg base CX0 1 fT fdT pT oB:=mw DT B
  refine D.F.ok JW (fun vs H Q E h=>?_) (fun cdv A outer s H vs Q E hr h=>?_)
  · obtain ⟨p,lt,lb,lq,ls,lf,m,d,rfl,_⟩:=h
    rfl
  obtain ⟨p,lt,lb,lq,ls,lf,m,d,rfl,dn,L,T,k⟩:=h
  have r1:dP 1 _:=hr.mono hk
  refine ⟨_,ak (bz (i:=4) JW.nd rfl (Or.inl rfl) (eT ao))
    (ak (cZ (cu tJ (pv 3) ay (cE _)) (aF (iy cQ rfl (iB (by rfl) B.range (kP (aS GT r1 (by rfl) DT.m DT.F.kp DT.b .nil cm (bN (pv 0) (dB ay ao))) ao)) (dy (i:=5) JW.nd rfl (Or.inl rfl)) (aF (cZ (cu tJ (bZ dZ (pv 2) ay (fun _ _=>rfl)) ay (cE _)) (aF (dW (jr bK cg cj e7 (pv 4) (kP (aS GE hr (by rfl) DE.m DE.F.kp DE.b .nil cm (bN (pv 0) (bN (pv 1) (bN (pv 2) (jJ (cP pf (pv 3) ay) ao))))) ao)))) cy)))) cy)
    (aF (bX (pv 4)))),?_⟩
  have big:=eU
  have mp:p∈[p,lf]:=aw
  refine bS (cJ ?_)
  refine ⟨bj _,fun l0 hl0=>?_⟩
  have s0:=aD hl0 (.lst [])
  refine aZ ?_
  dsimp only
  have n0:l0∉[p,lf]:=fun z=>by
    obtain ⟨i,r,e⟩:=L.int l0 z
    rw [hl0] at e
    cases e
  have hB:upd H l0 (.lst []) l0≠none:=by
    rw [ah]
    intro z
    cases z
  refine bS ?_
  refine oA (JN rfl) (fun c=>?_) (fun c=>?_)
  · have c:=of_decide_eq_true c
    obtain ⟨e,rfl⟩:∃ e,d=e + 1:=⟨d - 1,by omega⟩
    have em:((e + 1:Nat):Int) - 1=(e:Int):=by omega
    refine ⟨_,rfl,p,3,rfl,L.pu.same s0,by decide,by decide,fun r G r0 r1' puG bG=>⟨r,rfl,by omega,by omega,?_⟩⟩
    have LG:=(L.same s0).but bG puG
    have kG:Kp [p,lf] H G:=(Kp.same s0).trans (Kp.but bG mp)
    have kB:Kp [p,lf] (upd H l0 (.lst [])) G:=Kp.but bG mp
    have hl0G:G l0=some (.lst []):=bG _ _ ah (fun z=>n0 (by rw [z]; exact mp))
    refine kU (n:=r.toNat) (fun i σ G'=>∃ (v5:Option V),σ=[some (.ref p),some (.ref lt),some (.ref lf),some (.int (e + 1:Nat)),some (.ref l0),v5]/\i<=2/\Gro bs qs m (e + 1) (ddz e) (upd H l0 (.lst [])) G' l0 i/\Lf G' p lf/\Kp [p,lf] H G'/\Dm (upd H l0 (.lst [])) G')
      ⟨_,rfl,by decide,⟨[],.nil,hl0G,aC _,w8,trivial,bj _,bj _⟩,LG,kG,kB.dm LG.there⟩ ?_ ?_
    · rintro i σ G1 hi ⟨v5,rfl,i2,gr,L1,k1,dm1⟩
      obtain ⟨c0,hc⟩:=L1.hl
      refine HS ?_
      refine ⟨_,rfl,lf,_,_,_,rfl,rfl,SqL.of hc,rfl,_,_,rfl,rfl,_,rfl,?_⟩
      refine jt (fun _=>?_) (fun _=>?_)
      · obtain ⟨xs,ds,h1,h2,h3,h4,h5,h6⟩:=gr.ex
        have T1:=T.keepI (k1.keepI L.int)
        refine ⟨_,rfl,.inl ⟨rfl,_,SqL.of h1⟩,_,rfl,_,rfl,_,rfl,_,rfl,_,_,rfl,rfl,p,lt,lb,lq,ls,lf,m,e,(by show [V.ref p,V.ref lt,V.ref lf,V.int (((e + 1:Nat):Int) - 1)]=_; rw [em]),by omega,L1,T1,fun v dd G3 hO t dp' sz3 L3 k13=>?_⟩
        refine ⟨l0,xs,v,rfl,rfl,k13 _ _ h1 n0,by omega,?_⟩
        refine ⟨_,rfl,by omega,Gro.step n0 L1 k13 hB dm1 h1 h2 h3 h4 h5 h6 hO t (by omega) sz3,L3.put n0,fun b o eb nb=>aX ((k1.trans k13) b o eb nb) (aG eb hl0),fun a na=>?_⟩
        by_cases ca:a=l0
        · rw [ca,ah] at na
          cases na
        · rw [aJ ca] at na
          exact dm1 a (k13.dm L3.there a na)
      · exact ⟨_,rfl,by omega,gr.up,L1,k1,dm1⟩
    · rintro σ G1 ⟨v5,rfl,i2,gr,L1,k1,dm1⟩
      obtain ⟨xs,ds,h1,h2,h3,h4,h5,h6⟩:=gr.ex
      refine mr ?_
      dsimp only
      refine gK ⟨_,rfl,k l0 xs ds G1 hl0 h1 (by omega) (h3.base (Dm.same s0)) h4 h5 ?_ L1 k1⟩
      have:r.toNat * ddz e<=2 * ddz e:=pI _ i2
      show 2 * ds.size + 1<=1 + 6 * ddz e
      omega
  · have c:=of_decide_eq_false c
    have d0:d=0:=by omega
    subst d0
    refine mr ?_
    dsimp only
    refine gK ⟨_,rfl,k l0 [] .nil _ hl0 ah (by show 0 < 1000; decide) w8 trivial (bj _) (by show 1<=1; decide) (L.same s0) (Kp.same s0)⟩
theorem HW (D:Df K mg "_law_live_deeds" gz pLs f fd) (DE:Df K mg "_law_live_deed" gm pLd fE fdE) (DSm:Df K mg "_law_small" iG pSm fSm fdSm) (DT:Df K mg "_law_take" fc pT fT fdT) (B:Bl mg):∀ n:Nat,bT P w K mg base CX0 (3 + 2 * n) f fd pLs (JX bs qs sgs n)
  | 0=>⟨fun vs H Q E h=>by
      obtain ⟨p,lt,lb,lq,ls,lf,m,d,_,h,_⟩:=h
      omega,fun A outer s H args us vs Q E _ _ _ _ h=>by
      obtain ⟨p,lt,lb,lq,ls,lf,m,d,_,h,_⟩:=h
      omega⟩
  | n + 1=>Hc (kk:=3 + 2 * n + 1) (by omega) D DE (AJ (by omega) DE D (HW D DE DSm DT B n) DSm DT B) DT B
end
end My
namespace My
open PySem L2
def HsO (bs qs:List Str) (H H':Hp) (v:V) (q:Str×Ds):Prop:=∃ t l xs,v=.ref t/\H' t=some (.tup [.str q.1,.ref l])/\H l=none/\H' l=some (.lst xs)/\xs.length < 1000/\OwS bs qs H H' q.2 xs
theorem HsO.keepI {bs qs:List Str} {H H' H1:Hp} {v:V} {q:Str×Ds} (k:dO H' H1) (h:HsO bs qs H H' v q):HsO bs qs H H1 v q:=by
  obtain ⟨t,l,xs,e,h1,h2,h3,h4,h5⟩:=h
  exact ⟨t,l,xs,e,k _ _ h1 (jB _),h2,k _ _ h3 h5.now.ni,h4,h5.keepI k⟩
theorem HsO.old {bs qs:List Str} {H H':Hp} {v:V} {q:Str×Ds} {a:aa} {o:HO} (h:HsO bs qs H H' v q) (ol:H a≠none) (nt:∀ xs,H' a≠some (.tup xs)):HsO bs qs H (upd H' a o) v q:=by
  obtain ⟨t,l,xs,e,h1,h2,h3,h4,h5⟩:=h
  exact ⟨t,l,xs,e,aX h1 (fun z=>nt _ (by rw [<- z]; exact h1)),h2,aX h3 (fun z=>ol (by rw [<- z]; exact h2)),h4,h5.old ol nt⟩
theorem HsO.base {bs qs:List Str} {H H0 H':Hp} {v:V} {q:Str×Ds} (h:HsO bs qs H H' v q) (s:Dm H0 H):HsO bs qs H0 H' v q:=by
  obtain ⟨t,l,xs,e,h1,h2,h3,h4,h5⟩:=h
  exact ⟨t,l,xs,e,h1,s l h2,h3,h4,h5.base s⟩
structure Mch (m:Int) (H H':Hp) (t:aa) (nm:Str) (bs qs:List Str) (ds:List Int) (hs:List (Str×Ds)) (ps:List (Str×Int)):Prop where
  ex:∃ (bl ql dl hl:aa) (vb hv:List V),H' t=some (.tup [.str nm,.ref bl,.ref ql,.ref dl,.ref hl])/\H' bl=some (.lst vb)/\fx H' ps vb/\H' ql=some (.lst (qs.map V.str))/\H' dl=some (.lst (ds.map V.int))/\H' hl=some (.lst hv)/\aO (HsO bs qs H H') hv hs/\H bl=none/\H ql=none/\H dl=none/\H hl=none
  kb:ps.map (·.1)=bs
  nb:bs.Nodup
  nq:qs.Nodup
  lb:bs.length<=9
  lq:qs.length<=9
  ld:ds.length<=100
  lh:hs.length<=9
  wb:∀ q∈ps,Wo q.2
  hk:∀ q∈hs,q.2.toOk m/\q.2.deep<=4/\q.2.size<=3 * ddz 4
end My
namespace My
open PySem L2
def MIn (m:Int) (H H':Hp) (v:V) (M:MD):Prop:=∃ t,v=.ref t/\Mch m H H' t M.nm M.bs M.qs M.ds M.hs M.ps
theorem Mch.but {m:Int} {H H' H1:Hp} {t p:aa} {nm:Str} {bs qs:List Str} {ds:List Int} {hs:List (Str×Ds)} {ps:List (Str×Int)} (pu0:eK H p) (pu:eK H' p) (b:But p H' H1) (h:Mch m H H' t nm bs qs ds hs ps):Mch m H H1 t nm bs qs ds hs ps:=by
  have k:=dO.but pu b
  have np:∀ {a:aa},H a=none->a≠p:=fun {a} e z=>by
    obtain ⟨x,y,q⟩:=pu0
    rw [z,q] at e
    cases e
  obtain ⟨⟨bl,ql,dl,hl,vb,hv,h1,h2,h3,h4,h5,h6,h7,f1,f2,f3,f4⟩,kb,nb,nq,lb,lq,ld,lh,wb,hk⟩:=h
  exact ⟨⟨bl,ql,dl,hl,vb,hv,k _ _ h1 (jB _),b _ _ h2 (np f1),fx.tups (fun a xs e=>k _ _ e (jB xs)) h3,b _ _ h4 (np f2),b _ _ h5 (np f3),b _ _ h6 (np f4),Paired.mono (fun v q z=>HsO.keepI k z) h7,f1,f2,f3,f4⟩,kb,nb,nq,lb,lq,ld,lh,wb,hk⟩
theorem Mch.same {m:Int} {H H' H1:Hp} {t:aa} {nm:Str} {bs qs:List Str} {ds:List Int} {hs:List (Str×Ds)} {ps:List (Str×Int)} (b:bM H' H1) (h:Mch m H H' t nm bs qs ds hs ps):Mch m H H1 t nm bs qs ds hs ps:=by
  obtain ⟨⟨bl,ql,dl,hl,vb,hv,h1,h2,h3,h4,h5,h6,h7,f1,f2,f3,f4⟩,kb,nb,nq,lb,lq,ld,lh,wb,hk⟩:=h
  exact ⟨⟨bl,ql,dl,hl,vb,hv,b _ _ h1,b _ _ h2,fx.same b h3,b _ _ h4,b _ _ h5,b _ _ h6,Paired.mono (fun v q z=>HsO.keepI (dO.same b) z) h7,f1,f2,f3,f4⟩,kb,nb,nq,lb,lq,ld,lh,wb,hk⟩
theorem Mch.base {m:Int} {H0 H H':Hp} {t:aa} {nm:Str} {bs qs:List Str} {ds:List Int} {hs:List (Str×Ds)} {ps:List (Str×Int)} (s:Dm H0 H) (h:Mch m H H' t nm bs qs ds hs ps):Mch m H0 H' t nm bs qs ds hs ps:=by
  obtain ⟨⟨bl,ql,dl,hl,vb,hv,h1,h2,h3,h4,h5,h6,h7,f1,f2,f3,f4⟩,kb,nb,nq,lb,lq,ld,lh,wb,hk⟩:=h
  exact ⟨⟨bl,ql,dl,hl,vb,hv,h1,h2,h3,h4,h5,h6,Paired.mono (fun v q z=>HsO.base z s) h7,s _ f1,s _ f2,s _ f3,s _ f4⟩,kb,nb,nq,lb,lq,ld,lh,wb,hk⟩
theorem But.dm {p:aa} {H G:Hp} (b:But p H G) (pu:eK G p):Dm H G:=fun a n=>by
  cases e:H a with
  | none=>rfl
  | some o =>
    by_cases c:a=p
    · obtain ⟨x,y,q⟩:=pu
      rw [c,q] at n
      cases n
    · rw [b a o e c] at n
      cases n
end My
namespace My
open PySem L2
theorem qF {H:Hp}:∀ {ps:List (Str×Int)} {vs:List V},fx H ps vs->aO (fun v (x:Str)=>∃ a n,v=.ref a/\H a=some (.tup [.str x,n])) vs (ps.map (·.1))
  | [],_,h=>by
    cases h
    exact .nil
  | p :: ps,_,h=>by
    cases h with
    | cons a b =>
      obtain ⟨t,e,h⟩:=a
      exact .cons ⟨t,_,e,h⟩ (qF (ps:=ps) b)
theorem jZ {α:Type} {R:V->α->Prop}:∀ {xs:List V} {as:List α},aO R xs as->∀ x∈xs,∃ a∈as,R x a
  | _,_,.nil,_,h=>by cases h
  | _,_,.cons a b,x,h=>by
    rcases au.mp h with z | z
    · exact ⟨_,aw,by rw [z]; exact a⟩
    · obtain ⟨c,hc,r⟩:=jZ b x z
      exact ⟨c,ag _ hc,r⟩
theorem MIn.moI {m:Int} {H H':Hp} {v:V} {M:MD} (h:MIn m H H' v M):MoI m H' v M:=by
  obtain ⟨t,rfl,⟨bl,ql,dl,hl,vb,hv,h1,h2,h3,h4,h5,h6,h7,f1,f2,f3,f4⟩,kb,nb,nq,lb,lq,ld,lh,wb,hk⟩:=h
  refine ⟨⟨t,bl,ql,dl,hl,_,vb,hv,rfl,h1,h2,by rw [<- kb]; exact qF h3,h4,h5,h6,Paired.mono (fun v q z=>?_) h7⟩,⟨t,bl,ql,_,_,_,vb,rfl,h1,h2,h3,h4⟩,kb,nb,nq,lb,lq,ld,lh,wb,hk⟩
  obtain ⟨u,l,xs,e,g1,g2,g3,g4,g5⟩:=z
  exact ⟨u,.ref l,e,g1,l,xs,rfl,g3,g4,g5.now⟩
theorem MIn.tree {m:Int} {H H':Hp} {v:V} {M:MD} (h:MIn m H H' v M):Tree H' 28 v:=by
  obtain ⟨t,rfl,⟨bl,ql,dl,hl,vb,hv,h1,h2,h3,h4,h5,h6,h7,f1,f2,f3,f4⟩,kb,nb,nq,lb,lq,ld,lh,wb,hk⟩:=h
  have lps:M.ps.length<=9:=by
    have:=congrArg jD kb
    rw [ar] at this
    omega
  refine Tree.atup h1 (by show 5 < 1000; decide) fun y hy=>?_
  simp only [au,aR,or_false] at hy
  rcases hy with rfl | rfl | rfl | rfl | rfl
  · exact Tree.scal (by exact trivial) _
  · exact Tree.alst h2 (by rw [<- h3.length]; omega) fun z hz=>h3.tree (n:=25) z hz
  · refine Tree.alst h4 (by rw [ar]; omega) fun z hz=>?_
    obtain ⟨x,_,rfl⟩:=cL.mp hz
    exact Tree.scal (by exact trivial) _
  · refine Tree.alst h5 (by rw [ar]; omega) fun z hz=>?_
    obtain ⟨x,_,rfl⟩:=cL.mp hz
    exact Tree.scal (by exact trivial) _
  · refine Tree.alst h6 (by rw [aT h7]; omega) fun z hz=>?_
    obtain ⟨q,hq,u,l,xs,rfl,g1,g2,g3,g4,g5⟩:=jZ h7 z hz
    refine Tree.atup g1 (by show 2 < 1000; decide) fun y hy=>?_
    simp only [au,aR,or_false] at hy
    rcases hy with rfl | rfl
    · exact Tree.scal (by exact trivial) _
    · exact Tree.alst g3 g4 fun z hz=>eJ.tree q.2 xs 24 g5.now (by have:=(hk q hq).2.1; omega) z hz
theorem zD.alike {H H':Hp} {v v':V} {M:MD} (h:zD H v M) (al:Alike H H' 28 v v'):zD H' v' M:=by
  obtain ⟨t,bl,ql,n0,x3,x4,vb,rfl,h1,h2,h3,h4⟩:=h
  obtain ⟨t',ys2,rfl,al2,p3⟩:=rm h1 al
  obtain ⟨z0,yr,rfl,a0,p3⟩:=c9 p3
  obtain ⟨z1,yr,rfl,a1,p3⟩:=c9 p3
  obtain ⟨z2,yr,rfl,a2,p3⟩:=c9 p3
  obtain ⟨z3,yr,rfl,a3,p3⟩:=c9 p3
  obtain ⟨z4,yr,rfl,a4,p3⟩:=c9 p3
  obtain rfl:=lJ p3
  obtain ⟨b',vb',rfl,c1,d1⟩:=oK h2 a1
  obtain ⟨q',vq,rfl,c2,d2⟩:=oK h4 a2
  rw [hU d2 (by intro x hx; obtain ⟨z,_,rfl⟩:=cL.mp hx; exact trivial)] at c2
  exact ⟨t',b',q',z0,z3,z4,vb',rfl,al2,c1,h3.alike d1,c2⟩
theorem Hd {m:Int} {H0 H:Hp} {ml:aa} {xs:List V} {Ms:List MD} (h:H ml=some (.lst xs)) (p:aO (MIn m H0 H) xs Ms) (l:Ms.length < 1000):Tree H 29 (.ref ml):=
  Tree.alst h (by rw [aT p]; exact l) fun x hx=>by
    obtain ⟨M,_,z⟩:=jZ p x hx
    exact z.tree
theorem He {m:Int} {H0 H H2:Hp} {ml:aa} {xs:List V} {Ms:List MD} {v':V} (h:H ml=some (.lst xs)) (p:aO (MIn m H0 H) xs Ms) (al:Alike H H2 29 (.ref ml) v'):∃ ml',v'=.ref ml'/\Bx m H2 ml' Ms:=by
  obtain ⟨ml',ys,rfl,h1,p1⟩:=oK h al
  refine ⟨ml',rfl,ys,h1,rA (R:=MIn m H0 H) (S:=Alike H H2 28) (T:=Tree H 28) (fun v M v' a b c=>?_) p p1 fun x hx=>?_⟩
  · have z:=a.moI
    exact ⟨z.ma.alike c b,z.fs.alike b,z.kb,z.nb,z.nq,z.lb,z.lq,z.ld,z.lh,z.wb,z.hk⟩
  · obtain ⟨M,_,z⟩:=jZ p x hx
    exact z.tree
end My
namespace My
open PySem L2
theorem zN {K:af} {n:Nat} {ti:TE} {g:TG} {tc:L2.TT} {te:TE} {σ:St} {H:Hp} {Q:VK} (PP:aa->List V->Hp->Prop) (hi:∀ R:VK,(∀ a xs H1,PP a xs H1->R (.ref a) H1)->ti σ H R) (hx:∀ a xs H1,PP a xs H1->SqL K H1 a xs) (Pv:aa->List V->Hp->Nat->List V->Hp->Prop) (h0:∀ a xs H1,PP a xs H1->Pv a xs H1 0 [] H1)
    (hl:∀ a xs H1,PP a xs H1->∀ i ys G,i<=xs.length->Pv a xs H1 i ys G->SqL K G a xs/\ys.length < aA)
    (hs:∀ a xs H1,PP a xs H1->∀ i x ys G,xs[i]?=some x->Pv a xs H1 i ys G->g x (cC n none++σ) G fun σ2 H2=>σ2.drop n=σ/\tc σ2 H2 fun b H3=>if b=true then te σ2 H3 fun y H4=>Pv a xs H1 (i + 1) (ys++[y]) H4 else Pv a xs H1 (i + 1) ys H3)
    (hd:∀ a xs H1,PP a xs H1->∀ ys G,Pv a xs H1 xs.length ys G->∀ p,G p=none->Q (.ref p) (upd G p (.lst ys))):rP n (Cd K ti) g tc te σ H Q:=
  hi _ fun a xs H1 p=>⟨a,rfl,⟨xs,hx a xs H1 p⟩,qZ (Pv a xs H1) (h0 a xs H1 p) (hl a xs H1 p) (hs a xs H1 p) (hd a xs H1 p)⟩
theorem len3 {α:Type} {l:List α} (h:l.length=3):∃ a b c,l=[a,b,c]:=by
  match l,h with
  | [a,b,c],_=>exact ⟨a,b,c,rfl⟩
theorem len4 {α:Type} {l:List α} (h:l.length=4):∃ a b c d,l=[a,b,c,d]:=by
  match l,h with
  | [a,b,c,d],_=>exact ⟨a,b,c,d,rfl⟩
theorem EM {t:TE} {r:TA} {σ:St} {H:Hp} {Q:VK} (h:t σ H fun x H1=>r σ H1 fun xs H2=>(x :: xs).length<=aA/\∀ p,H2 p=none->Q (.ref p) (upd H2 p (.lst (x :: xs)))):Iv (mE t r) σ H Q:=h
section
variable {P:aM} {w:bH} {K:af} {mg:Str->Option ae} {base:cB} {f fT fN fE:aa} {fd fdT fdN fdE:bY} {sgs:List Str}
seal L2.PS L2.PSs L2.PE L2.PA L2.PT L2.PW L2.PI L2.PG L2.PGs L2.PC
abbrev nLm:List Str:=["_law_purse_here","_law_name","_law_signs","_law_many","_law_names_here","_law_boxes","_law_queues","_law_draws","_law_things","_law_hears","_law_sign","_law_left","_law_deeds","_law_k"]
abbrev pLm:List Str:=["_law_purse_here","_law_name","_law_signs","_law_many"]
theorem uD:bV nLm pLm (aQ eA):=⟨rfl,rfl,rfl,by decide +kernel,rfl,by decide +kernel,by decide +kernel⟩
abbrev nnLm:List Str:=["_law_purse_here","_law_name","_law_signs","_law_many","_law_names_here","_law_boxes","_law_queues","_law_draws","_law_things","_law_hears","_law_sign","_law_left","_law_deeds","-"]
theorem ndLm:((["_law_box"]:List Str)++nLm).Nodup:=by decide +kernel
theorem ndLm2:((["_law_k"]:List Str)++nnLm).Nodup:=by decide +kernel
theorem HX:((["_law_box","_law_worth_here"]:List Str)++nLm).Nodup:=by decide +kernel
def JY (sgs:List Str):Sp:=fun vs H Q _=>∃ (p ls:aa) (nm:Str) (m:Int),vs=[.ref p,.str nm,.ref ls,.int m]/\eK H p/\H ls=some (.lst (sgs.map V.str))/\sgs.length=3/\0 < m/\m < 1000 /\
  ∀ (t:aa) (H':Hp) (bs qs:List Str) (ds:List Int) (hs:List (Str×Ds)) (ps:List (Str×Int)),Mch m H H' t nm bs qs ds hs ps->eK H' p->But p H H'->Q (.ref t) H'
theorem ok_lm (D:Df K mg "_law_live_machine" eA pLm f fd) (DN:Df K mg "_law_names" iF pN fN fdN) (DE:Df K mg "_law_live_deed" gm pLd fE fdE) (GE0:∀ bs qs,bT P w K mg base CX0 10 fE fdE pLd (Ha bs qs sgs 3)) (DT:Df K mg "_law_take" fc pT fT fdT) (B:Bl mg):bT P w K mg base CX0 11 f fd pLm (JY sgs):=by
  have GT:bT P w K mg base CX0 1 fT fdT pT oB:=mw DT B
  have GN:bT P w K mg base CX0 2 fN fdN pN w5:=yo DN DT B
  have GE:=bT.some (ι:=List Str×List Str) (sp:=fun q=>Ha q.1 q.2 sgs 3) (F:=fun q=>GE0 q.1 q.2)
  refine D.F.ok uD (fun vs H Q E h=>?_) (fun cdv A outer s H vs Q E hr h=>?_)
  · obtain ⟨p,ls,nm,m,rfl,_⟩:=h
    rfl
  obtain ⟨p,ls,nm,m,rfl,pu,hls,l3,m0,m1,k⟩:=h
  have r1:dP 1 _:=hr.mono (by decide)
  have r2:dP 2 _:=hr.mono (by decide)
  have r10:dP 10 _:=hr
  refine ⟨_,ak (bz (i:=4) uD.nd rfl (Or.inl rfl) (aS GN r2 (by rfl) DN.m DN.F.kp DN.b .nil cm (bN (pv 0) (dB ay ao))))
    (ak (qj (i:=5) ["_law_box"] (ia.open (NN:=nLm) (N:=nLm) (sc:=aQ eA) rfl rfl (by decide +kernel) rfl (by decide +kernel) (by decide +kernel) rfl (by decide +kernel)) rfl uD.nd rfl (Or.inl rfl) (gW (ip qc (pv 4) jG (iN (cP fJ ay (aS GT r1 (by rfl) DT.m DT.F.kp DT.b .nil cm (bN (pv 0) (dB ay ao))))))) (fun _ _ _ _=>dy (i:=0) ndLm rfl (Or.inl rfl)) (fun _ _ _ _=>jI) (fun _ _ _ _=>cR (bN (pv 0) (jJ (cP pf (aS GT r1 (by rfl) DT.m DT.F.kp DT.b .nil cm (bN (pv 1) (dB ay ao))) ay) ao))))
    (ak (bz (i:=6) uD.nd rfl (Or.inl rfl) (ip qc (pv 4) (iN ay) (iN (cP fJ ay (aS GT r1 (by rfl) DT.m DT.F.kp DT.b .nil cm (bN (pv 0) (dB ay ao)))))))
    (ak (qj (i:=7) ["_law_k"] (ia.open (NN:=nnLm) (N:=nLm) (sc:=aQ eA) rfl rfl (by decide +kernel) rfl (by decide +kernel) (by decide +kernel) rfl (by decide +kernel)) rfl uD.nd rfl (Or.inl rfl) (iB (by rfl) B.range (kP (aS GT r1 (by rfl) DT.m DT.F.kp DT.b .nil cm (bN (pv 0) (dB ay ao))) ao)) (fun _ _ _ _=>dy (i:=0) ndLm2 rfl (Or.inl rfl)) (fun _ _ _ _=>jI) (fun _ _ _ _=>aS GT r1 (by rfl) DT.m DT.F.kp DT.b .nil cm (bN (pv 1) (dB ay ao))))
    (ak (bz (i:=8) uD.nd rfl (Or.inl rfl) (eT (aq (sP ["_law_box","_law_worth_here"] (ia.open (NN:=nLm) (N:=nLm) (sc:=aQ eA) rfl rfl (by decide +kernel) rfl (by decide +kernel) (by decide +kernel) rfl (by decide +kernel)) rfl (gW (pv 5)) (fun _ _ _ _=>As (n:=2) K (by rfl) rfl (gA (dy (i:=0) HX rfl (Or.inl rfl)) (gA (dy (i:=1) HX rfl (Or.inl rfl)) p0))) (fun _ _ _ _=>jI) (fun _ _ _ _=>pv 0)) (bN (pv 6) (bN (pv 2) (bN (pv 3) ao))))))
    (ak (bz (i:=9) uD.nd rfl (Or.inl rfl) (eT ao))
    (ak (iy cQ rfl (gW (ip qc (pv 2) (iN (aS GT r1 (by rfl) DT.m DT.F.kp DT.b .nil cm (bN (pv 0) (dB ay ao)))) jG)) (dy (i:=10) uD.nd rfl (Or.inl rfl)) (ak (bz (i:=11) uD.nd rfl (Or.inl rfl) (eT (dB ay ao)))
    (ak (bz (i:=12) uD.nd rfl (Or.inl rfl) (eT ao))
    (ak (iy cQ rfl (iB (by rfl) B.range (jJ (cP fJ ay (aS GT r1 (by rfl) DT.m DT.F.kp DT.b .nil cm (bN (pv 0) (dB ay ao)))) ao)) (dy (i:=13) uD.nd rfl (Or.inl rfl)) (aF (cZ (cu tJ (bZ dZ (pv 11) ay (fun _ _=>rfl)) ay (cE _)) (aF (dW (jr bK cg cj e7 (pv 12) (kP (aS GE r10 (by rfl) DE.m DE.F.kp DE.b .nil cm (bN (pv 0) (bN (pv 8) (bN (pv 11) (dB ay ao))))) ao)))) cy)))
    (aF (dW (jr bK cg cj e7 (pv 9) (ic (cR (bN (pv 10) (bN (pv 12) ao))) ao) (hs:=uz))))))))
    (aF (bX (cR (bN (pv 1) (bN (pv 5) (bN (pv 6) (bN (pv 7) (bN (pv 9) ao)))))))))))))),?_⟩
  have big:=eU
  have nls:=jK pu hls
  -- the names
  refine bS (cJ ?_)
  refine ⟨_,rfl,p,4,rfl,pu,by decide,by decide,fun ln ss G1 hln hlnG lss nd pu1 b1=>?_⟩
  refine aZ ?_
  dsimp only
  obtain ⟨s0,s1,s2,s3,rfl⟩:=len4 (l:=ss) (by omega)
  have nln:=jK pu1 hlnG
  have hls1:=b1 _ _ hls nls
  have dm1:Dm H G1:=b1.dm pu1
  -- the boxes
  refine bS (cJ ?_)
  refine zN (fun a xs G=>∃ bs:List Str,(bs=[s0]\/bs=[s0,s1])/\xs=bs.map V.str/\G a=some (.lst xs)/\a≠p/\eK G p/\But p G1 G) (fun R hR=>⟨_,rfl,_,rfl,p,2,rfl,pu1,by decide,by decide,fun r G2 r0 r1' pu2 b2=>⟨_,_,rfl,rfl,_,rfl,ln,_,rfl,SqL.of (b2 _ _ hlnG nln),fun a ha=>?_⟩⟩) (fun a xs G ⟨bs,_,_,h,_⟩=>SqL.of h)
    (fun a xs G0 i ys G=>∃ (bs:List Str) (ps:List (Str×Int)),(bs=[s0]\/bs=[s0,s1])/\xs=bs.map V.str/\G a=some (.lst xs)/\a≠p/\eK G p/\But p G1 G/\fx G ps ys/\ps.map (·.1)=bs.take i/\(∀ q∈ps,Wo q.2)) ?_ ?_ ?_ ?_
  · have nap:a≠p:=pH pu2 ha
    have sa:=aD ha (.lst (j8 ([s0,s1,s2,s3].map V.str) none (some (1 + r))))
    have cs:r=0\/r=1:=by omega
    rcases cs with rfl | rfl
    · exact hR a _ _ ⟨[s0],.inl rfl,rfl,ah,nap,pu2.same sa,b2.same sa⟩
    · exact hR a _ _ ⟨[s0,s1],.inr rfl,rfl,ah,nap,pu2.same sa,b2.same sa⟩
  · rintro a xs G ⟨bs,c,e,h1,h2,h3,h4⟩
    exact ⟨bs,[],c,e,h1,h2,h3,h4,.nil,rfl,(fun q hq=>by cases hq)⟩
  · rintro a xs G0 _ i ys G hi ⟨bs,ps,c,rfl,h1,h2,h3,h4,h5,h6,h7⟩
    have l5:=h5.length
    have l6:=congrArg jD h6
    rw [ar,cG] at l6
    have lb:bs.length<=2:=by
      rcases c with rfl | rfl
      · exact (by decide:1<=2)
      · exact aC 2
    exact ⟨SqL.of h1,by omega⟩
  · rintro a xs G0 _ i x ys G hi ⟨bs,ps,c,rfl,h1,h2,h3,h4,h5,h6,h7⟩
    rw [bQ] at hi
    obtain ⟨o,ho,rfl⟩:∃ o,bs[i]?=some o/\x=.str o:=by
      cases z:bs[i]? with
      | none =>
        rw [z] at hi
        cases hi
      | some o =>
        rw [z] at hi
        cases hi
        exact ⟨o,rfl,rfl⟩
    refine ⟨rfl,?_⟩
    unfold uP
    refine gF ?_
    refine ⟨_,rfl,_,rfl,p,9,rfl,h3,by decide,by decide,fun r G2 r0 r1' pu2 b2=>⟨_,_,rfl,rfl,lt2,fun t ht=>?_⟩⟩
    have st_:=aD ht (.tup [.str o,.int (r - 2)])
    refine ⟨bs,ps++[(o,r - 2)],c,rfl,st_ _ _ (b2 _ _ h1 h2),h2,pu2.same st_,(h4.trans b2).same st_,?_,?_,fun q hq=>?_⟩
    · unfold fx
      rw [cA]
      exact dR (fx.tups (fun t xs e=>st_ _ _ (dO.but h3 b2 _ _ e (jB xs))) h5) ⟨t,rfl,ah⟩
    · rw [cA,h6,fi,ho]
      rfl
    · rcases cq.mp hq with z | z
      · exact h7 q z
      · rw [aH.mp z]
        exact iH (by show -1000000<=r - 2/\r - 2<=1000000; omega)
  rintro a xs G0 _ vb G ⟨bs,ps,cb,rfl,h1,h2,h3,h4,hbx,kb,wb⟩ bl hbl
  rw [ar,dG] at kb
  have sbl:=aD hbl (.lst vb)
  refine aZ ?_
  dsimp only
  have lbs:0 < bs.length/\bs.length<=2:=by
    rcases cb with rfl | rfl
    · exact ⟨je _,by show 1<=2; decide⟩
    · exact ⟨je _,aC 2⟩
  have ndb:bs.Nodup:=by
    have nd2:[s0,s1].Nodup:=nd.sublist (by simp)
    rcases cb with rfl | rfl
    · exact nd2.sublist (by simp)
    · exact nd2
  have Hbl:H bl=none:=dm1 bl (h4.dm h3 bl hbl)
  have nbl:bl≠p:=pH h3 hbl
  have puA:=h3.same sbl
  have bA:But p H (upd G bl (.lst vb)):=(b1.trans h4).same sbl
  have hlnA:=sbl _ _ (h4 _ _ hlnG nln)
  have hblA:upd G bl (.lst vb) bl=some (.lst vb):=ah
  have hbxA:=fx.same sbl hbx
  revert puA bA hlnA hblA hbxA
  clear sbl hbl h1 h2 h3 h4 hbx
  generalize upd G bl (.lst vb)=GA
  intro puA bA hlnA hblA hbxA
  -- the queues
  refine bS (cJ ?_)
  refine ⟨_,rfl,_,rfl,_,rfl,p,2,rfl,puA,by decide,by decide,fun r G2 r0 r1' pu2 b2=>⟨_,_,rfl,rfl,_,rfl,ln,_,rfl,SqL.of (b2 _ _ hlnA nln),fun ql hql=>?_⟩⟩
  obtain ⟨qs,ndq,lqs,eq⟩:∃ qs:List Str,qs.Nodup/\(0 < qs.length/\qs.length<=2)/\j8 ([s0,s1,s2,s3].map V.str) (some 2) (some (3 + r))=qs.map V.str:=by
    have nd2:[s2,s3].Nodup:=nd.sublist (by simp)
    have cs:r=0\/r=1:=by omega
    rcases cs with rfl | rfl
    · exact ⟨[s2],nd2.sublist (by simp),⟨je _,by show 1<=2; decide⟩,rfl⟩
    · exact ⟨[s2,s3],nd2,⟨je _,aC 2⟩,rfl⟩
  rw [eq]
  have sql:=aD hql (.lst (qs.map V.str))
  refine aZ ?_
  dsimp only
  have Hql:H ql=none:=bA.dm puA ql (b2.dm pu2 ql hql)
  have nql:ql≠p:=pH pu2 hql
  have puB:=pu2.same sql
  have bB:But p H (upd G2 ql (.lst (qs.map V.str))):=(bA.trans b2).same sql
  have hblB:=sql _ _ (b2 _ _ hblA nbl)
  have hbxB:=fx.tups (fun t xs e=>sql _ _ (dO.but puA b2 _ _ e (jB xs))) hbxA
  have hqlB:upd G2 ql (.lst (qs.map V.str)) ql=some (.lst (qs.map V.str)):=ah
  revert puB bB hblB hbxB hqlB
  clear sql hql eq
  generalize upd G2 ql (.lst (qs.map V.str))=GB
  intro puB bB hblB hbxB hqlB
  -- the draws
  refine bS (cJ ?_)
  refine vL (fun n G=>n < 4/\eK G p/\But p GB G) (fun R hR=>⟨_,rfl,p,4,rfl,puB,by decide,by decide,fun x G x0 x1 pu b=>by
      obtain ⟨n,rfl⟩:∃ n:Nat,x=(n:Int):=⟨x.toNat,by omega⟩
      exact hR n G ⟨by omega,pu,b⟩⟩) (fun n G h=>by have:=h.1; omega) (fun n _ i ys G=>∃ ds:List Int,ys=ds.map V.int/\ds.length=i/\eK G p/\But p GB G) (fun n G h=>⟨[],rfl,rfl,h.2.1,h.2.2⟩) ?_ ?_ ?_
  · rintro n G0 h i ys G hi ⟨ds,rfl,h1,_⟩
    rw [ar]
    have:=h.1
    omega
  · rintro n G0 h i ys G hi ⟨ds,rfl,h1,pu,b⟩
    refine ⟨rfl,?_⟩
    unfold uP
    refine gF ?_
    refine ⟨_,rfl,p,99,rfl,pu,by decide,by decide,fun x Ga x0 x1 pua ba=>?_⟩
    exact ⟨ds++[x],by rw [cA]; rfl,by rw [aE,h1]; rfl,pua,b.trans ba⟩
  rintro n G0 hn ys G ⟨ds,rfl,lds,puG,bG⟩ dl hdl
  have ld:ds.length<=100:=by have:=hn.1; omega
  have sdl:=aD hdl (.lst (ds.map V.int))
  refine aZ ?_
  dsimp only
  have Hdl:H dl=none:=bB.dm puB dl (bG.dm puG dl hdl)
  have ndl:dl≠p:=pH puG hdl
  have puC:=puG.same sdl
  have bC:But p H (upd G dl (.lst (ds.map V.int))):=(bB.trans bG).same sdl
  have hblC:=sdl _ _ (bG _ _ hblB nbl)
  have hbxC:=fx.tups (fun t xs e=>sdl _ _ (dO.but puB bG _ _ e (jB xs))) hbxB
  have hqlC:=sdl _ _ (bG _ _ hqlB nql)
  have hdlC:upd G dl (.lst (ds.map V.int)) dl=some (.lst (ds.map V.int)):=ah
  revert puC bC hblC hbxC hqlC hdlC
  clear sdl hdl bG puG hn G0
  generalize upd G dl (.lst (ds.map V.int))=GC
  intro puC bC hblC hbxC hqlC hdlC
  -- the things
  refine bS (cJ ?_)
  refine EM (uB (K:=K) (a:=bl) (xs:=vb) (fun R h=>⟨_,rfl,h⟩) (SqL.of hblC) (fun i ys G=>G=GC/\ys=(bs.take i).map V.str) ⟨rfl,rfl⟩ ?_ ?_ ?_)
  · rintro i ys G hi ⟨rfl,rfl⟩
    rw [ar,cG]
    exact ⟨SqL.of hblC,by omega⟩
  · rintro i x ys G hi ⟨rfl,rfl⟩
    obtain ⟨kv,hkv,t,rfl,ht⟩:=jf hbxC hi
    obtain ⟨q,hq,rfl⟩:∃ q,ps[i]?=some q/\kv=((Sum.inr q.1:Key),V.int q.2):=by
      rw [bQ] at hkv
      cases z:ps[i]? with
      | none =>
        rw [z] at hkv
        cases hkv
      | some q =>
        rw [z] at hkv
        cases hkv
        exact ⟨q,rfl,rfl⟩
    refine ⟨t,_,rfl,SqT.of ht,rfl,_,_,rfl,_,_,rfl,rfl,?_⟩
    refine ⟨rfl,?_⟩
    unfold uP
    refine gF ?_
    refine ⟨_,rfl,rfl,?_⟩
    have hb:bs[i]?=some q.1:=by
      rw [<- kb,bQ,hq]
      rfl
    rw [fi,hb,cA]
    rfl
  rintro ys G ⟨rfl,rfl⟩ lb hlb
  have lvb:vb.length=bs.length:=by
    rw [<- kb,ar,hbxC.length]
  rw [lvb,dG] at *
  have slb:=aD hlb (.lst (bs.map V.str))
  refine ⟨_,rfl,_,rfl,_,rfl,by show 4<=aA; omega,fun lt hlt=>?_⟩
  have slt:=aD hlt (.lst [.ref lb,.ref ql,.ref ls,.int m])
  refine aZ ?_
  dsimp only
  -- what it hears
  refine bS (cJ ?_)
  refine ⟨bj _,fun hl hhl=>?_⟩
  have shl:=aD hhl (.lst [])
  refine aZ ?_
  dsimp only
  have sD:=(slb.trans slt).trans shl
  have Hhl:H hl=none:=bC.dm puC hl (none_of (slb.trans slt) hhl)
  have hlsD:=sD _ _ (bC _ _ hls nls)
  have TD:Th (upd (upd (upd G lb (.lst (bs.map V.str))) lt (.lst [.ref lb,.ref ql,.ref ls,.int m])) hl (.lst [])) lt lb ql ls m bs qs sgs:=⟨shl _ _ ah,shl _ _ (slt _ _ ah),sD _ _ hqlC,hlsD,⟨lbs.1,by omega⟩,⟨lqs.1,by omega⟩,by omega,⟨m0,m1⟩⟩
  have hhlD:upd (upd (upd G lb (.lst (bs.map V.str))) lt (.lst [.ref lb,.ref ql,.ref ls,.int m])) hl (.lst []) hl=some (.lst []):=ah
  have puD:=puC.same sD
  have bD:=bC.same sD
  have hblD:=sD _ _ hblC
  have hbxD:=fx.same sD hbxC
  have hdlD:=sD _ _ hdlC
  have nhp:hl≠p:=pH (puC.same (slb.trans slt)) hhl
  have nT:lt≠hl/\lb≠hl/\ql≠hl/\ls≠hl/\bl≠hl/\dl≠hl:=⟨aG ah hhl,aG (slt _ _ ah) hhl,aG ((slb.trans slt) _ _ hqlC) hhl,aG ((slb.trans slt) _ _ (bC _ _ hls nls)) hhl,aG ((slb.trans slt) _ _ hblC) hhl,aG ((slb.trans slt) _ _ hdlC) hhl⟩
  have nP:lt≠p/\lb≠p:=⟨pH (puC.same slb) hlt,pH puC hlb⟩
  revert TD hhlD puD bD hblD hbxD hdlD
  clear sD shl slt slb hlt hlb
  generalize upd (upd (upd G lb (.lst (bs.map V.str))) lt (.lst [.ref lb,.ref ql,.ref ls,.int m])) hl (.lst [])=GD
  intro TD hhlD puD bD hblD hbxD hdlD
  obtain ⟨g0,g1,g2,rfl⟩:=len3 l3
  refine bS ?_
  refine ⟨_,rfl,_,rfl,p,2,rfl,puD,by decide,by decide,fun r GE' r0 r1' puE bE=>⟨_,rfl,ls,_,rfl,SqL.of (bE _ _ TD.hs nls),fun sl hsl=>?_⟩⟩
  obtain ⟨zs,lz,eq⟩:∃ zs:List Str,zs.length<=3/\j8 ([g0,g1,g2].map V.str) (some r) none=zs.map V.str:=by
    have cs:r=0\/r=1:=by omega
    rcases cs with rfl | rfl
    · exact ⟨[g0,g1,g2],aC 3,rfl⟩
    · exact ⟨[g1,g2],by show 2<=3; decide,rfl⟩
  rw [eq]
  have ssl:=aD hsl (.lst (zs.map V.str))
  have B0:=hhlD
  have nB:GD hl≠none:=by
    rw [hhlD]
    intro z
    cases z
  have puF:=puE.same ssl
  have kF:Kp [p,hl] GD (upd GE' sl (.lst (zs.map V.str))):=(Kp.but bE aw).trans (Kp.same ssl)
  have dmF:Dm GD (upd GE' sl (.lst (zs.map V.str))):=(bE.dm puE).trans (Dm.same ssl)
  have hhlF:upd GE' sl (.lst (zs.map V.str)) hl=some (.lst []):=ssl _ _ (bE _ _ hhlD nhp)
  have hslF:upd GE' sl (.lst (zs.map V.str)) sl=some (.lst (zs.map V.str)):=ah
  have nsp:sl≠p:=pH puE hsl
  have nsh:sl≠hl:=(aG (bE _ _ hhlD nhp) hsl).symm
  revert puF kF dmF hhlF hslF
  clear ssl hsl eq
  generalize upd GE' sl (.lst (zs.map V.str))=GF
  intro puF kF dmF hhlF hslF
  refine ⟨sl,rfl,⟨_,SqL.of hslF⟩,iL (K:=K) (a:=sl) (xs:=zs.map V.str) (fun i σ G=>∃ (u10 u11 u12 u13:Option V) (hv:List V) (hs:List (Str×Ds)),σ=[some (.ref p),some (.str nm),some (.ref ls),some (.int m),some (.ref ln),some (.ref bl),some (.ref ql),some (.ref dl),some (.ref lt),some (.ref hl),u10,u11,u12,u13]/\G sl=some (.lst (zs.map V.str))/\G hl=some (.lst hv)/\aO (HsO bs qs GD G) hv hs/\hs.length=i/\(∀ q∈hs,q.2.toOk m/\q.2.deep<=4/\q.2.size<=3 * ddz 4)/\eK G p/\Kp [p,hl] GD G/\Dm GD G)
    ⟨_,_,_,_,[],[],rfl,hslF,hhlF,.nil,rfl,(fun q hq=>by cases hq),puF,kF,dmF⟩ ?_ ?_ ?_⟩
  · rintro i σ G _ ⟨_,_,_,_,_,_,rfl,h,_⟩
    exact SqL.of h
  · rintro i x σ G hi ⟨u10,u11,u12,u13,hv,hs,rfl,hslG,hhlG,phs,lhs,okh,puG,kG,dmG⟩
    rw [bQ] at hi
    obtain ⟨o,ho,rfl⟩:∃ o,zs[i]?=some o/\x=.str o:=by
      cases z:zs[i]? with
      | none =>
        rw [z] at hi
        cases hi
      | some o =>
        rw [z] at hi
        cases hi
        exact ⟨o,rfl,rfl⟩
    have iz:i < zs.length:=(aB.mp ho).1
    have nin:∀ {a:aa},a≠p->a≠hl->a∉[p,hl]:=fun n1 n2 z=>by
      simp only [au,aR,or_false] at z
      exact z.elim n1 n2
    have TG:Th G lt lb ql ls m bs qs [g0,g1,g2]:=⟨kG _ _ TD.ht (nin nP.1 nT.1),kG _ _ TD.hb (nin nP.2 nT.2.1),kG _ _ TD.hq (nin nql nT.2.2.1),kG _ _ TD.hs (nin nls nT.2.2.2.1),TD.lb,TD.lq,TD.ls,TD.m0⟩
    -- twenty are left, no deeds
    refine bS (cJ ?_)
    refine ⟨pE,fun lf hlf=>?_⟩
    have slf:=aD hlf (.lst [.int 20])
    refine aZ ?_
    dsimp only
    refine bS (cJ ?_)
    refine ⟨bj _,fun l0 hl0=>?_⟩
    have sl0:=aD hl0 (.lst [])
    refine aZ ?_
    dsimp only
    have s2:=slf.trans sl0
    have L2':Lf (upd (upd G lf (.lst [.int 20])) l0 (.lst [])) p lf:=⟨puG.same s2,20,sl0 _ _ ah⟩
    have n0:l0∉[p,lf]:=fun z=>by
      simp only [au,aR,or_false] at z
      rcases z with z | z
      · exact pH (puG.same slf) hl0 z
      · exact (aG (ah:upd G lf (.lst [.int 20]) lf=_) hl0) z.symm
    have hl0G:upd (upd G lf (.lst [.int 20])) l0 (.lst []) l0=some (.lst []):=ah
    have Gl0:G l0=none:=none_of slf hl0
    have T2:=TG.keepI (dO.same s2)
    have dm2:Dm G (upd (upd G lf (.lst [.int 20])) l0 (.lst [])):=Dm.same s2
    have nB1:upd (upd G lf (.lst [.int 20])) l0 (.lst []) l0≠none:=by
      rw [ah]
      intro z
      cases z
    revert L2' hl0G T2 dm2 nB1 s2
    clear sl0 slf
    generalize upd (upd G lf (.lst [.int 20])) l0 (.lst [])=G2
    intro s2 L2' hl0G T2 dm2 nB1
    refine bS ?_
    refine ⟨_,rfl,p,4,rfl,L2'.pu,by decide,by decide,fun r G3 r0 r1' pu3 b3=>⟨_,_,rfl,rfl,1 + r,rfl,by omega,by omega,?_⟩⟩
    have mp:p∈[p,lf]:=aw
    refine kU (n:=(1 + r).toNat) (fun j σ G'=>∃ (v13:Option V),σ=[some (.ref p),some (.str nm),some (.ref ls),some (.int m),some (.ref ln),some (.ref bl),some (.ref ql),some (.ref dl),some (.ref lt),some (.ref hl),some (.str o),some (.ref lf),some (.ref l0),v13]/\j<=4/\Gro bs qs m 3 (ddz 2) G2 G' l0 j/\Lf G' p lf/\Kp [p,lf,l0] G2 G'/\Dm G2 G')
      ⟨_,rfl,by omega,⟨[],.nil,b3 _ _ hl0G (fun z=>n0 (by rw [z]; exact mp)),aC _,w8,trivial,bj _,bj _⟩,L2'.but b3 pu3,Kp.but b3 aw,b3.dm pu3⟩ ?_ ?_
    · rintro j σ G4 hj ⟨v13,rfl,j4,gr,L4,k4,dm4⟩
      obtain ⟨c0,hc⟩:=L4.hl
      refine HS ?_
      refine ⟨_,rfl,lf,_,_,_,rfl,rfl,SqL.of hc,rfl,_,_,rfl,rfl,_,rfl,?_⟩
      refine jt (fun _=>?_) (fun _=>?_)
      · obtain ⟨xs,dd0,h1,h2,h3,h4,h5,h6⟩:=gr.ex
        have nl:∀ {a:aa} {o:HO},G2 a=some o->a≠p->a≠lf->a≠l0->G4 a=some o:=fun e n1 n2 n3=>k4 _ _ e fun z=>by
          simp only [au,aR,or_false] at z
          rcases z with z | z | z
          · exact n1 z
          · exact n2 z
          · exact n3 z
        have ns:∀ {a:aa} {ss:List Str},G2 a=some (.lst (ss.map V.str))->0 < ss.length->G4 a=some (.lst (ss.map V.str)):=fun {a ss} e l=>nl e (jK L2'.pu e) (fun z=>by
          obtain ⟨q,e'⟩:=L2'.hl
          rw [z,e'] at e
          cases ss with
          | nil=>cases e
          | cons a b=>cases e) (fun z=>by
          rw [z,hl0G] at e
          cases ss with
          | nil=>cases l
          | cons a b=>cases e)
        have T4:Th G4 lt lb ql ls m bs qs [g0,g1,g2]:=⟨nl T2.ht nP.1 (fun z=>by
            obtain ⟨q,e'⟩:=L2'.hl
            have:=T2.ht
            rw [z,e'] at this
            cases this) (fun z=>by
            have:=T2.ht
            rw [z,hl0G] at this
            cases this),ns T2.hb T2.lb.1,ns T2.hq T2.lq.1,ns T2.hs T2.ls.1,T2.lb,T2.lq,T2.ls,T2.m0⟩
        refine ⟨_,rfl,.inl ⟨rfl,_,SqL.of h1⟩,_,rfl,_,rfl,_,rfl,(bs,qs),p,lt,lb,ql,ls,lf,m,2,rfl,by decide,L4,T4,fun v dd G5 hO t dp' sz5 L5 k45=>?_⟩
        refine ⟨l0,xs,v,rfl,rfl,k45 _ _ h1 n0,by omega,?_⟩
        refine ⟨_,rfl,by omega,Gro.step n0 L4 k45 nB1 dm4 h1 h2 h3 h4 h5 h6 hO t (by omega) sz5,L5.put n0,fun b o eb nb=>?_,fun a na=>?_⟩
        · have nb3:b≠l0:=fun z=>nb (by simp [z])
          rw [aJ nb3]
          exact k45 _ _ (k4 b o eb nb) fun z=>nb (by
            simp only [au,aR,or_false] at z
            rcases z with z | z <;> simp [z])
        · by_cases ca:a=l0
          · rw [ca,ah] at na
            cases na
          · rw [aJ ca] at na
            exact dm4 a (k45.dm L5.there a na)
      · exact ⟨_,rfl,by omega,gr.up,L4,k4,dm4⟩
    · rintro σ G4 ⟨v13,rfl,j4,gr,L4,k4,dm4⟩
      obtain ⟨xs,dd0,h1,h2,h3,h4,h5,h6⟩:=gr.ex
      -- all but the purse stays
      have kp:Kp [p] G G4:=fun b o e nb=>k4 _ _ (s2 _ _ e) fun z=>by
        simp only [au,aR,or_false] at z
        rcases z with z | z | z
        · exact nb (by simp [z])
        · rw [z,hlf] at e
          cases e
        · rw [z,Gl0] at e
          cases e
      have ki:dO G G4:=kp.keepI fun a ha=>by
        obtain ⟨x,y,e⟩:=puG
        rw [aH.mp ha]
        exact ⟨x,_,e⟩
      have hhl4:=kp _ _ hhlG (by simpa using nhp)
      refine ⟨_,rfl,.inl ⟨rfl,_,SqL.of hhl4⟩,_,rfl,_,rfl,lt2,fun t ht=>?_⟩
      have st_:=aD ht (.tup [.str o,.ref l0])
      have hhl5:=st_ _ _ hhl4
      have lhv:=aT phs
      refine ⟨hl,hv,.ref t,rfl,rfl,hhl5,by omega,?_⟩
      have nt5:∀ ys,upd G4 t (.tup [.str o,.ref l0]) hl≠some (.tup ys):=fun ys z=>by
        rw [hhl5] at z
        cases z
      have l0GD:GD l0=none:=dmG l0 Gl0
      have dmA:Dm GD G2:=dmG.trans dm2
      have new:HsO bs qs GD (upd G4 t (.tup [.str o,.ref l0])) (.ref t) (o,dd0):=⟨t,l0,xs,rfl,ah,l0GD,st_ _ _ h1,by omega,(h3.base dmA).keepI (dO.same st_)⟩
      have sz:dd0.size<=3 * ddz 4:=by
        have:(1 + r).toNat * ddz 2<=4 * ddz 2:=pI _ j4
        have z:4 * ddz 2<=3 * ddz 4:=by decide
        omega
      refine ⟨_,_,_,_,hv++[.ref t],hs++[(o,dd0)],rfl,aX (st_ _ _ (kp _ _ hslG (by simpa using nsp))) nsh,ah,?_,by rw [aE,lhs]; rfl,fun q hq=>?_,oQ (L4.pu.same st_) nhp,fun b o' e nb=>?_,fun a na=>?_⟩
      · exact dR (Paired.mono (fun v q z=>(z.keepI (ki.trans (dO.same st_))).old nB nt5) phs) (new.old nB nt5)
      · rcases cq.mp hq with z | z
        · exact okh q z
        · rw [aH.mp z]
          exact ⟨h4,c8 h5 (by decide),sz⟩
      · have nb2:b≠hl:=fun z=>nb (by simp [z])
        rw [aJ nb2]
        exact st_ _ _ (kp _ _ (kG _ _ e nb) fun z=>nb (by simp only [aH] at z; simp [z]))
      · by_cases ca:a=hl
        · rw [ca,ah] at na
          cases na
        · rw [aJ ca] at na
          exact dmA a (dm4 a (none_of st_ na))
  · rintro σ G ⟨u10,u11,u12,u13,hv,hs,rfl,hslG,hhlG,phs,lhs,okh,puG,kG,dmG⟩
    dsimp only
    refine gK ⟨_,rfl,_,rfl,_,rfl,_,rfl,_,rfl,by show 5<=aA; omega,fun t ht=>?_⟩
    have st_:=aD ht (.tup [.str nm,.ref bl,.ref ql,.ref dl,.ref hl])
    have nin:∀ {a:aa},a≠p->a≠hl->a∉[p,hl]:=fun n1 n2 z=>by
      simp only [au,aR,or_false] at z
      exact z.elim n1 n2
    have dmH:Dm H GD:=bD.dm puD
    have tk:∀ (a:aa) (xs:List V),GD a=some (.tup xs)->upd G t (.tup [.str nm,.ref bl,.ref ql,.ref dl,.ref hl]) a=some (.tup xs):=fun a xs e=>st_ _ _ (kG _ _ e (nin (fun z=>by
      obtain ⟨x,y,e'⟩:=puD
      rw [z,e'] at e
      cases e) (fun z=>by
      rw [z,hhlD] at e
      cases e)))
    rw [ar] at lhs
    refine k t _ bs qs ds hs ps ⟨⟨bl,ql,dl,hl,vb,hv,ah,st_ _ _ (kG _ _ hblD (nin nbl nT.2.2.2.2.1)),fx.tups tk hbxD,st_ _ _ (kG _ _ TD.hq (nin nql nT.2.2.1)),st_ _ _ (kG _ _ hdlD (nin ndl nT.2.2.2.2.2)),st_ _ _ hhlG,Paired.mono (fun v q z=>(z.keepI (dO.same st_)).base dmH) phs,Hbl,Hql,Hdl,Hhl⟩,kb,ndb,ndq,by omega,by omega,ld,by omega,wb,okh⟩ (puG.same st_) fun b o e nb=>?_
    exact st_ _ _ (kG _ _ (bD _ _ e nb) (nin nb (aG e Hhl)))
end
end My
namespace My
open PySem L2
theorem MIn.but {m:Int} {H H' H1:Hp} {p:aa} {v:V} {M:MD} (pu0:eK H p) (pu:eK H' p) (b:But p H' H1) (h:MIn m H H' v M):MIn m H H1 v M:=by
  obtain ⟨t,e,h⟩:=h
  exact ⟨t,e,h.but pu0 pu b⟩
theorem at2z {x y:Int} {b:Bool}:atI [V.int x,.int y] (if b=true then 1 else 0)=some (.int (if b=true then y else x)):=by
  cases b <;> rfl
section
variable {P:aM} {w:bH} {K:af} {mg:Str->Option ae} {base:cB} {f fT fN fM:aa} {fd fdT fdN fdM:bY}
seal L2.PS L2.PSs L2.PE L2.PA L2.PT L2.PW L2.PI L2.PG L2.PGs L2.PC
abbrev nLv:List Str:=["_law_purse_here","_law_names_here","_law_signs","_law_machines","_law_outside","_law_k","_law_time","_law_to","_law_sign"]
abbrev pLv:List Str:=["_law_purse_here"]
theorem xb:bV nLv pLv (aQ jW):=⟨rfl,rfl,rfl,by decide +kernel,rfl,by decide +kernel,by decide +kernel⟩
theorem ndLv:((["_law_name"]:List Str)++nLv).Nodup:=by decide +kernel
def spLv:Sp:=fun vs H Q _=>∃ (p:aa),vs=[.ref p]/\eK H p /\
  ∀ (l ml ol:aa) (xs svs:List V) (Ms:List MD) (es:List Ev) (H':Hp),H' l=some (.lst [.ref ml,.ref ol])->H' ml=some (.lst xs)->aO (MIn Ms.length H H') xs Ms->0 < Ms.length->Ms.length<=4->H' ol=some (.lst svs)->aO (wV H') svs es->es.length < 64->(∀ e∈es,zE Ms.length e)->ml≠p->ol≠p->eK H' p->But p H H'->Q (.ref l) H'
theorem ok_lv (D:Df K mg "_law_live" jW pLv f fd) (DN:Df K mg "_law_names" iF pN fN fdN) (DM:Df K mg "_law_live_machine" eA pLm fM fdM) (GM0:∀ sgs,bT P w K mg base CX0 11 fM fdM pLm (JY sgs)) (DT:Df K mg "_law_take" fc pT fT fdT) (B:Bl mg):bT P w K mg base CX0 12 f fd pLv spLv:=by
  have GT:bT P w K mg base CX0 1 fT fdT pT oB:=mw DT B
  have GN:bT P w K mg base CX0 2 fN fdN pN w5:=yo DN DT B
  have GM:=bT.some (ι:=List Str) (sp:=JY) (F:=GM0)
  refine D.F.ok xb (fun vs H Q E h=>?_) (fun cdv A outer s H vs Q E hr h=>?_)
  · obtain ⟨p,rfl,_⟩:=h
    rfl
  obtain ⟨p,rfl,pu,k⟩:=h
  have r1:dP 1 _:=hr.mono (by decide)
  have r2:dP 2 _:=hr.mono (by decide)
  have r11:dP 11 _:=hr
  refine ⟨_,ak (bz (i:=1) xb.nd rfl (Or.inr rfl) (aS GN r2 (by rfl) DN.m DN.F.kp DN.b .nil cm (bN (pv 0) (EF (bZ dZ (eT (dB ay (dB ay (dB ay (dB ay ao))))) (aS GT r1 (by rfl) DT.m DT.F.kp DT.b .nil cm (bN (pv 0) (dB ay ao))) (fun _ _=>rfl)) ao))))
    (ak (bz (i:=2) xb.nd rfl (Or.inr rfl) (aS GN r2 (by rfl) DN.m DN.F.kp DN.b .nil cm (bN (pv 0) (dB ay ao))))
    (ak (qj (i:=3) ["_law_name"] (ia.open (NN:=nLv) (N:=nLv) (sc:=aQ jW) rfl rfl (by decide +kernel) rfl (by decide +kernel) (by decide +kernel) rfl (by decide +kernel)) rfl xb.nd rfl (Or.inl rfl) (gW (pv 1)) (fun _ _ _ _=>dy (i:=0) ndLv rfl (Or.inl rfl)) (fun _ _ _ _=>jI) (fun _ _ _ _=>aS GM r11 (by rfl) DM.m DM.F.kp DM.b .nil cm (bN (pv 1) (bN (pv 0) (bN (pv 3) (kP (dA (eR K (by rfl)) (by rfl) B.len cI (bN (pv 2) ao)) ao))))))
    (ak (bz (i:=4) xb.nd rfl (Or.inl rfl) (eT ao))
    (ak (iy cQ rfl (iB (by rfl) B.range (jJ (cP fJ ay (aS GT r1 (by rfl) DT.m DT.F.kp DT.b .nil cm (bN (pv 0) (dB ay ao)))) ao)) (dy (i:=5) xb.nd rfl (Or.inl rfl)) (ak (bz (i:=6) xb.nd rfl (Or.inl rfl) (bZ dZ (eT (kP (aS GT r1 (by rfl) DT.m DT.F.kp DT.b .nil cm (bN (pv 0) (dB ay ao))) (kP (aS GT r1 (by rfl) DT.m DT.F.kp DT.b .nil cm (bN (pv 0) (jJ (cP fJ (cP vY ay ay) ay) ao))) ao))) (iC vd (by rfl) B.int boot_int (aq (kn ff (aS GT r1 (by rfl) DT.m DT.F.kp DT.b .nil cm (bN (pv 0) (dB ay ao))) ay (cE _)) ao)) (fun _ _=>rfl)))
    (ak (bz (i:=7) xb.nd rfl (Or.inl rfl) (aS GT r1 (by rfl) DT.m DT.F.kp DT.b .nil cm (bN (pv 0) (kP (dA (eR K (by rfl)) (by rfl) B.len cI (bN (pv 1) ao)) ao))))
    (ak (bz (i:=8) xb.nd rfl (Or.inl rfl) (bZ dZ (pv 2) (aS GT r1 (by rfl) DT.m DT.F.kp DT.b .nil cm (bN (pv 0) (dB ay ao))) (fun _ _=>rfl)))
    (aF (dW (jr bK cg cj e7 (pv 4) (ic (cR (bN (pv 6) (kP (aS GT r1 (by rfl) DT.m DT.F.kp DT.b .nil cm (bN (pv 0) (dB ay ao))) (bN (pv 7) (bN (pv 8) (jJ (cP pf (aS GT r1 (by rfl) DT.m DT.F.kp DT.b .nil cm (bN (pv 0) (dB ay ao))) ay) (kP (aS GT r1 (by rfl) DT.m DT.F.kp DT.b .nil cm (bN (pv 0) (dB ay ao))) ao))))))) ao) (hs:=uz))))))))
    (aF (bX (eT (bN (pv 3) (bN (pv 4) ao))))))))),?_⟩
  have big:=eU
  have c6:Cg 10 6:=⟨by decide,by decide,by decide⟩
  have e6:(10:Int) ^ (6:Int).toNat=1000000:=by decide
  -- the names, the signs
  refine bS (cJ ?_)
  refine ⟨_,rfl,by show 4<=aA; decide,fun l0 hl0=>?_⟩
  have sl0:=aD hl0 (.lst [.int 2,.int 3,.int 1,.int 4])
  have nl0:l0≠p:=pH pu hl0
  refine ⟨_,rfl,p,4,rfl,pu.same sl0,by decide,by decide,fun r G1 r0 r1' pu1 b1=>?_⟩
  obtain ⟨n,hat,n0,n4⟩:∃ n:Nat,atI [V.int 2,.int 3,.int 1,.int 4] r=some (.int (n:Int))/\0 < n/\n<=4:=by
    have cs:r=0\/r=1\/r=2\/r=3:=by omega
    rcases cs with rfl | rfl | rfl | rfl
    · exact ⟨2,rfl,by decide,by decide⟩
    · exact ⟨3,rfl,by decide,by decide⟩
    · exact ⟨1,rfl,by decide,by decide⟩
    · exact ⟨4,rfl,by decide,by decide⟩
  refine ⟨l0,_,_,_,rfl,rfl,SqL.of (b1 _ _ ah nl0),hat,p,n,rfl,pu1,by omega,by omega,fun ln ns G2 hln hlnG lns _ pu2 b2=>?_⟩
  refine aZ ?_
  dsimp only
  have B2:But p H G2:=fun b o e nb=>b2 _ _ (b1 _ _ (sl0 _ _ e) nb) nb
  have nln:=jK pu2 hlnG
  refine bS (cJ ?_)
  refine ⟨_,rfl,p,3,rfl,pu2,by decide,by decide,fun ls sgs G3 hls hlsG lsg _ pu3 b3=>?_⟩
  refine aZ ?_
  dsimp only
  have nls:=jK pu3 hlsG
  have hln3:=b3 _ _ hlnG nln
  have B3:But p H G3:=B2.trans b3
  -- the machines
  refine bS (cJ ?_)
  refine uB (K:=K) (a:=ln) (xs:=ns.map V.str) (fun R h=>⟨_,rfl,h⟩) (SqL.of hln3) (fun i ys G=>∃ Ms:List MD,aO (MIn n H G) ys Ms/\Ms.length=i/\eK G p/\But p G3 G) ⟨[],.nil,rfl,pu3,But.refl _ _⟩ ?_ ?_ ?_
  · rintro i ys G hi ⟨Ms,h1,h2,h3,h4⟩
    rw [ar] at hi
    have:=aT h1
    exact ⟨SqL.of (h4 _ _ hln3 nln),by omega⟩
  · rintro i x ys G hi ⟨Ms,h1,h2,h3,h4⟩
    rw [bQ] at hi
    obtain ⟨nm,hnm,rfl⟩:∃ o,ns[i]?=some o/\x=.str o:=by
      cases z:ns[i]? with
      | none =>
        rw [z] at hi
        cases hi
      | some o =>
        rw [z] at hi
        cases hi
        exact ⟨o,rfl,rfl⟩
    refine ⟨rfl,?_⟩
    unfold uP
    refine gF ?_
    have en:((ns.map V.str).length:Int)=(n:Int):=by
      rw [ar]
      exact lns
    refine ⟨_,rfl,_,rfl,_,rfl,_,rfl,ln,_,rfl,.inl (SqL.of (h4 _ _ hln3 nln)),sgs,p,ls,nm,n,(by show [V.ref p,V.str nm,V.ref ls,V.int ((ns.map V.str).length:Int)]=_; rw [en]),h3,h4 _ _ hlsG nls,by omega,by omega,by omega,fun t G' bs qs ds hs ps mch pu' b'=>?_⟩
    refine ⟨Ms++[⟨nm,bs,qs,ds,hs,ps⟩],?_,by rw [aE,h2]; rfl,pu',h4.trans b'⟩
    exact dR (Paired.mono (fun v M z=>MIn.but pu h3 b' z) h1) ⟨t,rfl,mch.base ((B3.trans h4).dm h3)⟩
  rintro xs G9 ⟨Ms,hMs,lMs,pu9,b9⟩ ml hml
  rw [ar] at lMs
  have sml:=aD hml (.lst xs)
  have lMn:Ms.length=n:=by omega
  refine aZ ?_
  dsimp only
  have nml:ml≠p:=pH pu9 hml
  have BA:But p H (upd G9 ml (.lst xs)):=(B3.trans b9).same sml
  have puA:=pu9.same sml
  have hmlA:upd G9 ml (.lst xs) ml=some (.lst xs):=ah
  have hMsA:aO (MIn n H (upd G9 ml (.lst xs))) xs Ms:=Paired.mono (fun v M ⟨t,e,z⟩=>⟨t,e,z.same sml⟩) hMs
  have hlnA:=sml _ _ (b9 _ _ hln3 nln)
  have hlsA:=sml _ _ (b9 _ _ hlsG nls)
  revert BA puA hmlA hMsA hlnA hlsA
  clear sml hml hMs b9 pu9
  generalize upd G9 ml (.lst xs)=GA
  intro BA puA hmlA hMsA hlnA hlsA
  -- the outside signs
  refine bS (cJ ?_)
  refine ⟨bj _,fun ol hol=>?_⟩
  have sol:=aD hol (.lst [])
  have nol:ol≠p:=pH puA hol
  refine aZ ?_
  dsimp only
  refine bS ?_
  refine ⟨_,rfl,p,5,rfl,puA.same sol,by decide,by decide,fun rr GB rr0 rr1 puB bB=>⟨_,_,rfl,rfl,1 + rr,rfl,by omega,by omega,?_⟩⟩
  refine kU (n:=(1 + rr).toNat) (fun i σ G=>∃ (u5 u6 u7 u8:Option V) (svs:List V) (es:List Ev),σ=[some (.ref p),some (.ref ln),some (.ref ls),some (.ref ml),some (.ref ol),u5,u6,u7,u8]/\G ol=some (.lst svs)/\aO (wV G) svs es/\es.length=i/\(∀ e∈es,zE n e)/\eK G p/\But p GA G)
    ⟨_,_,_,_,[],[],rfl,bB _ _ ah nol,.nil,rfl,(fun e he=>by cases he),puB,fun b o e nb=>bB _ _ (sol _ _ e) nb⟩ ?_ ?_
  · rintro i σ G hi ⟨u5,u6,u7,u8,svs,es,rfl,hsv,psv,les,oke,puG,bG⟩
    have hlnG':=bG _ _ hlnA nln
    have hlsG':=bG _ _ hlsA nls
    refine bS (cJ ?_)
    refine ⟨_,rfl,p,12,rfl,puG,by decide,by decide,fun a1 Ga a10 a11 pua ba=>⟨_,rfl,_,_,rfl,rfl,c6,_,_,rfl,rfl,p,_,rfl,pua,by decide,by decide,fun a2 Gb a20 a21 pub bb=>⟨lt2,fun l2 hl2=>?_⟩⟩⟩
    have sl2:=aD hl2 (.lst [.int a1,.int a2])
    have nl2:l2≠p:=pH pub hl2
    refine ⟨_,rfl,p,8,rfl,pub.same sl2,by decide,by decide,fun a3 Gc a30 a31 puc bc=>⟨rfl,.inr ⟨_,rfl,l2,_,_,_,rfl,rfl,SqL.of (bc _ _ ah nl2),at2z,?_⟩⟩⟩
    have a21':a2 < 1000001:=a21
    obtain ⟨ti,hti,ti0,ti1⟩:∃ ti:Int,(if decide (V.int a3=V.int 7)=true then a2 else a1)=ti/\0<=ti/\ti<=1000000:=⟨_,rfl,by split <;> omega,by split <;> omega⟩
    rw [hti]
    refine aZ ?_
    dsimp only
    have bGc:But p G Gc:=fun b o e nb=>bc _ _ (sl2 _ _ (bb _ _ (ba _ _ e nb) nb)) nb
    refine bS (cJ ?_)
    refine ⟨_,rfl,_,rfl,ln,_,rfl,.inl (SqL.of (bGc _ _ hlnG' nln)),p,_,rfl,puc,by rw [ar]; omega,by rw [ar]; omega,fun to Gd to0 to1 pud bd=>?_⟩
    rw [ar] at to1
    refine aZ ?_
    dsimp only
    refine bS (cJ ?_)
    refine ⟨_,rfl,_,rfl,p,3,rfl,pud,by decide,by decide,fun si Ge si0 si1 pue be=>?_⟩
    obtain ⟨sg,hsg,_⟩:=jY (bs:=sgs) si0 (by omega)
    have bGe:But p G Ge:=(bGc.trans bd).trans be
    refine ⟨ls,_,_,_,rfl,rfl,SqL.of (bGe _ _ hlsG' nls),hsg,?_⟩
    refine aZ ?_
    dsimp only
    have hsve:=bGe _ _ hsv nol
    refine ⟨_,rfl,.inl ⟨rfl,_,SqL.of hsve⟩,_,rfl,_,rfl,p,4,rfl,pue,by decide,by decide,fun rk Gf rk0 rk1 puf bf=>⟨_,rfl,_,rfl,_,rfl,p,9,rfl,puf,by decide,by decide,fun va Gg va0 va1 pug bg=>⟨_,_,rfl,rfl,_,rfl,p,50,rfl,pug,by decide,by decide,fun vb Gh vb0 vb1 puh bh=>⟨by show 6<=aA; omega,fun t ht=>?_⟩⟩⟩⟩
    have st_:=aD ht (.tup [.int ti,.int rk,.int to,.str sg,.int (va - 2),.int vb])
    have bGh:But p G Gh:=((bGe.trans bf).trans bg).trans bh
    have hsvh:=st_ _ _ (bGh _ _ hsv nol)
    have lsv:=aT psv
    refine ⟨ol,svs,.ref t,rfl,rfl,hsvh,by omega,?_⟩
    have w15:(10:Int) ^ 15=1000000000000000:=by decide
    refine ⟨_,_,_,_,svs++[.ref t],es++[⟨ti,rk,0,0,to,sg,va - 2,vb⟩],rfl,ah,?_,by rw [aE,les]; rfl,fun e he=>?_,oQ (puh.same st_) nol,fun b o e nb=>aX (st_ _ _ (bGh _ _ (bG _ _ e nb) nb)) (aG e hol)⟩
    · refine dR (Paired.mono (fun v e ⟨t',e',h⟩=>⟨t',e',?_⟩) psv) ⟨t,rfl,aX ah (aG (bGh _ _ hsv nol) ht).symm⟩
      exact aX (st_ _ _ (dO.but puG bGh _ _ h (jB _))) (kT (st_ _ _ (dO.but puG bGh _ _ h (jB _))) hsvh (by intro z; cases z))
    · rcases cq.mp he with z | z
      · exact oke e z
      · rw [aH.mp z]
        refine ⟨to0,by show to < (n:Int); omega,?_,?_,?_⟩
        · exact iH ⟨by show -1000000<=ti; omega,by show ti<=1000000; omega⟩
        · exact iH ⟨by show -1000000<=va - 2; omega,by show va - 2<=1000000; omega⟩
        · exact iH ⟨by show -1000000<=vb; omega,by show vb<=1000000; omega⟩
  · rintro σ G ⟨u5,u6,u7,u8,svs,es,rfl,hsv,psv,les,oke,puG,bG⟩
    dsimp only
    refine gK ⟨_,rfl,_,rfl,lt2,fun l hl=>?_⟩
    have st_:=aD hl (.lst [.ref ml,.ref ol])
    refine k l ml ol xs svs Ms es _ ah (st_ _ _ (bG _ _ hmlA nml)) ?_ (by omega) (by omega) (st_ _ _ hsv) (Paired.mono (fun _ _ z=>z.same st_) psv) (by omega) ?_ nml nol (puG.same st_) ((BA.trans bG).same st_)
    · rw [lMn]
      exact Paired.mono (fun v M ⟨t,e,z⟩=>⟨t,e,(z.but pu puA bG).same st_⟩) hMsA
    · rw [lMn]
      exact oke
end
end My
namespace L2
open PySem PySem.Spec PyProof.Rows PySem.SeqAt
abbrev Ed:=List (Sum Str (List Int))
def rG (H:Hp) (v:V):Sum Str (List Int)->Prop
  | .inl s=>v=.str s
  | .inr n=>∃ a,v=.ref a/\H a=some (.tup (n.map V.int))
def iY (H:Hp) (p:aa) (E:Ed):Prop:=∃ xs,H p=some (.tup xs)/\aO (rG H) xs E
theorem rG.same {H G:Hp} (s:bM H G) {v:V}:∀ {q:Sum Str (List Int)},rG H v q->rG G v q
  | .inl _,h=>h
  | .inr _,⟨a,e,h⟩=>⟨a,e,s _ _ h⟩
theorem iY.same {H G:Hp} (s:bM H G) {p:aa} {E:Ed} (h:iY H p E):iY G p E:=by
  obtain ⟨xs,h1,h2⟩:=h
  exact ⟨xs,s _ _ h1,Paired.mapP h2 fun _ _ z=>z.same s⟩
theorem uE {α:Type} [DecidableEq α] {n m:List α}:((hV (min n.length m.length)).all (fun i=>decide (n[i]?=m[i]?)) && n.length == m.length)=decide (n=m):=by
  by_cases c:n=m
  · subst c
    rw [decide_eq_true rfl,beq_self_eq_true,IP]
    exact sU.mpr fun i _=>decide_eq_true rfl
  · rw [decide_eq_false c,Bool.eq_false_iff]
    intro z
    rw [mJ] at z
    have l:n.length=m.length:=by simpa using z.2
    refine c (rR fun i=>?_)
    rcases kj i n.length with lt | ge
    · exact of_decide_eq_true (sU.mp z.1 i (oY.mpr (by omega)))
    · rw [d8 ge,d8 (by omega)]
theorem xc {α β:Type} {R:α->β->Prop}:∀ {xs:List α} {ys:List β} (p:aO R xs ys) {j:Nat} (h:j < xs.length),R (xs[j]) (ys[j]'(by rw [<- aT p]; exact h))
  | _,_,.nil,j,h=>by cases h
  | _,_,.cons a b,0,h=>a
  | _,_,.cons a b,j + 1,h=>xc b (by simpa using h)
section
variable {P:aM} {w:bH} {H:Hp} {s:aj}
theorem Hf (ok:HOk P w H s.heap) {A:bP} {a b:aa} {n m:List Int} (hu:A.units + 3 < dM) (ha:H a=some (.tup (n.map V.int))) (hb:H b=some (.tup (m.map V.int))):EqAt A s (.ref a) (.ref b) (decide (n=m)):=by
  by_cases c:a=b
  · subst c
    rw [ha] at hb
    have e:n=m:=List.map_inj_right (fun _ _ z=>by cases z; rfl) |>.mp (HO.tup.inj (cW hb))
    rw [decide_eq_true e]
    exact EqAt.same _
  refine EqAt.of_refs c ?_
  obtain ⟨us,r1,i1⟩:=eB ok ha
  obtain ⟨vs,r2,i2⟩:=eB ok hb
  have l1:=r1.length
  have l2:=r2.length
  rw [ar] at l1 l2
  have k:=RcAt.tuples (A:=A) (e:=fun i=>decide (n[i]?=m[i]?)) i1 i2 (by omega) (fun j p q=>by
    have jp:j < us.length:=by simpa using p
    have jq:j < vs.length:=by simpa using q
    have hx:(n.map V.int)[j]?=some (.int (n[j]'(by omega))):=by rw [bQ,ax (by omega)]; rfl
    have hy:(m.map V.int)[j]?=some (.int (m[j]'(by omega))):=by rw [bQ,ax (by omega)]; rfl
    obtain ⟨u,eu,⟨t,rfl⟩⟩:=r1.get hx
    obtain ⟨v,ev,⟨t',rfl⟩⟩:=r2.get hy
    have z:=EqAt.int_int (A:=A.in1) (s:=s) (n[j]'(by omega)) t (m[j]'(by omega)) t'
    have ee:decide (n[j]?=m[j]?)=((n[j]'(by omega)) == (m[j]'(by omega))):=by
      rw [ax (by omega),ax (by omega)]
      by_cases c:n[j]'(by omega)=m[j]'(by omega)
      · rw [c,decide_eq_true rfl,beq_self_eq_true]
      · rw [decide_eq_false (fun z=>c (cW z)),beq_eq_false_iff_ne.mpr c]
    show EqAt A.in1 s _ _ (decide (n[j]?=m[j]?))
    rw [ee]
    have e1:us[j]=_:=(aB.mp eu).2
    have e2:vs[j]=_:=(aB.mp ev).2
    simpa [e1,e2] using z)
  rw [av,av,<- l1,<- l2,uE] at k
  exact k
theorem it_at (ok:HOk P w H s.heap) {A:bP} {x y:V} {p q:Sum Str (List Int)} {u v:ae} (hu:A.units + 4 < dM) (hx:rG H x p) (hy:rG H y q) (rx:RelV x u) (ry:RelV y v):EqAt A s u v (decide (p=q)):=by
  cases p with
  | inl i =>
    cases hx
    obtain ⟨t,rfl⟩:=rx
    cases q with
    | inl j =>
      cases hy
      obtain ⟨t',rfl⟩:=ry
      have z:=EqAt.str_str (A:=A) (s:=s) i t j t'
      have e:(i == j)=decide ((Sum.inl i:Sum Str (List Int))=.inl j):=by
        by_cases c:i=j
        · rw [c,decide_eq_true rfl,beq_self_eq_true]
        · rw [decide_eq_false (fun z=>c (Hn z)),beq_eq_false_iff_ne.mpr c]
      rw [e] at z
      exact z
    | inr m =>
      obtain ⟨b,rfl,hb⟩:=hy
      cases ry
      obtain ⟨vs,r2,i2⟩:=eB ok hb
      rw [decide_eq_false (by intro z; cases z)]
      exact EqAt.str_tuple i t i2 (by omega)
  | inr n =>
    obtain ⟨a,rfl,ha⟩:=hx
    cases rx
    obtain ⟨us,r1,i1⟩:=eB ok ha
    cases q with
    | inl j =>
      cases hy
      obtain ⟨t',rfl⟩:=ry
      rw [decide_eq_false (by intro z; cases z)]
      exact EqAt.tuple_str j t' i1 (by omega)
    | inr m =>
      obtain ⟨b,rfl,hb⟩:=hy
      cases ry
      have z:=Hf (A:=A) ok (by omega) ha hb
      have e:decide (n=m)=decide ((Sum.inr n:Sum Str (List Int))=.inr m):=by
        by_cases c:n=m
        · rw [c,decide_eq_true rfl,decide_eq_true rfl]
        · rw [decide_eq_false c,decide_eq_false (fun z=>c (jm z))]
      rw [e] at z
      exact z
end
section
variable {X:Cx}
theorem yp {pins:List (aa×Obj)} {s:aj} {σ:St} {H:Hp} (I:Inv X pins σ H s) (hu:X.A.units + 50 < dM) {xs ys:List V} {E F:Ed} {us vs:List ae} (h1:aO (rG H) xs E) (h2:aO (rG H) ys F) (r1:cS xs us) (r2:cS ys vs) :
    ∀ j (p:j < us.toArray.size) (q:j < vs.toArray.size),EqAt X.A.in1 s us.toArray[j] vs.toArray[j] (decide (E[j]?=F[j]?)):=fun j p q=>by
  have jp:j < us.length:=by simpa using p
  have jq:j < vs.length:=by simpa using q
  have l1:=r1.length
  have l2:=r2.length
  have m1:=aT h1
  have m2:=aT h2
  obtain ⟨u,eu,ru⟩:=r1.get (ax (l:=xs) (i:=j) (by omega))
  obtain ⟨v,ev,rv⟩:=r2.get (ax (l:=ys) (i:=j) (by omega))
  have at1:rG H (xs[j]'(by omega)) (E[j]'(by omega)):=xc h1 (by omega)
  have at2:rG H (ys[j]'(by omega)) (F[j]'(by omega)):=xc h2 (by omega)
  have z:=it_at (A:=X.A.in1) I.hok (by show X.A.units + 1 + 4 < dM; omega) at1 at2 ru rv
  have ee:decide (E[j]?=F[j]?)=decide (E[j]'(by omega)=F[j]'(by omega)):=by
    rw [ax (by omega),ax (by omega)]
    by_cases c:E[j]'(by omega)=F[j]'(by omega)
    · rw [c,decide_eq_true rfl,decide_eq_true rfl]
    · rw [decide_eq_false c,decide_eq_false (fun z=>c (cW z))]
  rw [ee]
  have e1:us[j]=_:=(aB.mp eu).2
  have e2:vs[j]=_:=(aB.mp ev).2
  simpa [e1,e2] using z
def rEqE:R2:=fun x y H Q=>∃ p q E F,x=.ref p/\y=.ref q/\iY H p E/\iY H q F/\Q (.bl (decide (E=F))) H
def rNeE:R2:=fun x y H Q=>∃ p q E F,x=.ref p/\y=.ref q/\iY H p E/\iY H q F/\Q (.bl (!decide (E=F))) H
theorem xf (hu:X.A.units + 50 < dM):OpR X (cU .Eq) rEqE:=by
  intro pins s σ H x y v u Q I rx ry h
  obtain ⟨p,q,E,F,rfl,rfl,⟨xs,h1,h2⟩,⟨ys,h3,h4⟩,k⟩:=h
  cases rx
  cases ry
  have fin:EP X pins σ Q (.bool (decide (E=F))) s:=⟨.bl _,H,I,rfl,k⟩
  obtain ⟨us,r1,i1⟩:=eB I.hok h1
  obtain ⟨vs,r2,i2⟩:=eB I.hok h3
  have z:=RcAt.tuples (A:=X.A) (e:=fun i=>decide (E[i]?=F[i]?)) i1 i2 (by omega) (yp I hu h2 h4 r1 r2)
  rw [av,av,<- r1.length,<- r2.length,aT h2,aT h4,uE] at z
  exact z X.prog X.w _ _ fin
theorem JZ (hu:X.A.units + 50 < dM):OpR X (cU .NotEq) rNeE:=by
  intro pins s σ H x y v u Q I rx ry h
  obtain ⟨p,q,E,F,rfl,rfl,⟨xs,h1,h2⟩,⟨ys,h3,h4⟩,k⟩:=h
  cases rx
  cases ry
  have fin:EP X pins σ Q (.bool (!decide (E=F))) s:=⟨.bl _,H,I,rfl,k⟩
  obtain ⟨us,r1,i1⟩:=eB I.hok h1
  obtain ⟨vs,r2,i2⟩:=eB I.hok h3
  have z:=RcNeAt.tuples (A:=X.A) (e:=fun i=>decide (E[i]?=F[i]?)) i1 i2 (by omega) (yp I hu h2 h4 r1 r2)
  rw [av,av,<- r1.length,<- r2.length,aT h2,aT h4,uE] at z
  exact z X.prog X.w _ _ fin
end
end L2
namespace My
open PySem L2
section
variable {Ms:List MD} {r:RS}
theorem AK (Ms:List MD) (r:RS):∀ (i d:Nat),∃ t,(itR Ms r (i + d)).2=(itR Ms r i).2++t
  | i,0=>⟨[],by rw [dC]; rfl⟩
  | i,d + 1=>by
    obtain ⟨t,e⟩:=AK Ms r i d
    refine ⟨t++(gD Ms (itR Ms r (i + d)).1).2,?_⟩
    show (itR Ms r (i + d)).2++(gD Ms (itR Ms r (i + d)).1).2=_
    rw [e,i5]
theorem been {most:Int} (mo:wX Ms):∀ {i:Nat},(∀ j,j < i->ROk Ms.length (itR Ms r j).1/\jA (itR Ms r j).1 (most - (itR Ms r j).2.length)=none)->(∀ j,j < i->(itR Ms r j).2.length=j)/\(itR Ms r i).2.length<=i
  | 0,_=>⟨fun j hj=>absurd hj (jT _),aC _⟩
  | i + 1,h=>by
    obtain ⟨h2,h3⟩:=been (i:=i) mo fun j hj=>h j (by omega)
    have di:=oq (h i (by omega)).2
    have ri:=(h i (by omega)).1
    obtain ⟨_,s2⟩:=uw (wY mo ri di.2.1)
    have li:(itR Ms r i).2.length=i:=by
      cases i with
      | zero=>rfl
      | succ i =>
        -- the turn ahead of it told a record, else it would be over
        have e:(itR Ms r (i + 1)).2=(itR Ms r i).2++(gD Ms (itR Ms r i).1).2:=rfl
        have dj:=oq (h i (by omega)).2
        obtain ⟨_,s2'⟩:=uw (wY mo (h i (by omega)).1 dj.2.1)
        rcases s2' with ⟨q,eq⟩ | ⟨_,sp,esp⟩
        · rw [e,eq,aE,h2 i (by omega)]
          rfl
        · have:(itR Ms r (i + 1)).1.sp=some sp:=esp
          rw [di.1] at this
          cases this
    refine ⟨fun j hj=>?_,?_⟩
    · rcases kj j i with z | z
      · exact h2 j z
      · have:j=i:=by omega
        rw [this]
        exact li
    · have e:(itR Ms r (i + 1)).2=(itR Ms r i).2++(gD Ms (itR Ms r i).1).2:=rfl
      rw [e,aE,li]
      rcases s2 with ⟨q,eq⟩ | ⟨eq,_⟩
      · rw [eq]
        exact aC _
      · rw [eq]
        exact fb _
theorem BG {most:Int} {i:Nat} {e:End} (mo:wX Ms) (s:ux Ms r most i e) (m0:0<=most):((itR Ms r i).2.length:Int)<=most:=by
  cases i with
  | zero =>
    show ((0:Nat):Int)<=most
    omega
  | succ i =>
    obtain ⟨h1,h2⟩:=been mo s.1
    have d:=oq (s.1 i (by omega)).2
    have:=h1 i (by omega)
    omega
theorem yq {r:RS} {a b:Int} (h:jA r a=none) (l:a<=b):jA r b=none:=by
  obtain ⟨h1,h2,h3⟩:=oq h
  unfold jA
  rw [h1]
  dsimp only
  rw [if_neg,if_neg (by omega)]
  intro z
  exact h2 (List.isEmpty_iff.mp z)
end
end My
namespace My
open PySem L2
theorem AL {H:Hp} {n:Nat} {p q:aa} {xs:List V} (hp:H p=some (.tup xs)) (hq:H q=some (.tup xs)) (sc:∀ x∈xs,sc0 x):TEq H (n + 1) (.ref p) (.ref q):=
  .inr (.inr ⟨p,q,xs,xs,rfl,rfl,hp,hq,by
    clear hp hq
    induction xs with
    | nil=>exact .nil
    | cons x xs ih =>
      refine .cons ?_ (ih fun y hy=>sc y (ag _ hy))
      cases n with
      | zero=>exact ⟨sc x aw,rfl⟩
      | succ n=>exact .inl ⟨sc x aw,rfl⟩⟩)
theorem uF {H:Hp} {n:Nat} {α:Type} {R S:V->α->Prop} (f:∀ x y a,R x a->S y a->TEq H n x y):∀ {xs ys:List V} {as:List α},aO R xs as->aO S ys as->aO (TEq H n) xs ys:=by
  intro xs ys as p
  induction p generalizing ys with
  | nil =>
    intro q
    cases q
    exact .nil
  | cons a b ih =>
    intro q
    cases q with
    | cons c d=>exact .cons (f _ _ _ a c) (ih d)
theorem Hg {H:Hp} {n:Nat} {xs ys xs' ys':List V} (a:aO (TEq H n) xs ys) (b:aO (TEq H n) xs' ys'):aO (TEq H n) (xs++xs') (ys++ys'):=by
  induction a with
  | nil=>exact b
  | cons h _ ih=>exact .cons h ih
theorem kQ {H:Hp} {n:Nat} {x:V} (h:sc0 x):TEq H n x x:=by
  cases n with
  | zero=>exact ⟨h,rfl⟩
  | succ n=>exact .inl ⟨h,rfl⟩
theorem AM {H:Hp} {n:Nat} {a b:aa} {h:Ev} (ha:H a=some (zF h)) (hb:H b=some (zF h)):TEq H (n + 1) (.ref a) (.ref b):=
  AL ha hb fun x hx=>by
    simp only [au,aR,or_false] at hx
    rcases hx with rfl | rfl | rfl | rfl <;> trivial
theorem J0 {H:Hp} {n:Nat} {v v':V} {e:Ev} (h:gH H v e) (h':gH H v' e):TEq H (n + 2) v v':=by
  obtain ⟨t,k,rfl,h1,h2⟩:=h
  obtain ⟨t',k',rfl,h1',h2'⟩:=h'
  exact .inr (.inr ⟨t,t',_,_,rfl,rfl,h1,h1',.cons (AM h2 h2') (.cons (kQ trivial) (.cons (kQ trivial) (.cons (kQ trivial) (.cons (kQ trivial) .nil))))⟩)
theorem EN {H:Hp} {n:Nat} {a b:aa} {ns:List Int} (ha:H a=some (.lst (ns.map V.int))) (hb:H b=some (.lst (ns.map V.int))):TEq H (n + 1) (.ref a) (.ref b):=
  .inr (.inl ⟨a,b,_,_,rfl,rfl,ha,hb,by
    clear ha hb
    induction ns with
    | nil=>exact .nil
    | cons x xs ih=>exact .cons (kQ trivial) ih⟩)
theorem EO {H:Hp} {n:Nat}:∀ {qs:List (Str×List Int)} {qa qa':List (Str×aa)} {ws ws':List V},fH H qa qs->fH H qa' qs->aO (yj H) ws qa->aO (yj H) ws' qa'->aO (TEq H (n + 2)) ws ws'
  | [],qa,qa',ws,ws',e,g,a,c=>by
    cases e
    cases g
    cases a
    cases c
    exact .nil
  | q :: qs,qa,qa',ws,ws',e,g,a,c=>by
    cases e with
    | cons e f =>
    cases g with
    | cons g h =>
    cases a with
    | cons a b =>
    cases c with
    | cons c d =>
    obtain ⟨t,rfl,h1⟩:=a
    obtain ⟨t',rfl,h1'⟩:=c
    obtain ⟨e1,e2⟩:=e
    obtain ⟨g1,g2⟩:=g
    rw [e1] at h1
    rw [g1] at h1'
    exact .cons (.inr (.inr ⟨t,t',_,_,rfl,rfl,h1,h1',.cons (kQ trivial) (.cons (EN e2 g2) .nil)⟩)) (EO f h b d)
theorem Hh {H:Hp} {n:Nat} {v v':V} {q:Rec} (h:RcIn H v q) (h':RcIn H v' q):TEq H (n + 4) v v':=by
  obtain ⟨rc,k,wl,od,ws1,ws2,vs,qa,rfl,h1,h2,h3,h4,h5,h6,h7,h8⟩:=h
  obtain ⟨rc',k',wl',od',ws1',ws2',vs',qa',rfl,h1',h2',h3',h4',h5',h6',h7',h8'⟩:=h'
  have w1:aO (TEq H (n + 2)) ws1 ws1':=uF (R:=wU H) (S:=wU H) (fun x y a hx hy=>by
    obtain ⟨t,rfl,z⟩:=hx
    obtain ⟨t',rfl,z'⟩:=hy
    exact AL z z' fun x hx=>by
      simp only [au,aR,or_false] at hx
      rcases hx with rfl | rfl <;> trivial) h4 h4'
  have w2:aO (TEq H (n + 2)) ws2 ws2':=EO h6 h6' h5 h5'
  refine .inr (.inr ⟨rc,rc',_,_,rfl,rfl,h1,h1',.cons (AM h2 h2') (.cons (kQ trivial) (.cons (kQ trivial) (.cons (kQ trivial) (.cons (kQ trivial) (.cons ?_ (.cons ?_ .nil))))))⟩)
  · exact .inr (.inl ⟨wl,wl',_,_,rfl,rfl,h3,h3',Hg w1 w2⟩)
  · exact .inr (.inl ⟨od,od',_,_,rfl,rfl,h7,h7',uF (R:=gH H) (S:=gH H) (fun x y a hx hy=>J0 hx hy) h8 h8'⟩)
theorem yt {H:Hp} {a b:aa} {xs ys:List V} {rs:List Rec} (ha:H a=some (.lst xs)) (hb:H b=some (.lst ys)) (px:aO (RcIn H) xs rs) (py:aO (RcIn H) ys rs):TEq H 5 (.ref a) (.ref b):=
  .inr (.inl ⟨a,b,xs,ys,rfl,rfl,ha,hb,uF (R:=RcIn H) (S:=RcIn H) (fun x y q hx hy=>Hh hx hy) px py⟩)
theorem rZ {α β:Type} {R:α->β->Prop}:∀ {xs:List α} {ys:List β} (n:Nat),aO R xs ys->aO R (xs.take n) (ys.take n)
  | _,_,0,_=>.nil
  | _,_,_ + 1,.nil=>.nil
  | _,_,n + 1,.cons a b=>.cons a (rZ n b)
end My
namespace My
open PySem L2
theorem ux.uniq {Ms:List MD} {r:RS} {most:Int} {i i':Nat} {e e':End} (a:ux Ms r most i e) (b:ux Ms r most i' e'):i=i'/\e=e':=by
  have ei:i=i':=by
    rcases Nat.lt_trichotomy i i' with z | z | z
    · have:=(b.1 i z).2
      rw [a.2.1] at this
      cases this
    · exact z
    · have:=(a.1 i' z).2
      rw [b.2.1] at this
      cases this
  subst ei
  have:=a.2.1.symm.trans b.2.1
  cases this
  exact ⟨rfl,rfl⟩
def Bk (Ms:List MD) (es:List Ev) (k:Int) (rs:List Rec) (e:End):Prop:=∃ i,ux Ms (zJ Ms es) k i e/\rs=(itR Ms (zJ Ms es) i).2
section
variable {Ms:List MD} {es:List Ev} {k k':Int} {rs rs':List Rec} {e e':End}
theorem Bk.uniq (a:Bk Ms es k rs e) (b:Bk Ms es k rs' e'):rs=rs'/\e=e':=by
  obtain ⟨i,h1,rfl⟩:=a
  obtain ⟨j,h2,rfl⟩:=b
  obtain ⟨rfl,rfl⟩:=h1.uniq h2
  exact ⟨rfl,rfl⟩
theorem Bk.few (mo:wX Ms) (k0:0<=k) (a:Bk Ms es k rs e):(rs.length:Int)<=k:=by
  obtain ⟨i,h1,rfl⟩:=a
  exact BG mo h1 k0
theorem Bk.pre (mo:wX Ms) (k0:0<=k) (l:k<=k') (a:Bk Ms es k rs e) (b:Bk Ms es k' rs' e'):rs=rs'.take rs.length:=by
  have f:=a.few mo k0
  obtain ⟨i,h1,rfl⟩:=a
  obtain ⟨j,h2,rfl⟩:=b
  rcases Nat.le_total i j with z | z
  · obtain ⟨t,et⟩:=AK Ms (zJ Ms es) i (j - i)
    rw [show i + (j - i)=j by omega] at et
    rw [et,List.take_left']
    rfl
  · rcases kj j i with y | y
    · have d1:=(h1.1 j y).2
      have d2:=h2.2.1
      rw [yq d1 (by omega)] at d2
      cases d2
    · have:i=j:=by omega
      subst this
      rw [dG]
theorem Bk.cut (mo:wX Ms) (k0:0<=k) (a:Bk Ms es k rs .cut):(rs.length:Int)=k:=by
  have f:=a.few mo k0
  obtain ⟨i,h1,rfl⟩:=a
  have d:=h1.2.1
  unfold jA at d
  split at d
  · cases d
  · split at d
    · cases d
    · split at d
      · omega
      · cases d
theorem Bk.more (l:k<=k') (n:e≠.cut) (a:Bk Ms es k rs e):Bk Ms es k' rs e:=by
  obtain ⟨i,h1,rfl⟩:=a
  refine ⟨i,⟨fun j hj=>⟨(h1.1 j hj).1,yq (h1.1 j hj).2 (by omega)⟩,?_,h1.2.2⟩,rfl⟩
  have d:=h1.2.1
  unfold jA at d |-
  split at d
  · exact d
  · split at d
    · rename_i c
      rw [if_pos c]
      exact d
    · split at d
      · cases d
        exact absurd rfl n
      · cases d
def Pre (Ms:List MD) (es:List Ev) (rs:List Rec):Prop:=∃ k rk ek,0<=k/\Bk Ms es k rk ek/\rs=rk.take rs.length/\rs.length<=rk.length
theorem Bk.isPre (k0:0<=k) (a:Bk Ms es k rs e):Pre Ms es rs:=⟨k,rs,e,k0,a,by rw [dG],aC _⟩
theorem Pre.same (mo:wX Ms) (k0:0<=k) (p:Pre Ms es rs) (a:Bk Ms es k rs' e) (l:rs'.length=rs.length):rs'=rs:=by
  obtain ⟨K,rk,ek,K0,b,h1,h2⟩:=p
  rcases Int.le_total K k with z | z
  · have q:=b.pre mo K0 z a
    rw [h1,q,HY,Nat.min_eq_left h2,<- l,dG]
  · have q:=a.pre mo k0 z b
    rw [h1,q,l]
end
def pJ:End->Ed
  | .empty=>[.inl "empty"]
  | .cut=>[.inl "cut"]
  | .stp (.fin h)=>[.inl "end",.inr h.key]
  | .stp (.flt f h)=>[.inl "fault",.inl (mQ f),.inr h.key]
theorem J1 {F:Hp} {v:V}:∀ {e:End},uo F v e->∃ t,v=.ref t/\iY F t (pJ e)
  | .empty,⟨t,e,h⟩=>⟨t,e,_,h,.cons rfl .nil⟩
  | .cut,⟨t,e,h⟩=>⟨t,e,_,h,.cons rfl .nil⟩
  | .stp (.fin _),⟨t,k,e,h1,h2⟩=>⟨t,e,_,h1,.cons rfl (.cons ⟨k,rfl,h2⟩ .nil)⟩
  | .stp (.flt _ _),⟨t,k,e,h1,h2⟩=>⟨t,e,_,h1,.cons rfl (.cons rfl (.cons ⟨k,rfl,h2⟩ .nil))⟩
theorem J2 {e:End} (h:pJ e=[.inl "cut"]):e=.cut:=by
  cases e with
  | empty =>
    injection h with h
    injection h with h
    exact absurd h (by decide +kernel)
  | cut=>rfl
  | stp s =>
    cases s with
    | fin x=>cases h
    | flt f x=>cases h
def Rcs (H:Hp) (l:aa) (rs:List Rec):Prop:=∃ xs,H l=some (.lst xs)/\aO (RcIn H) xs rs
theorem Rcs.same {H G:Hp} (s:bM H G) {l:aa} {rs:List Rec} (h:Rcs H l rs):Rcs G l rs:=by
  obtain ⟨xs,h1,h2⟩:=h
  exact ⟨xs,s _ _ h1,Paired.mono (fun _ _ z=>z.same s) h2⟩
def Hi:R2:=fun x y H Q=>(∃ n,n<=20/\TEq H n x y/\Q (.bl true) H)\/∃ n p q b,n<=20/\x=.ref p/\y=.ref q/\BEq H n x y b/\Q (.bl b) H
theorem tw {H:Hp} {a b:aa} {rs rs':List Rec} {Q:VK} (h:Rcs H a rs) (h':Rcs H b rs') (e:rs.length=rs'.length->rs=rs') (q:Q (.bl (decide (rs.length=rs'.length))) H):Hi (.ref a) (.ref b) H Q:=by
  obtain ⟨xs,h1,h2⟩:=h
  obtain ⟨ys,h3,h4⟩:=h'
  by_cases c:rs.length=rs'.length
  · rw [decide_eq_true c] at q
    rw [<- e c] at h4
    exact .inl ⟨5,by decide,yt h1 h3 h2 h4,q⟩
  · rw [decide_eq_false c] at q
    exact .inr ⟨1,a,b,false,by decide,rfl,rfl,.inr ⟨a,b,xs,ys,rfl,rfl,.inl ⟨h1,h3,by rw [aT h2,aT h4]; exact c,rfl⟩⟩,q⟩
end My
namespace My
open PySem L2
section
variable {X:Cx}
theorem Hj:OpR X (cU .IsNot) (fun x y H Q=>x=.bl true/\y=.bl true/\Q (.bl false) H):=by
  intro pins s σ H x y v u Q I rx ry h
  obtain ⟨rfl,rfl,q⟩:=h
  cases rx
  cases ry
  exact wpAny_isNot_self rfl (eg I q rfl)
theorem zO (hu:X.A.units + 50 < dM):OpR X (cU .Eq) Hi:=OpR.or (IJ hu) (IQ hu)
end
structure Rn (CM:aa) (Ms:List MD) (es:List Ev) (H:Hp) (m sgl:aa):Prop where
  mo:uq CM Ms H m
  lm:Ms.length < 1000
  sg:∃ svs,H sgl=some (.lst svs)/\aO (wV H) svs es
  le:es.length < 64
  ev:∀ e∈es,zE Ms.length e
theorem Rn.same {CM:aa} {Ms:List MD} {es:List Ev} {H G:Hp} {m sgl:aa} (s:bM H G) (h:Rn CM Ms es H m sgl):Rn CM Ms es G m sgl:=by
  obtain ⟨svs,h1,h2⟩:=h.sg
  exact ⟨h.mo.same s,h.lm,⟨svs,s _ _ h1,Paired.mono (fun _ _ z=>z.same s) h2⟩,h.le,h.ev⟩
theorem BH {CM CS CB:aa} {Ms:List MD} {es:List Ev} {H:Hp} {m sgl:aa} {k:Int} {Q:VK} {E:XK} (h:Rn CM Ms es H m sgl) (hk:k<=1000) (q:∀ (G:Hp) (b dx rl sl et:aa) (rs:List Rec) (e:End),bM H G->Bk Ms es k rs e->G b=some (.ins CB dx (Bv (.ref rl) (.ref et) (.ref sl)))->Rcs G rl rs->iY G et (pJ e)->Q (.ref b) G):oz CM CS CB [.ref m,.ref sgl,.int k] H Q E:=by
  obtain ⟨svs,h1,h2⟩:=h.sg
  refine ⟨Ms,m,sgl,svs,es,k,rfl,h.mo,h.lm,h1,h2,h.le,h.ev,hk,fun G b i e s st bk=>?_⟩
  obtain ⟨dx,rl,sl,en,rvs,ss,g1,g2,g3,g4,_⟩:=bk.ex
  obtain ⟨et,rfl,g5⟩:=J1 g4
  exact q G b dx rl sl et _ e s ⟨i,st,rfl⟩ g1 ⟨rvs,g2,g3⟩ g5
def uW:Ed:=[.inl "cut"]
section
variable {P:aM} {w:bH} {K:af} {mg:Str->Option ae} {base:cB} {f fPl fIs fDu CM CS CB:aa} {fd fdPl fdIs fdDu:bY}
seal L2.PS L2.PSs L2.PE L2.PA L2.PT L2.PW L2.PI L2.PG L2.PGs L2.PC
def J3 (CM:aa):Sp:=fun vs H Q _=>∃ (Ms:List MD) (es:List Ev) (m sgl rl et:aa) (rs:List Rec) (E:Ed),vs=[.ref m,.ref sgl,.ref rl,.ref et]/\Rn CM Ms es H m sgl/\Rcs H rl rs/\Pre Ms es rs/\rs.length<=900/\iY H et E /\
  ∀ (G:Hp) (r:List Rec) (e:End),bM H G->Bk Ms es (if E=uW then (rs.length:Int) else rs.length + 1) r e->Q (.bl (decide (r.length=rs.length) && decide (pJ e=E))) G
abbrev nIs:List Str:=["model","signs","records","ending","most","book"]
abbrev pIs:List Str:=["model","signs","records","ending"]
theorem J4:bV nIs pIs (aQ lE):=⟨rfl,rfl,rfl,by decide +kernel,rfl,by decide +kernel,by decide +kernel⟩
theorem ok_is (D:Df K mg "is_book" lE pIs f fd) (DPl:Df K mg "plain" oJ ["model","signs","most"] fPl fdPl) (GPl:bT P w K mg base CX0 40 fPl fdPl ["model","signs","most"] (oz CM CS CB)) (TB:BkT K mg CB) (B:Bl mg):bT P w K mg base CX0 41 f fd pIs (J3 CM):=by
  refine D.F.ok J4 (fun vs H Q E h=>?_) (fun cdv A outer s H vs Q E hr h=>?_)
  · obtain ⟨Ms,es,m,sgl,rl,et,rs,Ed,rfl,_⟩:=h
    rfl
  obtain ⟨Ms,es,m,sgl,rl,et,rs,Ed,rfl,R,hrl,pre,l9,hE,k⟩:=h
  have h50:=Da hr
  have r40:dP 40 _:=hr
  have mo:=R.mo.ok
  refine ⟨_,ak (bz (i:=4) J4.nd rfl (Or.inl rfl) (pZ (cu (xf h50) (pv 3) (cR (dB bU ao)) (cE _)) (dA (eR K (by rfl)) (by rfl) B.len cI (bN (pv 2) ao)) (cP fJ (dA (eR K (by rfl)) (by rfl) B.len cI (bN (pv 2) ao)) ay)))
    (ak (bz (i:=5) J4.nd rfl (Or.inl rfl) (aS GPl r40 (by rfl) DPl.m DPl.F.kp DPl.b .nil cm (bN (pv 0) (bN (pv 1) (bN (pv 4) ao)))))
    (aF (bX (yI (kn (zO h50) (fu K (by rfl) (pv 5) (by rfl)) (pv 2) (cE _)) (B8 (kn (xf h50) (fu K (by rfl) (pv 5) (by rfl)) (pv 3) (cE _))))))),?_⟩
  obtain ⟨xs,hx,px⟩:=id hrl
  have lx:=aT px
  refine bS (cJ ?_)
  refine ⟨_,rfl,pE,fun t ht=>?_⟩
  have st_:=aD ht (.tup [.str "cut"])
  refine ⟨et,t,Ed,uW,rfl,rfl,hE.same st_,⟨_,ah,.cons rfl .nil⟩,_,rfl,?_⟩
  by_cases c:Ed=uW
  · rw [decide_eq_true c]
    refine gF ?_
    refine ⟨_,rfl,rl,xs,rfl,.inl (SqL.of (st_ _ _ hx)),?_⟩
    refine aZ ?_
    dsimp only
    refine bS (cJ ?_)
    refine ⟨_,rfl,_,rfl,_,rfl,?_⟩
    refine jw ?_
    show oz CM CS CB [V.ref m,V.ref sgl,V.int (xs.length:Int)] _ _ _
    refine BH (R.same st_) (by omega) fun G b dx rl' sl et' r e sG bk g1 g2 g3=>?_
    refine aZ ?_
    dsimp only
    have sG':=st_.trans sG
    rw [lx] at bk
    refine gK ⟨_,rfl,b,CB,dx,_,_,rfl,g1,TB.cl,TB.nR,uV _ _ _,_,rfl,?_⟩
    show Hi (V.ref rl') (V.ref rl) G _
    refine tw g2 (hrl.same sG') (fun l=>pre.same mo (by omega) bk l) ?_
    refine ⟨_,rfl,?_⟩
    have kk:=k G r e sG' (by rw [if_pos c]; exact bk)
    cases hd:decide (r.length=rs.length) with
    | false =>
      rw [hd,oZ] at kk
      exact fV kk
    | true =>
      rw [hd,qp] at kk
      exact gF ⟨_,rfl,b,CB,dx,_,_,rfl,g1,TB.cl,TB.nE,yk _ _ _,_,rfl,et',et,_,_,rfl,rfl,g3,hE.same sG',kk⟩
  · rw [decide_eq_false c]
    refine fV ?_
    refine ⟨_,rfl,rl,xs,rfl,.inl (SqL.of (st_ _ _ hx)),_,_,rfl,rfl,?_⟩
    refine aZ ?_
    dsimp only
    refine bS (cJ ?_)
    refine ⟨_,rfl,_,rfl,_,rfl,?_⟩
    refine jw ?_
    show oz CM CS CB [V.ref m,V.ref sgl,V.int ((xs.length:Int) + 1)] _ _ _
    refine BH (R.same st_) (by omega) fun G b dx rl' sl et' r e sG bk g1 g2 g3=>?_
    refine aZ ?_
    dsimp only
    have sG':=st_.trans sG
    rw [lx] at bk
    refine gK ⟨_,rfl,b,CB,dx,_,_,rfl,g1,TB.cl,TB.nR,uV _ _ _,_,rfl,?_⟩
    show Hi (V.ref rl') (V.ref rl) G _
    refine tw g2 (hrl.same sG') (fun l=>pre.same mo (by omega) bk l) ?_
    refine ⟨_,rfl,?_⟩
    have kk:=k G r e sG' (by rw [if_neg c]; exact bk)
    cases hd:decide (r.length=rs.length) with
    | false =>
      rw [hd,oZ] at kk
      exact fV kk
    | true =>
      rw [hd,qp] at kk
      exact gF ⟨_,rfl,b,CB,dx,_,_,rfl,g1,TB.cl,TB.nE,yk _ _ _,_,rfl,et',et,_,_,rfl,rfl,g3,hE.same sG',kk⟩
end
end My
namespace My
open PySem L2
theorem J6 {K:af}:eS K (.type "bool") (.type "bool")=some true:=by rfl
def Ka (Ms:List MD) (es:List Ev) (rs:List Rec) (E:Ed) (v:Bool):Prop:=∃ r0 e0,Bk Ms es rs.length r0 e0 /\
  ((r0.length=rs.length/\pJ e0=E/\v=true)\/(¬ (r0.length=rs.length/\pJ e0=E)/\∃ r1 e1,Bk Ms es (rs.length + 1) r1 e1/\v=(!decide (E=uW) && (decide (r1.length=rs.length) && decide (pJ e1=E)))))
theorem Ka.is {Ms:List MD} {es:List Ev} {rs r:List Rec} {e:End} {E:Ed} {v:Bool} (h:Ka Ms es rs E v) (b:Bk Ms es (if E=uW then (rs.length:Int) else rs.length + 1) r e):(decide (r.length=rs.length) && decide (pJ e=E))=v:=by
  obtain ⟨r0,e0,b0,h⟩:=h
  by_cases c:E=uW
  · rw [if_pos c] at b
    obtain ⟨rfl,rfl⟩:=b0.uniq b
    rcases h with ⟨h1,h2,rfl⟩ | ⟨h1,r1,e1,_,rfl⟩
    · rw [decide_eq_true h1,decide_eq_true h2]
      rfl
    · rw [decide_eq_true c]
      rw [jz,oZ,zi]
      by_cases x:r0.length=rs.length
      · exact .inr (decide_eq_false fun z=>h1 ⟨x,z⟩)
      · exact .inl (decide_eq_false x)
  · rw [if_neg c] at b
    rcases h with ⟨h1,h2,rfl⟩ | ⟨h1,r1,e1,b1,rfl⟩
    · have nc:e0≠.cut:=fun z=>c (by rw [<- h2,z]; rfl)
      obtain ⟨rfl,rfl⟩:=b.uniq (b0.more (by omega) nc)
      rw [decide_eq_true h1,decide_eq_true h2]
      rfl
    · obtain ⟨rfl,rfl⟩:=b.uniq b1
      rw [decide_eq_false c]
      rfl
theorem and_i {c d:Bool} {T A B:Prop} (t:(if d=true then A else B)->T) (h1:c=true->d=true->A) (h2:¬ (c=true/\d=true)->B):if c=true then T else (if false=true then A else B):=by
  cases c
  · exact h2 (by simp)
  · cases d
    · exact t (h2 (by simp))
    · exact t (h1 rfl rfl)
section
variable {P:aM} {w:bH} {K:af} {mg:Str->Option ae} {base:cB} {f fPl fIs fDu CM CS CB:aa} {fd fdPl fdIs fdDu:bY}
seal L2.PS L2.PSs L2.PE L2.PA L2.PT L2.PW L2.PI L2.PG L2.PGs L2.PC
def Kb (CM:aa):Sp:=fun vs H Q _=>∃ (Ms:List MD) (es:List Ev) (m sgl rl et:aa) (rs:List Rec) (E:Ed),vs=[.ref m,.ref sgl,.ref rl,.ref et]/\Rn CM Ms es H m sgl/\Rcs H rl rs/\Pre Ms es rs/\rs.length<=900/\iY H et E /\
  ∀ (G:Hp) (v:Bool),bM H G->Ka Ms es rs E v->Q (.bl v) G
abbrev nDu:List Str:=["_law_model","_law_signs","_law_records","_law_ending","_law_book"]
abbrev pDu:List Str:=["_law_model","_law_signs","_law_records","_law_ending"]
theorem Kc:bV nDu pDu (aQ lF):=⟨rfl,rfl,rfl,by decide +kernel,rfl,by decide +kernel,by decide +kernel⟩
theorem ok_du (D:Df K mg "_law_due" lF pDu f fd) (DPl:Df K mg "plain" oJ ["model","signs","most"] fPl fdPl) (GPl:bT P w K mg base CX0 40 fPl fdPl ["model","signs","most"] (oz CM CS CB)) (TB:BkT K mg CB) (B:Bl mg):bT P w K mg base CX0 41 f fd pDu (Kb CM):=by
  refine D.F.ok Kc (fun vs H Q E h=>?_) (fun cdv A outer s H vs Q E hr h=>?_)
  · obtain ⟨Ms,es,m,sgl,rl,et,rs,Ed,rfl,_⟩:=h
    rfl
  obtain ⟨Ms,es,m,sgl,rl,et,rs,Ed,rfl,R,hrl,pre,l9,hE,k⟩:=h
  have h50:=Da hr
  have r40:dP 40 _:=hr
  have mo:=R.mo.ok
  refine ⟨_,ak (bz (i:=4) Kc.nd rfl (Or.inl rfl) (aS GPl r40 (by rfl) DPl.m DPl.F.kp DPl.b .nil cm (bN (pv 0) (bN (pv 1) (kP (dA (eR K (by rfl)) (by rfl) B.len cI (bN (pv 2) ao)) ao)))))
    (ak (cZ ((B6 (cu (zO h50) (fu K (by rfl) (pv 4) (by rfl)) (pv 2) (cE _)) (zS (cu (xf h50) (fu K (by rfl) (pv 4) (by rfl)) (pv 3) (cE _)))).pt) (aF (bX jN)) cy)
    (ak (bz (i:=4) Kc.nd rfl (Or.inl rfl) (aS GPl r40 (by rfl) DPl.m DPl.F.kp DPl.b .nil cm (bN (pv 0) (bN (pv 1) (jJ (cP fJ (dA (eR K (by rfl)) (by rfl) B.len cI (bN (pv 2) ao)) ay) ao)))))
    (aF (bX (yI (kn (JZ h50) (pv 3) (cR (dB bU ao)) (cE _)) (yI (kn (zO h50) (fu K (by rfl) (pv 4) (by rfl)) (pv 2) (cE _)) (B8 (kn (xf h50) (fu K (by rfl) (pv 4) (by rfl)) (pv 3) (cE _))))))))),?_⟩
  obtain ⟨xs,hx,px⟩:=id hrl
  have lx:=aT px
  refine bS (cJ ?_)
  refine ⟨_,rfl,_,rfl,_,rfl,rl,xs,rfl,.inl (SqL.of hx),?_⟩
  refine jw ?_
  show oz CM CS CB [V.ref m,V.ref sgl,V.int (xs.length:Int)] _ _ _
  refine BH R (by omega) fun G b dx rl' sl et' r e sG bk g1 g2 g3=>?_
  refine aZ ?_
  dsimp only
  rw [lx] at bk
  refine bS ?_
  refine ⟨_,rfl,b,CB,dx,_,_,rfl,g1,TB.cl,TB.nR,uV _ _ _,_,rfl,?_⟩
  refine tw g2 (hrl.same sG) (fun l=>pre.same mo (by omega) bk l) ?_
  refine ⟨_,rfl,?_⟩
  refine and_i (d:=decide (pJ e=Ed)) (fun z=>⟨_,rfl,b,CB,dx,_,_,rfl,g1,TB.cl,TB.nE,yk _ _ _,_,rfl,et',et,_,_,rfl,rfl,g3,hE.same sG,_,rfl,z⟩) (fun y1 y2=>?_) (fun nn=>?_)
  · refine gK ?_
    exact k G true sG ⟨r,e,bk,.inl ⟨of_decide_eq_true y1,of_decide_eq_true y2,rfl⟩⟩
  have nn':¬ (r.length=rs.length/\pJ e=Ed):=fun z=>nn ⟨decide_eq_true z.1,decide_eq_true z.2⟩
  dsimp only [m8]
  refine bS (cJ ?_)
  refine ⟨_,rfl,_,rfl,_,rfl,rl,xs,rfl,.inl (SqL.of (sG _ _ hx)),_,_,rfl,rfl,?_⟩
  refine jw ?_
  show oz CM CS CB [V.ref m,V.ref sgl,V.int ((xs.length:Int) + 1)] _ _ _
  refine BH (R.same sG) (by omega) fun G2 b2 dx2 rl2 sl2 et2 r2 e2 sG2 bk2 j1 j2 j3=>?_
  refine aZ ?_
  dsimp only
  rw [lx] at bk2
  refine gK ⟨_,rfl,pE,fun t ht=>?_⟩
  have st:=aD ht (.tup [.str "cut"])
  have s2:=(sG.trans sG2).trans st
  have kk:=k _ _ s2 ⟨r,e,bk,.inr ⟨nn',r2,e2,bk2,rfl⟩⟩
  refine ⟨et,t,Ed,uW,rfl,rfl,hE.same s2,⟨_,ah,.cons rfl .nil⟩,_,rfl,?_⟩
  by_cases c:Ed=uW
  · rw [decide_eq_true c] at kk |-
    exact fV kk
  rw [decide_eq_false c] at kk |-
  refine gF ⟨_,rfl,b2,CB,dx2,_,_,rfl,st _ _ j1,TB.cl,TB.nR,uV _ _ _,_,rfl,?_⟩
  refine tw (j2.same st) (hrl.same s2) (fun l=>pre.same mo (by omega) bk2 l) ?_
  refine ⟨_,rfl,?_⟩
  cases hd:decide (r2.length=rs.length) with
  | false =>
    rw [hd] at kk
    exact fV kk
  | true =>
    rw [hd] at kk
    exact gF ⟨_,rfl,b2,CB,dx2,_,_,rfl,st _ _ j1,TB.cl,TB.nE,yk _ _ _,_,rfl,et2,et,_,_,rfl,rfl,j3.same st,hE.same s2,kk⟩
def spGo (CM:aa):Sp:=fun vs H Q _=>∃ (Ms:List MD) (es:List Ev) (m sgl rl et:aa) (rs:List Rec) (E:Ed),vs=[.ref m,.ref sgl,.ref rl,.ref et]/\Rn CM Ms es H m sgl/\Rcs H rl rs/\Pre Ms es rs/\rs.length<=900/\iY H et E /\
  ∀ G:Hp,bM H G->Q (.bl true) G
abbrev nGo:List Str:=["_law_model","_law_signs","_law_records","_law_ending","_law_kept_records","_law_found"]
abbrev pGo:List Str:=["_law_model","_law_signs","_law_records","_law_ending"]
theorem Ke:bV nGo pGo (aQ md):=⟨rfl,rfl,rfl,by decide +kernel,rfl,by decide +kernel,by decide +kernel⟩
theorem ok_go (D:Df K mg "_law_good" md pGo f fd) (DIs:Df K mg "is_book" lE pIs fIs fdIs) (GIs:bT P w K mg base CX0 41 fIs fdIs pIs (J3 CM)) (DDu:Df K mg "_law_due" lF pDu fDu fdDu) (GDu:bT P w K mg base CX0 41 fDu fdDu pDu (Kb CM)) (B:Bl mg):bT P w K mg base CX0 42 f fd pGo (spGo CM):=by
  refine D.F.ok Ke (fun vs H Q E h=>?_) (fun cdv A outer s H vs Q E hr h=>?_)
  · obtain ⟨Ms,es,m,sgl,rl,et,rs,Ed,rfl,_⟩:=h
    rfl
  obtain ⟨Ms,es,m,sgl,rl,et,rs,Ed,rfl,R,hrl,pre,l9,hE,k⟩:=h
  have h50:=Da hr
  have r41:dP 41 _:=hr
  have mo:=R.mo.ok
  refine ⟨_,ak (bz (i:=4) Ke.nd rfl (Or.inl rfl) (iC (Et K (by rfl)) (by rfl) B.list boot_list (bN (pv 2) ao)))
    (ak (bz (i:=5) Ke.nd rfl (Or.inl rfl) (aS GIs r41 (by rfl) DIs.m DIs.F.kp DIs.b .nil cm (bN (pv 0) (bN (pv 1) (bN (pv 2) (bN (pv 3) ao))))))
    (ak (cZ ((B7 (qN (lO (dA ju (by rfl) B.isi oa (bN (pv 5) (bN (pY (v:=.ty "bool") (by rfl) B.bool boot_bool rfl) ao))))) (yH (cu (IK h50) (pv 2) (pv 4) (cE _)))).pt) (aF (bX jN)) cy)
    (aF (bX (kn ff (pv 5) (aS GDu r41 (by rfl) DDu.m DDu.F.kp DDu.b .nil cm (bN (pv 0) (bN (pv 1) (bN (pv 2) (bN (pv 3) ao))))) (cE _)))))),?_⟩
  obtain ⟨xs,hx,px⟩:=id hrl
  refine bS (cJ ?_)
  refine ⟨_,rfl,rl,xs,rfl,.inl (SqL.of hx),fun kl hkl=>?_⟩
  have s0:=aD hkl (.lst xs)
  refine aZ ?_
  dsimp only
  refine bS (cJ ?_)
  refine ⟨_,rfl,_,rfl,_,rfl,_,rfl,?_⟩
  refine jw ?_
  refine ⟨Ms,es,m,sgl,rl,et,rs,Ed,rfl,R.same s0,hrl.same s0,pre,l9,hE.same s0,fun G r e sG bk=>?_⟩
  have s1:=s0.trans sG
  refine aZ ?_
  dsimp only
  refine bS ?_
  refine ⟨_,rfl,_,_,_,true,rfl,.bl _,J6,true,rfl,?_⟩
  dsimp only [jz]
  refine fV ?_
  refine ⟨_,rfl,_,rfl,5,by decide,yt (s1 _ _ hx) (sG _ _ ah) (Paired.mono (fun _ _ z=>z.same s1) px) (Paired.mono (fun _ _ z=>z.same s1) px),_,rfl,?_⟩
  refine fV ?_
  dsimp only [m8]
  refine gK ⟨_,rfl,_,rfl,_,rfl,_,rfl,_,rfl,?_⟩
  refine jw ?_
  refine ⟨Ms,es,m,sgl,rl,et,rs,Ed,rfl,R.same s1,hrl.same s1,pre,l9,hE.same s1,fun G2 v s2 du=>?_⟩
  rw [du.is bk]
  refine ⟨rfl,?_⟩
  rw [decide_eq_true rfl]
  exact k G2 (s1.trans s2)
end
end My
namespace My
open PySem L2
def Eds (G:Hp) (xs:List V):Prop:=∀ x∈xs,∃ t E,x=.ref t/\iY G t E
def zP (G G':Hp):Prop:=∀ b xs,G b=some (.tup xs)->G' b=some (.tup xs)
theorem AN {G G':Hp} (s:zP G G') {p:aa} {E:Ed} (h:iY G p E):iY G' p E:=by
  obtain ⟨xs,h1,h2⟩:=h
  refine ⟨xs,s _ _ h1,Paired.mono (fun v q z=>?_) h2⟩
  cases q with
  | inl x=>exact z
  | inr n =>
    obtain ⟨a,e,h⟩:=z
    exact ⟨a,e,s _ _ h⟩
theorem Eds.tups {G G':Hp} (s:zP G G') {xs:List V} (h:Eds G xs):Eds G' xs:=fun x hx=>by
  obtain ⟨t,E,e,z⟩:=h x hx
  exact ⟨t,E,e,AN s z⟩
theorem zP.of {G G':Hp} (s:bM G G'):zP G G':=fun b xs e=>s b _ e
theorem zP.upd {G:Hp} {l:aa} {xs ys:List V} (h:G l=some (.lst xs)):zP G (upd G l (.lst ys)):=fun b zs e=>aX e (fun z=>by rw [z,h] at e; cases e)
structure Fs (H G:Hp) (lf:aa) (n:Nat):Prop where
  no:H lf=none
  same:bM H G
  ex:∃ xs,G lf=some (.lst xs)/\Eds G xs/\xs.length=n
theorem Fs.more {H G G':Hp} {lf:aa} {n:Nat} (h:Fs H G lf n) (s:bM G G'):Fs H G' lf n:=by
  obtain ⟨xs,h1,h2,h3⟩:=h.ex
  exact ⟨h.no,h.same.trans s,xs,s _ _ h1,h2.tups (.of s),h3⟩
theorem Fs.app {H G:Hp} {lf t:aa} {n:Nat} {E:Ed} (h:Fs H G lf n) (hn:n < 100) (z:iY G t E) {Q:VK} (q:∀ G',Fs H G' lf (n + 1)->But lf G G'->Q .non G'):qe (.ref lf) [.ref t] G Q:=by
  obtain ⟨xs,h1,h2,h3⟩:=h.ex
  have big:=eU
  have ts:zP G (upd G lf (.lst (xs++[.ref t]))):=.upd h1
  refine ⟨lf,xs,.ref t,rfl,rfl,h1,by omega,q _ ⟨h.no,fun b o e=>aX (h.same _ _ e) (aG e h.no),_,ah,fun x hx=>?_,by rw [aE,h3]; rfl⟩ (But.upd _ _ _)⟩
  rcases cq.mp hx with y | y
  · exact h2.tups ts x y
  · rw [aH.mp y]
    exact ⟨t,E,rfl,AN ts z⟩
structure Kd (H:Hp) (ys:List V) (ka:aa) (E0:Ed) (a b c d:Int):Prop where
  py:aO (rG H) ys E0
  l1:0 < ys.length
  l2:ys.length<=2
  hk:H ka=some (.tup [.int a,.int b,.int c,.int d])
theorem ER {x:V}:∀ {ys:List V},0 < ys.length->ys.length<=2->atI (ys++[x]) (-1)=some x
  | [],h,_=>by cases h
  | [_],_,_=>rfl
  | [_,_],_,_=>rfl
  | _ :: _ :: _ :: _,_,h=>absurd h (by simp)
theorem BI {x:V}:∀ {ys:List V},0 < ys.length->ys.length<=2->j8 (ys++[x]) none (some (-1))=ys/\¬ (HT.sIx (ys++[x]).length 0 none=0/\HT.sIx (ys++[x]).length (ys++[x]).length (some (-1))=(ys++[x]).length)
  | [],h,_=>by cases h
  | [_],_,_=>⟨rfl,fun z=>absurd z.2 (by show ¬ (1=2); decide)⟩
  | [_,_],_,_=>⟨rfl,fun z=>absurd z.2 (by show ¬ (2=3); decide)⟩
  | _ :: _ :: _ :: _,_,h=>absurd h (by simp)
theorem ed_kd {H:Hp} {t:aa} {e:End} (h:iY H t (pJ e)):∃ xs,H t=some (.tup xs)/\(xs.length=1\/∃ ys ka E0 a b c d,xs=ys++[.ref ka]/\Kd H ys ka E0 a b c d):=by
  obtain ⟨xs,h1,h2⟩:=h
  refine ⟨xs,h1,?_⟩
  have l:=aT h2
  cases e with
  | empty=>exact .inl l
  | cut=>exact .inl l
  | stp s =>
    cases s with
    | fin x =>
      cases h2 with
      | cons p1 p2 =>
        cases p2 with
        | cons p3 p4 =>
          cases p4
          obtain ⟨ka,rfl,hk⟩:=p3
          exact .inr ⟨_ :: [],ka,[.inl "end"],_,_,_,_,rfl,.cons p1 .nil,by simp,by simp,hk⟩
    | flt f x =>
      cases h2 with
      | cons p1 p2 =>
        cases p2 with
        | cons p3 p4 =>
          cases p4 with
          | cons p5 p6 =>
            cases p6
            obtain ⟨ka,rfl,hk⟩:=p5
            exact .inr ⟨_ :: _ :: [],ka,[.inl "fault",.inl (mQ f)],_,_,_,_,rfl,.cons p1 (.cons p3 .nil),by simp,by simp,hk⟩
section
variable {P:aM} {w:bH} {K:af} {mg:Str->Option ae} {base:cB} {f:aa} {fd:bY}
seal L2.PS L2.PSs L2.PE L2.PA L2.PT L2.PW L2.PI L2.PG L2.PGs L2.PC
def spEn:Sp:=fun vs H Q _=>∃ (et la:aa) (e:End) (a b c d:Int),vs=[.ref et,.ref la]/\iY H et (pJ e)/\H la=some (.tup [.int a,.int b,.int c,.int d]) /\
  ∀ (G:Hp) (l:aa) (xs:List V),bM H G->G l=some (.lst xs)->Eds G xs->xs.length<=20->Q (.ref l) G
abbrev nEn:List Str:=["_law_ending","_law_last","_law_found","_law_key","_law_word"]
abbrev pEn:List Str:=["_law_ending","_law_last"]
theorem Hk:bV nEn pEn (aQ jj):=⟨rfl,rfl,rfl,by decide +kernel,rfl,by decide +kernel,by decide +kernel⟩
theorem ok_en (D:Df K mg "_law_endings" jj pEn f fd) (B:Bl mg):bT P w K mg base CX0 1 f fd pEn spEn:=by
  refine D.F.ok Hk (fun vs H Q E h=>?_) (fun cdv A outer s H vs Q E hr h=>?_)
  · obtain ⟨et,la,e,a,b,c,d,rfl,_⟩:=h
    rfl
  obtain ⟨et,la,e,a,b,c,d,rfl,hE,hla,k⟩:=h
  refine ⟨_,ak (bz (i:=2) Hk.nd rfl (Or.inl rfl) (eT (ic (cR (dB bU ao)) (ic (cR (dB bU ao)) (ic (cR (dB bU (bN (pv 1) ao))) (ic (cR (dB bU (dB bU (bN (pv 1) ao)))) (ic (cR (dB bU (jJ (cP oH (cR (jJ (cP fJ (bZ cF (pv 1) ay (fun _ _=>rfl)) ay) ao)) (ip tR (pv 1) (iN ay) jG)) ao))) ao)))))))
    (ak (cZ (cu tJ (dA (eR K (by rfl)) (by rfl) B.len cI (bN (pv 0) ao)) ay (cE _)) (ak (bz (i:=3) Hk.nd rfl (Or.inl rfl) (bZ cF (pv 0) (tH pj ay) (fun _ _=>rfl)))
    (ak (dW (jr bK cg cj e7 (pv 2) (jJ (cP oH (ip tR (pv 0) jG (iN (tH pj ay))) (cR (jJ (cP oH (cR (jJ (cP fJ (bZ cF (pv 3) ay (fun _ _=>rfl)) ay) ao)) (ip tR (pv 3) (iN ay) jG)) ao))) ao)))
    (ak (dW (jr bK cg cj e7 (pv 2) (jJ (cP oH (ip tR (pv 0) jG (iN (tH pj ay))) (cR (jJ (cP oH (ip tR (pv 3) jG (iN ay)) (cR (jJ (cP fJ (bZ cF (pv 3) ay (fun _ _=>rfl)) ay) ao))) ao))) ao)))
    (aF (iy cQ rfl (gW (eT (dB bU (dB bU (dB bU (dB bU (dB bU (dB bU ao)))))))) (dy (i:=4) Hk.nd rfl (Or.inl rfl)) (aF (dW (jr bK cg cj e7 (pv 2) (ic (cR (dB bU (bN (pv 4) (bN (pv 3) ao)))) ao) (hs:=uz))))))))) cy)
    (aF (bX (pv 2)))),?_⟩
  have big:=eU
  refine bS (cJ ?_)
  refine ⟨pE,fun t1 g1=>⟨pE,fun t2 g2=>⟨_,rfl,lt2,fun t3 g3=>⟨_,rfl,by show 3<=aA; omega,fun t4 g4=>?_⟩⟩⟩⟩
  have s1:=aD g1 (.tup [.str "cut"])
  have s2:=aD g2 (.tup [.str "empty"])
  have s3:=aD g3 (.tup [.str "end",.ref la])
  have s4:=aD g4 (.tup [.str "fault",.str "great",.ref la])
  have S4:=((s1.trans s2).trans s3).trans s4
  refine ⟨_,rfl,la,_,0,.int a,rfl,rfl,SqT.of (S4 _ _ hla),rfl,_,_,rfl,rfl,pE,fun t5 g5=>?_⟩
  have s5:=aD g5 (.tup [.int (a + 1)])
  refine ⟨_,rfl,1,rfl,la,_,rfl,SqT.of (s5 _ _ (S4 _ _ hla)),(by intro z; cases z.1),fun t6 g6=>?_⟩
  have s6:=aD g6 (.tup [.int b,.int c,.int d])
  refine ⟨t5,t6,[.int (a + 1)],[.int b,.int c,.int d],rfl,rfl,SqT.of (s6 _ _ ah),SqT.of ah,(by intro z; cases z),(by show 4<=aA; omega),(fun z=>by cases z),fun _ t7 g7=>⟨lt2,fun t8 g8=>⟨lt5,fun lf g9=>?_⟩⟩⟩
  have s7:=aD g7 (.tup ([.int (a + 1)]++[.int b,.int c,.int d]))
  have s8:=aD g8 (.tup [.str "end",.ref t7])
  have s9:=aD g9 (.lst [.ref t1,.ref t2,.ref t3,.ref t4,.ref t8])
  have e1:iY _ t1 [.inl "cut"]:=iY.same (((((((s2.trans s3).trans s4).trans s5).trans s6).trans s7).trans s8).trans s9) ⟨_,ah,.cons rfl .nil⟩
  have e2:iY _ t2 [.inl "empty"]:=iY.same ((((((s3.trans s4).trans s5).trans s6).trans s7).trans s8).trans s9) ⟨_,ah,.cons rfl .nil⟩
  have e3:iY _ t3 [.inl "end",.inr [a,b,c,d]]:=iY.same (((((s4.trans s5).trans s6).trans s7).trans s8).trans s9) ⟨_,ah,.cons rfl (.cons ⟨la,rfl,((s1.trans s2).trans s3) _ _ hla⟩ .nil)⟩
  have e4:iY _ t4 [.inl "fault",.inl "great",.inr [a,b,c,d]]:=iY.same ((((s5.trans s6).trans s7).trans s8).trans s9) ⟨_,ah,.cons rfl (.cons rfl (.cons ⟨la,rfl,S4 _ _ hla⟩ .nil))⟩
  have e8:iY _ t8 [.inl "end",.inr [a + 1,b,c,d]]:=iY.same s9 ⟨_,ah,.cons rfl (.cons ⟨t7,rfl,s8 _ _ ah⟩ .nil)⟩
  have S9:=((((S4.trans s5).trans s6).trans s7).trans s8).trans s9
  have nlf:H lf=none:=by
    cases z:H lf with
    | none=>rfl
    | some o =>
      have:=((((S4.trans s5).trans s6).trans s7).trans s8) _ _ z
      rw [g9] at this
      cases this
  have F0:Fs H _ lf 5:=⟨nlf,S9,_,ah,fun x hx=>by
    simp only [au,aR,or_false] at hx
    rcases hx with rfl | rfl | rfl | rfl | rfl
    · exact ⟨_,_,rfl,e1⟩
    · exact ⟨_,_,rfl,e2⟩
    · exact ⟨_,_,rfl,e3⟩
    · exact ⟨_,_,rfl,e4⟩
    · exact ⟨_,_,rfl,e8⟩,rfl⟩
  clear e1 e2 e3 e4 e8 S9 S4 s9 s8 s7 s6 s5 s4 s3 s2 s1
  revert F0
  generalize upd _ lf (.lst [.ref t1,.ref t2,.ref t3,.ref t4,.ref t8])=G0
  intro F0
  clear g1 g2 g3 g4 g5 g6 g7 g8 g9
  refine aZ ?_
  dsimp only
  refine bS ?_
  obtain ⟨zs,hz,cs⟩:=ed_kd hE
  refine ⟨_,rfl,et,zs,rfl,.inr (SqT.of (F0.same _ _ hz)),_,_,rfl,rfl,_,rfl,?_⟩
  have fin:∀ G n,n<=20->Fs H G lf n->Q (.ref lf) G:=fun G n l F=>by
    obtain ⟨xs,h1,h2,h3⟩:=F.ex
    exact k G lf xs F.same h1 h2 (by omega)
  rcases cs with l1 | ⟨ys,ka,E0,a',b',c',d',rfl,kd⟩
  · rw [l1]
    refine fV ?_
    dsimp only [m8]
    exact gK ⟨_,rfl,fin _ _ (by decide) F0⟩
  have l3:(1:Int) < ((ys++[V.ref ka]).length:Int):=by
    have:=kd.l1
    rw [aE]
    show (1:Int) < ((ys.length + 1:Nat):Int)
    omega
  rw [decide_eq_true (show ((ys++[V.ref ka]).length:Int) > 1 from l3)]
  refine gF ?_
  obtain ⟨ct,nw⟩:=BI (x:=V.ref ka) kd.l1 kd.l2
  have ny:ys≠[]:=fun z=>by have:=kd.l1; rw [z] at this; cases this
  have yl:=kd.l2
  -- the key
  refine bS (cJ ?_)
  refine ⟨_,rfl,1,rfl,et,_,-1,.ref ka,rfl,rfl,SqT.of (F0.same _ _ hz),ER kd.l1 kd.l2,?_⟩
  refine aZ ?_
  dsimp only
  -- one time more
  refine bS ?_
  obtain ⟨x0,hx0,_⟩:=F0.ex
  refine ⟨_,rfl,.inl ⟨rfl,_,SqL.of hx0⟩,_,rfl,1,rfl,-1,rfl,et,_,rfl,SqT.of (F0.same _ _ hz),nw,?_⟩
  rw [ct]
  intro u1 q1
  have s1:=aD q1 (.tup ys)
  have hk1:=s1 _ _ (F0.same _ _ kd.hk)
  refine ⟨_,rfl,ka,_,0,.int a',rfl,rfl,SqT.of hk1,rfl,_,_,rfl,rfl,pE,fun u2 q2=>?_⟩
  have s2:=aD q2 (.tup [.int (a' + 1)])
  refine ⟨_,rfl,1,rfl,ka,_,rfl,SqT.of (s2 _ _ hk1),(by intro z; cases z.1),fun u3 q3=>?_⟩
  have s3:=aD q3 (.tup [.int b',.int c',.int d'])
  refine ⟨u2,u3,[.int (a' + 1)],[.int b',.int c',.int d'],rfl,rfl,SqT.of (s3 _ _ ah),SqT.of ah,(by intro z; cases z),(by show 4<=aA; omega),(fun z=>by cases z),fun _ u4 q4=>⟨pE,fun u5 q5=>?_⟩⟩
  have s4:=aD q4 (.tup ([.int (a' + 1)]++[.int b',.int c',.int d']))
  have s5:=aD q5 (.tup [.ref u4])
  have S5:=(((s1.trans s2).trans s3).trans s4).trans s5
  refine ⟨u1,u5,ys,[.ref u4],rfl,rfl,SqT.of ((((s2.trans s3).trans s4).trans s5) _ _ ah),SqT.of ah,ny,(by show ys.length + 1<=aA; omega),(fun z=>by cases z),fun _ u6 q6=>?_⟩
  have s6:=aD q6 (.tup (ys++[.ref u4]))
  have S6:=S5.trans s6
  refine jw ?_
  show qe (.ref lf) [.ref u6] _ _
  refine (F0.more S6).app (by decide) (E:=E0++[.inr [a' + 1,b',c',d']]) ⟨_,ah,dR (Paired.mono (fun _ _ z=>z.same (F0.same.trans S6)) kd.py) (show rG _ (.ref u4) (.inr [a' + 1,b',c',d']) from ⟨u4,rfl,(s5.trans s6) _ _ ah⟩)⟩ fun G1 F1 _=>?_
  clear S6 S5 s6 s5 s4 s3 s2 hk1 s1
  dsimp only
  -- one number more
  refine bS ?_
  obtain ⟨x1,hx1,_⟩:=F1.ex
  refine ⟨_,rfl,.inl ⟨rfl,_,SqL.of hx1⟩,_,rfl,1,rfl,-1,rfl,et,_,rfl,SqT.of (F1.same _ _ hz),nw,?_⟩
  rw [ct]
  intro v1 q1'
  have s1:=aD q1' (.tup ys)
  have hk1:=s1 _ _ (F1.same _ _ kd.hk)
  refine ⟨_,rfl,3,rfl,ka,_,rfl,SqT.of hk1,(by intro z; cases z.2),fun v2 q2'=>?_⟩
  have s2:=aD q2' (.tup [.int a',.int b',.int c'])
  refine ⟨_,rfl,ka,_,3,.int d',rfl,rfl,SqT.of (s2 _ _ hk1),rfl,_,_,rfl,rfl,pE,fun v3 q3'=>?_⟩
  have s3:=aD q3' (.tup [.int (d' + 1)])
  refine ⟨v2,v3,[.int a',.int b',.int c'],[.int (d' + 1)],rfl,rfl,SqT.of (s3 _ _ ah),SqT.of ah,(by intro z; cases z),(by show 4<=aA; omega),(fun z=>by cases z),fun _ v4 q4'=>⟨pE,fun v5 q5'=>?_⟩⟩
  have s4:=aD q4' (.tup ([.int a',.int b',.int c']++[.int (d' + 1)]))
  have s5:=aD q5' (.tup [.ref v4])
  have S5:=(((s1.trans s2).trans s3).trans s4).trans s5
  refine ⟨v1,v5,ys,[.ref v4],rfl,rfl,SqT.of ((((s2.trans s3).trans s4).trans s5) _ _ ah),SqT.of ah,ny,(by show ys.length + 1<=aA; omega),(fun z=>by cases z),fun _ v6 q6'=>?_⟩
  have s6:=aD q6' (.tup (ys++[.ref v4]))
  have S6:=S5.trans s6
  refine jw ?_
  show qe (.ref lf) [.ref v6] _ _
  refine (F1.more S6).app (by decide) (E:=E0++[.inr [a',b',c',d' + 1]]) ⟨_,ah,dR (Paired.mono (fun _ _ z=>z.same (F1.same.trans S6)) kd.py) (show rG _ (.ref v4) (.inr [a',b',c',d' + 1]) from ⟨v4,rfl,(s5.trans s6) _ _ ah⟩)⟩ fun G2 F2 _=>?_
  clear S6 S5 s6 s5 s4 s3 s2 hk1 s1
  dsimp only
  -- the words
  let ws:List Str:=["nought","great","full","dry","span","late"]
  refine ⟨by show 6<=aA; omega,fun lw qw=>⟨lw,rfl,⟨_,SqL.of ah⟩,?_⟩⟩
  have sw:=aD qw (.lst (ws.map V.str))
  obtain ⟨x2,hx2,_⟩:=F2.ex
  have nw2:lw≠lf:=(aG hx2 qw).symm
  refine iL (K:=K) (a:=lw) (xs:=ws.map V.str) (fun i σ G=>∃ u:Option V,σ=[some (.ref et),some (.ref la),some (.ref lf),some (.ref ka),u]/\i<=6/\Fs H G lf (7 + i)/\G lw=some (.lst (ws.map V.str))) ⟨_,rfl,by decide,F2.more sw,ah⟩ ?_ ?_ ?_
  · rintro i σ G hi ⟨u,rfl,_,FG,hw⟩
    exact SqL.of hw
  · rintro i x σ G hi ⟨u,rfl,i6,FG,hw⟩
    have il:i < 6:=(aB.mp hi).1
    obtain ⟨o,rfl⟩:∃ o:Str,x=.str o:=by
      rw [bQ] at hi
      cases z:ws[i]? with
      | none =>
        rw [z] at hi
        cases hi
      | some o =>
        rw [z] at hi
        cases hi
        exact ⟨o,rfl⟩
    refine aZ ?_
    dsimp only
    obtain ⟨xg,hxg,_⟩:=FG.ex
    refine ⟨_,rfl,.inl ⟨rfl,_,SqL.of hxg⟩,_,rfl,_,rfl,by show 3<=aA; omega,fun t ht=>?_⟩
    have st:=aD ht (.tup [.str "fault",.str o,.ref ka])
    refine jw ?_
    show qe (.ref lf) [.ref t] _ _
    refine (FG.more st).app (by omega) (E:=[.inl "fault",.inl o,.inr [a',b',c',d']]) ⟨_,ah,.cons rfl (.cons rfl (.cons ⟨ka,rfl,st _ _ (FG.same _ _ kd.hk)⟩ .nil))⟩ fun G3 F3 b3=>?_
    exact ⟨_,rfl,by omega,F3,b3 _ _ (st _ _ hw) nw2⟩
  · rintro σ G ⟨u,rfl,_,FG,_⟩
    dsimp only
    exact gK ⟨_,rfl,fin _ _ (by decide) FG⟩
end
end My
namespace My
open PySem L2
def AO (K:af):Sp:=fun vs H Q _=>∃ (a:aa) (ns:List Int),vs=[.ref a]/\SqL K H a (ns.map V.int)/\ns.length<=63/\(∀ x∈ns,eX x<=1048576)/\∀ H',Q (.bl true) H'
theorem Bk.own {Ms:List MD} {es:List Ev} {k:Int} {rs r:List Rec} {e e':End} (mo:wX Ms) (k0:0<=k) (a:Bk Ms es k rs e) (b:Bk Ms es (if pJ e=uW then (rs.length:Int) else rs.length + 1) r e'):r=rs/\e'=e:=by
  by_cases c:pJ e=uW
  · rw [if_pos c] at b
    have ec:=J2 c
    subst ec
    rw [a.cut mo k0] at b
    exact b.uniq a
  · rw [if_neg c] at b
    have nc:e≠.cut:=fun z=>c (by rw [z]; rfl)
    rcases Int.le_total k ((rs.length:Int) + 1) with z | z
    · exact b.uniq (a.more z nc)
    · have ne:e'≠.cut:=fun y=>by
        subst y
        have h1:=b.cut mo (by omega)
        have h2:=congrArg jD (b.pre mo (by omega) z a)
        rw [cG] at h2
        omega
      exact (b.more z ne).uniq a
theorem Pre.take {Ms:List MD} {es:List Ev} {rs:List Rec} (n:Nat) (h:Pre Ms es rs):Pre Ms es (rs.take n):=by
  obtain ⟨k,rk,ek,k0,b,h1,h2⟩:=h
  refine ⟨k,rk,ek,k0,b,?_,?_⟩
  · rw [cG]
    conv=>lhs; rw [h1,HY]
  · rw [cG]
    omega
theorem Hl (xs:List V):j8 xs none (some (-1))=xs.take (xs.length - 1):=by
  unfold j8
  show (xs.drop 0).take (((-1:Int) + (xs.length:Int)).toNat - 0)=_
  rw [o7]
  congr 1
  omega
theorem Rcs.but1 {H:Hp} {l p:aa} {rs:List Rec} (h:Rcs H l rs) (hp:H p=none):∀ {xs:List V},H l=some (.lst xs)->Rcs (upd H p (.lst (j8 xs none (some (-1))))) p (rs.take (rs.length - 1)):=fun {xs} hx=>by
  obtain ⟨ys,h1,h2⟩:=h
  rw [hx] at h1
  cases h1
  rw [Hl]
  refine ⟨_,ah,(?_:aO _ _ _)⟩
  have q:=rZ (xs.length - 1) h2
  rw [<- aT h2]
  exact Paired.mono (fun _ _ z=>RcIn.same (aD hp _) z) q
theorem mo_p {CM:aa} {Ms:List MD} {G H2 G':Hp} {m dxm ml' p:aa} (nm:G m=none) (ndx:G dxm=none) (nem:dxm≠m) (hp:G p≠none)
    (mo:Bx (Ms.length:Int) (Nw (upd (upd G dxm (.own m)) m (.ins CM dxm [])) H2) ml' Ms) (b:But p (upd H2 m (.ins CM dxm (dh "machines" (.ref ml') []))) G'):uq CM Ms G' m:=by
  refine ⟨dxm,ml',_,b _ _ ah (fun z=>hp (z ▸ nm)),rfl,mo.same fun a o e=>?_⟩
  have n:(upd (upd G dxm (.own m)) m (.ins CM dxm [])) a=none:=by
    unfold Nw at e
    by_cases c:(upd (upd G dxm (.own m)) m (.ins CM dxm [])) a=none
    · exact c
    · rw [if_neg c] at e
      cases e
  have nam:a≠m:=fun z=>by
    rw [z,ah] at n
    cases n
  have nad:a≠dxm:=fun z=>by
    rw [z,aJ nem,ah] at n
    cases n
  have ga:G a=none:=by
    rw [aJ nam,aJ nad] at n
    exact n
  exact b _ _ (by rw [aJ nam]; exact nw_le _ _ e) fun z=>hp (z ▸ ga)
theorem Kf {xs:List V} (h:xs≠[]):∃ x,atI xs (-1)=some x/\x∈xs:=by
  have l:0 < xs.length:=pS.mpr h
  refine ⟨xs[xs.length - 1],?_,mO _⟩
  unfold atI ixN
  rw [if_neg (by decide),if_pos (by omega)]
  show xs[((-1:Int) + xs.length).toNat]?=_
  rw [show ((-1:Int) + xs.length).toNat=xs.length - 1 by omega,ax (by omega)]
section
variable {P:aM} {w:bH} {K:af} {mg:Str->Option ae} {base:cB} {f fP fT fN fLm fLv fMI fPl fIs fDu fGo fEn CM CS CB:aa} {fd fdP fdT fdN fdLm fdLv fdMI fdPl fdIs fdDu fdGo fdEn:bY}
seal L2.PS L2.PSs L2.PE L2.PA L2.PT L2.PW L2.PI L2.PG L2.PGs L2.PC
def HZ (CB:aa):TS:=fun D σ H=>∃ (b dx rl et sl:aa) (rs:List Rec),σ[6]?=some (some (.ref b))/\H b=some (.ins CB dx (Bv (.ref rl) (.ref et) (.ref sl)))/\Rcs H rl rs/\(∀ G,bM H G->D.nx σ G) /\
  ∀ (G:Hp) (la:aa) (a b c d:Int),bM H G->G la=some (.tup [.int a,.int b,.int c,.int d])->D.nx (σ.set 7 (some (.ref la))) G
theorem Kg {N:St->Hp->Prop} {σ:St} {H:Hp} {t:aa} {a0 b0 c0 d0:Int} (hs:σ.set 7 (some (.ref t))=σ) (ht:H t=some (.tup [.int a0,.int b0,.int c0,.int d0])) (h:∀ (G:Hp) (la:aa) (a b c d:Int),bM H G->G la=some (.tup [.int a,.int b,.int c,.int d])->N (σ.set 7 (some (.ref la))) G) :
    (∀ G,bM H G->N σ G)/\∀ (G:Hp) (la:aa) (a b c d:Int),bM H G->G la=some (.tup [.int a,.int b,.int c,.int d])->N (σ.set 7 (some (.ref la))) G:=by
  refine ⟨fun G s=>?_,h⟩
  have z:=h G t _ _ _ _ s (s _ _ ht)
  rw [hs] at z
  exact z
theorem Kh {K':af} (hK:K'=K) (TB:BkT K mg CB) {D:jM} {σ:St} {H:Hp} (q:HZ CB D σ H):B9 (vc (tOp (fun x y H Q=>∃ p q xs,x=.ref p/\y=.ref q/\H p=some (.lst xs)/\H q=some (.lst [])/\Q (.bl (!xs.isEmpty)) H) (Cq K (tE 6) "records") (Iv xI)))
    (AX (tOp (IB K') (tOp (IA K') (Cq K (tE 6) "records") (tUn (rU fun i=>.int (-i)) (tC (.int 1)))) (tC (.int 0))) (u9 7)) m8 D σ H:=by
  obtain ⟨b,dx,rl,et,sl,rs,hs,hb,hr,k1,k2⟩:=q
  obtain ⟨xs,h1,h2⟩:=hr
  refine ⟨_,hs,b,CB,dx,_,_,rfl,hb,TB.cl,TB.nR,uV _ _ _,bj _,fun le hle=>?_⟩
  have st:=aD hle (.lst [])
  refine ⟨rl,le,xs,rfl,rfl,st _ _ h1,ah,_,rfl,?_⟩
  cases hx:xs with
  | nil =>
    refine fV ?_
    exact k1 _ st
  | cons y ys =>
    refine gF (cJ ?_)
    obtain ⟨x,hat,mx⟩:=Kf (xs:=xs) (by rw [hx]; intro z; cases z)
    obtain ⟨q,_,rc,k,wl,od,ws1,ws2,vs,qa,rfl,g1,g2,_⟩:=jZ h2 x mx
    exact ⟨_,hs,b,CB,dx,_,_,rfl,st _ _ hb,TB.cl,TB.nR,uV _ _ _,1,rfl,rl,xs,-1,_,rfl,rfl,SqL.of (st _ _ h1),hat,rc,_,0,.ref k,rfl,rfl,SqT.of (st _ _ g1),rfl,aZ (k2 _ k _ _ _ _ st (st _ _ g2))⟩
abbrev nL:List Str:=["_law_script","_law_purse_here","_law_machines","_law_signs","_law_model","_law_many","_law_book","_law_last","_law_longer","_law_endings_here","_law_ending"]
abbrev pL:List Str:=["_law_script"]
theorem scL:bV nL pL (aQ Dy):=⟨rfl,rfl,rfl,by decide +kernel,rfl,by decide +kernel,by decide +kernel⟩
theorem Ki (D:Df K mg "law" Dy pL f fd) (DP:Df K mg "_law_purse" kx pP fP fdP) (DT:Df K mg "_law_take" fc pT fT fdT) (DLv:Df K mg "_law_live" jW pLv fLv fdLv) (GLv:bT P w K mg base CX0 12 fLv fdLv pLv spLv)
    (MM_:Mk K CM fMI) (GMI:bT P w K mg base CX0 31 fMI fdMI ["self","machines"] (spMI CM 29)) (bMI:Binds K fdMI ["self","machines"] [])
    (DPl:Df K mg "plain" oJ ["model","signs","most"] fPl fdPl) (GPl:bT P w K mg base CX0 40 fPl fdPl ["model","signs","most"] (oz CM CS CB)) (DIs:Df K mg "is_book" lE pIs fIs fdIs) (DDu:Df K mg "_law_due" lF pDu fDu fdDu) (DGo:Df K mg "_law_good" md pGo fGo fdGo) (DEn:Df K mg "_law_endings" jj pEn fEn fdEn)
    (TM:MdT K mg CM CS) (TB:BkT K mg CB) (B:Bl mg):bT P w K mg base CX0 43 f fd pL (AO K):=by
  have GP:bT P w K mg base CX0 1 fP fdP pP (AG K):=EG DP B
  have GT:bT P w K mg base CX0 1 fT fdT pT oB:=mw DT B
  have GIs:bT P w K mg base CX0 41 fIs fdIs pIs (J3 CM):=ok_is DIs DPl GPl TB B
  have GDu:bT P w K mg base CX0 41 fDu fdDu pDu (Kb CM):=ok_du DDu DPl GPl TB B
  have GGo:bT P w K mg base CX0 42 fGo fdGo pGo (spGo CM):=ok_go DGo DIs GIs DDu GDu B
  have GEn:bT P w K mg base CX0 1 fEn fdEn pEn spEn:=ok_en DEn B
  refine D.F.ok scL (fun vs H Q E h=>?_) (fun cdv A outer s H vs Q E hr h=>?_)
  · obtain ⟨a,ns,rfl,_⟩:=h
    rfl
  obtain ⟨sa,ns,rfl,hsa,hns,hbt,fin⟩:=h
  have h50:=Da hr
  have r1:dP 1 _:=hr.mono (by decide)
  have r12:dP 12 _:=hr.mono (by decide)
  have r32:dP 32 _:=hr.mono (by decide)
  have r40:dP 40 _:=hr.mono (by decide)
  have r41:dP 41 _:=hr.mono (by decide)
  have r42:dP 42 _:=hr
  refine ⟨_,ak (bz (i:=1) scL.nd rfl (Or.inl rfl) (aS GP r1 (by rfl) DP.m DP.F.kp DP.b .nil cm (bN (pv 0) ao)))
    (ak (tG (aS GLv r12 (by rfl) DLv.m DLv.F.kp DLv.b .nil cm (bN (pv 1) ao)) (EK rfl (gA (dy (i:=2) scL.nd rfl (Or.inl rfl)) (gA (dy (i:=3) scL.nd rfl (Or.inl rfl)) p0))))
    (ak (bz (i:=4) scL.nd rfl (Or.inl rfl) (oF MM_ GMI r32 (by rfl) TM.mM bMI .nil cm (bN (pv 2) ao)))
    (ak (bz (i:=5) scL.nd rfl (Or.inl rfl) (aS GT r1 (by rfl) DT.m DT.F.kp DT.b .nil cm (bN (pv 1) (dB ay ao))))
    (ak (bz (i:=6) scL.nd rfl (Or.inl rfl) (aS GPl r40 (by rfl) DPl.m DPl.F.kp DPl.b .nil cm (bN (pv 4) (bN (pv 3) (bN (pv 5) ao)))))
    (ak (cZ (cu Hj (aS GIs r41 (by rfl) DIs.m DIs.F.kp DIs.b .nil cm (bN (pv 4) (bN (pv 3) (aq (fu K (by rfl) (pv 6) (by rfl)) (aq (fu K (by rfl) (pv 6) (by rfl)) ao))))) jN (cE _)) (aF (bX jN)) cy)
    (ak (bz (i:=7) scL.nd rfl (Or.inl rfl) (cR (dB ay (dB ay (aq (tH pj ay) (dB ay ao))))))
    (ak (zM (HZ CB) (cZ (cu (IY h50) (fu K (by rfl) (pv 6) (by rfl)) (eT ao) (cE _)) (aF (bz (i:=7) scL.nd rfl (Or.inl rfl) (bZ cF (bZ dZ (fu K (by rfl) (pv 6) (by rfl)) (tH pj ay) (fun _ _=>rfl)) ay (fun _ _=>rfl)))) cy) (fun D σ H q=>Kh rfl TB q))
    (ak (bz (i:=8) scL.nd rfl (Or.inl rfl) (aS GPl r40 (by rfl) DPl.m DPl.F.kp DPl.b .nil cm (bN (pv 4) (bN (pv 3) (jJ (cP fJ (pv 5) ay) ao)))))
    (ak (bz (i:=9) scL.nd rfl (Or.inl rfl) (cP CQ (eT (aq (fu K (by rfl) (pv 6) (by rfl)) (aq (fu K (by rfl) (pv 8) (by rfl)) ao))) (aS GEn r1 (by rfl) DEn.m DEn.F.kp DEn.b .nil cm (aq (fu K (by rfl) (pv 8) (by rfl)) (bN (pv 7) ao)))))
    (ak (iy cQ rfl (gW (pv 9)) (dy (i:=10) scL.nd rfl (Or.inl rfl)) (ak (cZ (qN (lO (aS GGo r42 (by rfl) DGo.m DGo.F.kp DGo.b .nil cm (bN (pv 4) (bN (pv 3) (aq (fu K (by rfl) (pv 6) (by rfl)) (bN (pv 10) ao))))))) (aF (bX jN)) cy)
    (ak (cZ (qN (lO (aS GGo r42 (by rfl) DGo.m DGo.F.kp DGo.b .nil cm (bN (pv 4) (bN (pv 3) (EF (ip qc (fu K (by rfl) (pv 6) (by rfl)) jG (iN (tH pj ay))) (bN (pv 10) ao))))))) (aF (bX jN)) cy)
    (aF (cZ (qN (lO (aS GGo r42 (by rfl) DGo.m DGo.F.kp DGo.b .nil cm (bN (pv 4) (bN (pv 3) (aq (fu K (by rfl) (pv 8) (by rfl)) (bN (pv 10) ao))))))) (aF (bX jN)) cy)))))
    (aF (bX jN)))))))))))),?_⟩
  have big:=eU
  -- the purse, the machines and the signs
  refine bS (cJ ?_)
  refine ⟨_,rfl,sa,ns,rfl,hsa,hns,hbt,fun p H1 np pu1 s1=>?_⟩
  refine aZ ?_
  dsimp only
  refine bS (cJ ?_)
  refine ⟨_,rfl,p,rfl,pu1,fun l ml ol xs svs Ms es H2 hl hml hMs m0 m4 hol hsv les hes nml nol pu2 b2=>?_⟩
  refine ⟨l,_,rfl,SqL.of hl,rfl,_,_,rfl,_,_,rfl,rfl,?_⟩
  dsimp only
  -- the aW
  refine bS (cJ (zA ?_))
  refine ⟨_,rfl,fun m dxm hm hdx ndx=>?_⟩
  have sA:bM H2 (upd (upd H2 dxm (.own m)) m (.ins CM dxm [])):=fun b o e=>by
    rw [aJ (aG e hm),aJ (aG e hdx)]
    exact e
  have hMs2:aO (MIn Ms.length H1 (upd (upd H2 dxm (.own m)) m (.ins CM dxm []))) xs Ms:=Paired.mono (fun v M z=>by
    obtain ⟨t,e,y⟩:=z
    exact ⟨t,e,y.same sA⟩) hMs
  refine ⟨m,dxm,.ref ml,rfl,ah,Hd (sA _ _ hml) hMs2 (by omega),fun v' G5 s5 al=>⟨rfl,?_⟩⟩
  obtain ⟨ml',rfl,hMo⟩:=He (sA _ _ hml) hMs2 al
  have s46:bM H2 (upd G5 m (.ins CM dxm (dh "machines" (.ref ml') []))):=uf (sA.trans s5) hm _
  refine aZ ?_
  dsimp only
  -- how many
  refine bS (cJ ?_)
  refine ⟨_,rfl,p,13,rfl,pu2.same s46,by decide,by decide,fun k G7 k0 k13 pu7 b7=>?_⟩
  refine aZ ?_
  dsimp only
  have hp2:H2 p≠none:=fun z=>by
    obtain ⟨x,y,e⟩:=pu2
    rw [z] at e
    cases e
  have R:Rn CM Ms es G7 m ol:=⟨mo_p hm hdx ndx hp2 hMo b7,by omega,⟨svs,b7 _ _ (s46 _ _ hol) nol,Paired.mono (fun v e z=>by
    obtain ⟨t',e',h⟩:=z.same s46
    exact ⟨t',e',dO.but (pu2.same s46) b7 _ _ h (jB _)⟩) hsv⟩,les,hes⟩
  clear b7 pu7 s46 hMo al s5 hMs2 sA hm hdx ndx hsv hol hMs hml hl b2 pu2 pu1 s1
  have mo:=R.mo.ok
  -- the book
  refine bS (cJ ?_)
  refine ⟨_,rfl,_,rfl,_,rfl,?_⟩
  refine jw ?_
  show oz CM CS CB [V.ref m,V.ref ol,V.int k] _ _ _
  refine BH R (by omega) fun G8 b dx rl sl et rs e s8 bk g1 g2 g3=>?_
  refine aZ ?_
  dsimp only
  have few:=bk.few mo k0
  refine bS ?_
  refine ⟨_,rfl,_,rfl,_,rfl,b,CB,dx,_,_,rfl,g1,TB.cl,TB.nR,uV _ _ _,_,rfl,b,CB,dx,_,_,rfl,g1,TB.cl,TB.nE,yk _ _ _,?_⟩
  refine jw ?_
  refine ⟨Ms,es,m,ol,rl,et,rs,pJ e,rfl,R.same s8,g2,bk.isPre k0,by omega,g3,fun G9 r e' s9 bk'=>?_⟩
  obtain ⟨rfl,rfl⟩:=bk.own mo k0 bk'
  rw [decide_eq_true rfl,decide_eq_true rfl]
  refine ⟨rfl,rfl,_,rfl,?_⟩
  refine fV ?_
  dsimp only [m8]
  -- the last
  refine bS (cJ ?_)
  refine ⟨1,rfl,by show 4<=aA; omega,fun l0 hl0=>?_⟩
  have s10:=aD hl0 (.tup [.int 0,.int 0,.int (-1),.int 0])
  refine aZ ?_
  dsimp only
  refine bS ?_
  have S10:=(s8.trans s9).trans s10
  refine ⟨b,dx,rl,et,sl,r,rfl,(s9.trans s10) _ _ g1,g2.same (s9.trans s10),?_⟩
  refine Kg (t:=l0) rfl ah ?_
  intro G11 la a4 b4 c4 d4 s11 hla
  dsimp only
  have S11:=S10.trans s11
  have g1':=((s9.trans s10).trans s11) _ _ g1
  have g2':=g2.same ((s9.trans s10).trans s11)
  have g3':=g3.same ((s9.trans s10).trans s11)
  have R11:=R.same S11
  clear S11 S10 s10 s11 s9 s8 g1 g2 g3 R hl0
  -- the longer book
  refine bS (cJ ?_)
  refine ⟨_,rfl,_,rfl,_,rfl,_,_,rfl,rfl,?_⟩
  refine jw ?_
  show oz CM CS CB [V.ref m,V.ref ol,V.int (k + 1)] _ _ _
  refine BH R11 (by omega) fun G12 b2 dx2 rl2 sl2 et2 r2 e2 s12 bk2 j1 j2 j3=>?_
  refine aZ ?_
  dsimp only
  have few2:=bk2.few mo (by omega)
  -- the endings
  refine bS (cJ ?_)
  refine ⟨_,rfl,b,CB,dx,_,_,rfl,s12 _ _ g1',TB.cl,TB.nE,yk _ _ _,_,rfl,b2,CB,dx2,_,_,rfl,j1,TB.cl,TB.nE,yk _ _ _,lt2,fun l2 hl2=>?_⟩
  have s13:=aD hl2 (.lst [.ref et,.ref et2])
  refine ⟨_,rfl,b2,CB,dx2,_,_,rfl,s13 _ _ j1,TB.cl,TB.nE,yk _ _ _,_,rfl,?_⟩
  refine jw ?_
  refine ⟨et2,la,e2,a4,b4,c4,d4,rfl,j3.same s13,(s12.trans s13) _ _ hla,fun G14 lx ys s14 hlx eds ly=>?_⟩
  refine ⟨l2,lx,[.ref et,.ref et2],ys,rfl,rfl,s14 _ _ ah,hlx,by show 2 + ys.length<=aA; omega,fun lh hlh=>?_⟩
  have s15:=aD hlh (.lst ([.ref et,.ref et2]++ys))
  refine aZ ?_
  dsimp only
  have S15:=((s12.trans s13).trans s14).trans s15
  have S15':=(s13.trans s14).trans s15
  have eds':Eds _ ([.ref et,.ref et2]++ys):=fun x hx=>by
    rcases cq.mp hx with z | z
    · simp only [au,aR,or_false] at z
      rcases z with rfl | rfl
      · exact ⟨et,_,rfl,g3'.same S15⟩
      · exact ⟨et2,_,rfl,j3.same S15'⟩
    · exact eds.tups (.of s15) x z
  have hlh':upd G14 lh (.lst ([.ref et,.ref et2]++ys)) lh=some (.lst ([.ref et,.ref et2]++ys)):=ah
  have i1:=S15 _ _ g1'
  have i2:=g2'.same S15
  have i3:=S15' _ _ j1
  have i4:=j2.same S15'
  have R15:=R11.same S15
  have pr:Pre Ms es r:=bk.isPre k0
  have pr2:Pre Ms es r2:=bk2.isPre (by omega)
  have lr:r.length<=900:=by omega
  have lr2:r2.length<=900:=by omega
  revert eds' hlh' i1 i2 i3 i4 R15
  clear S15 S15' s15 s14 s13 hl2 hlh hlx eds j1 j2 j3 s12 g1' g2' g3' R11 bk2 bk few few2 bk'
  generalize upd G14 lh (.lst ([.ref et,.ref et2]++ys))=G15
  generalize [V.ref et,.ref et2]++ys=zs
  intro eds hlh i1 i2 i3 i4 R15
  refine bS ?_
  refine ⟨_,rfl,lh,rfl,⟨_,SqL.of hlh⟩,?_⟩
  refine iL (K:=K) (a:=lh) (xs:=zs) (fun i σ G=>∃ u:Option V,σ=[some (.ref sa),some (.ref p),some (.ref ml),some (.ref ol),some (.ref m),some (.int k),some (.ref b),some (.ref la),some (.ref b2),some (.ref lh),u]/\bM G15 G) ⟨_,rfl,bM.refl _⟩ ?_ ?_ ?_
  · rintro i σ G hi ⟨u,rfl,sG⟩
    exact SqL.of (sG _ _ hlh)
  · rintro i x σ G hi ⟨u,rfl,sG⟩
    obtain ⟨t,E',rfl,hE⟩:=eds x (cw hi)
    refine aZ ?_
    dsimp only
    refine bS ?_
    refine ⟨_,rfl,_,rfl,_,rfl,b,CB,dx,_,_,rfl,sG _ _ i1,TB.cl,TB.nR,uV _ _ _,_,rfl,?_⟩
    refine jw ?_
    refine ⟨Ms,es,m,ol,rl,t,r,E',rfl,R15.same sG,i2.same sG,pr,lr,hE.same sG,fun G1 s1=>⟨_,rfl,?_⟩⟩
    dsimp only [jz]
    refine fV ?_
    dsimp only [m8]
    have t1:=sG.trans s1
    refine bS ?_
    refine ⟨_,rfl,_,rfl,_,rfl,b,CB,dx,_,_,rfl,t1 _ _ i1,TB.cl,TB.nR,uV _ _ _,?_⟩
    obtain ⟨ws,hw,pw⟩:=i2.same t1
    refine ⟨1,rfl,-1,rfl,rl,ws,rfl,SqL.of hw,fun lc hlc=>?_⟩
    have s2:=aD hlc (.lst (j8 ws none (some (-1))))
    have t2:=t1.trans s2
    refine ⟨_,rfl,?_⟩
    refine jw ?_
    refine ⟨Ms,es,m,ol,lc,t,r.take (r.length - 1),E',rfl,R15.same t2,(i2.same t1).but1 hlc hw,pr.take _,(by rw [cG]; omega),hE.same t2,fun G3 s3=>⟨_,rfl,?_⟩⟩
    dsimp only [jz]
    refine fV ?_
    dsimp only [m8]
    have t3:=t2.trans s3
    refine ⟨_,rfl,_,rfl,_,rfl,b2,CB,dx2,_,_,rfl,t3 _ _ i3,TB.cl,TB.nR,uV _ _ _,_,rfl,?_⟩
    refine jw ?_
    refine ⟨Ms,es,m,ol,rl2,t,r2,E',rfl,R15.same t3,i4.same t3,pr2,lr2,hE.same t3,fun G4 s4=>⟨_,rfl,?_⟩⟩
    dsimp only [jz]
    refine fV ?_
    exact ⟨_,rfl,t3.trans s4⟩
  · rintro σ G ⟨u,rfl,sG⟩
    dsimp only
    exact gK (fin G)
end
end My
namespace My
open PySem L2
def xh (CN CG CU CY CP CL:aa):Flt->aa
  | .nought=>CN
  | .great=>CG
  | .full=>CU
  | .dry=>CY
  | .span=>CP
  | .late=>CL
end My
namespace My
theorem AQ {P:Flt->Prop} (a:P .nought) (b:P .great) (c:P .full) (d:P .dry) (e:P .span) (f:P .late):∀ x,P x
  | .nought=>a
  | .great=>b
  | .full=>c
  | .dry=>d
  | .span=>e
  | .late=>f
end My
namespace My
open PySem L2
theorem qG {α:Type} {n:Nat} {us:List α} (h:us.length=n + 1):∃ a l,us=a :: l/\l.length=n:=by
  cases us with
  | nil=>cases h
  | cons a l=>exact ⟨a,l,rfl,Nat.succ.inj h⟩
theorem xi {α:Type} {us:List α} (h:us.length=1):∃ a,us=[a]:=by
  obtain ⟨a,l,rfl,h⟩:=qG h
  cases l with
  | nil=>exact ⟨a,rfl⟩
  | cons b l=>cases h
theorem xj {α:Type} {us:List α} (h:us.length=2):∃ a b,us=[a,b]:=by
  obtain ⟨x,l,rfl,h'⟩:=qG h
  obtain ⟨a1,rfl⟩:=xi h'
  exact ⟨x,a1,rfl⟩
theorem xk {α:Type} {us:List α} (h:us.length=3):∃ a b c,us=[a,b,c]:=by
  obtain ⟨x,l,rfl,h'⟩:=qG h
  obtain ⟨a1,b1,rfl⟩:=xj h'
  exact ⟨x,a1,b1,rfl⟩
theorem xl {α:Type} {us:List α} (h:us.length=4):∃ a b c d,us=[a,b,c,d]:=by
  obtain ⟨x,l,rfl,h'⟩:=qG h
  obtain ⟨a1,b1,c1,rfl⟩:=xk h'
  exact ⟨x,a1,b1,c1,rfl⟩
theorem AR {α:Type} {us:List α} (h:us.length=5):∃ a b c d e,us=[a,b,c,d,e]:=by
  obtain ⟨x,l,rfl,h'⟩:=qG h
  obtain ⟨a1,b1,c1,d1,rfl⟩:=xl h'
  exact ⟨x,a1,b1,c1,d1,rfl⟩
def Dn (K:af) (x:Str) (st:df) (f:aa):Prop:=cz K bL x=some (some (.ref f))/\∃ fd,Fun K x x st f fd
def Mn (K:af) (C:aa) (x q:Str) (st:df) (f:aa):Prop:=(aV K (.ref C) x=some (some (.ref f))/\lR K (.ref f)=true)/\∃ fd,Fun K x q st f fd
structure Cn (K:af) (C:aa):Prop where
  c:Cls K C
  m:sf K C=true
  k:fK K (.ref C)=true
theorem dn_i {K:af} {x:Str} {st:df} {f:aa} {oc:ae} {od an:Option aa} {sl:Array (Option ae)} {kV dc pm cd ct:ae} (a:cz K bL x=some (some (.ref f))) (l:K.lookup f=some ⟨oc,od,.func (eF x x (jH st) (iq st) (aQ st) .none kV dc pm an cd ct),sl⟩) (c:iM K cd x=true) (k:fK K (.ref f)=true):Dn K x st f:=⟨a,_,CV l c k⟩
theorem mn_i {K:af} {x q:Str} {st:df} {f C:aa} {oc:ae} {od an:Option aa} {sl:Array (Option ae)} {kV dc pm cd ct:ae} (a:aV K (.ref C) x=some (some (.ref f))) (i:lR K (.ref f)=true) (l:K.lookup f=some ⟨oc,od,.func (eF x q (jH st) (iq st) (aQ st) .none kV dc pm an cd ct),sl⟩) (c:iM K cd q=true) (k:fK K (.ref f)=true):Mn K C x q st f:=⟨⟨a,i⟩,_,CV l c k⟩
theorem dfx {K:af} {h:cB} {mg:Str->Option ae} {x:Str} {st:df} {f:aa} (ps:List Str) (X:K.In h) (G:h.Ns bL mg) (a:Dn K x st f) (hb:∀ (kV doc pm:ae) (an:Option aa) (cdv ct:ae) (us:List ae),us.length=ps.length->yS (eF x x (jH st) (iq st) (aQ st) .none kV doc pm an cdv ct) ⟨us,[]⟩=pure (ps.zip us):=by intro _ _ _ _ _ _ us hl; first | (obtain ⟨a,rfl⟩:=xi hl; rfl) | (obtain ⟨a,b,rfl⟩:=xj hl; rfl) | (obtain ⟨a,b,c,rfl⟩:=xk hl; rfl) | (obtain ⟨a,b,c,d,rfl⟩:=xl hl; rfl) | (obtain ⟨a,b,c,d,e,rfl⟩:=AR hl; rfl)):∃ fd,Df K mg x st ps f fd:=by
  obtain ⟨a,fd,F⟩:=a
  exact ⟨fd,F,F.binds hb,d6 X G a⟩
theorem mfx {K:af} {x q:Str} {st:df} {f C:aa} (ps:List Str) (a:Mn K C x q st f) (hb:∀ (kV doc pm:ae) (an:Option aa) (cdv ct:ae) (us:List ae),us.length=ps.length->yS (eF x q (jH st) (iq st) (aQ st) .none kV doc pm an cdv ct) ⟨us,[]⟩=pure (ps.zip us):=by intro _ _ _ _ _ _ us hl; first | (obtain ⟨a,rfl⟩:=xi hl; rfl) | (obtain ⟨a,b,rfl⟩:=xj hl; rfl) | (obtain ⟨a,b,c,rfl⟩:=xk hl; rfl) | (obtain ⟨a,b,c,d,rfl⟩:=xl hl; rfl) | (obtain ⟨a,b,c,d,e,rfl⟩:=AR hl; rfl)):∃ fd,Fun K x q st f fd/\Binds K fd ps []/\vZ K C x f:=by
  obtain ⟨⟨a,i⟩,fd,F⟩:=a
  exact ⟨fd,F,F.binds hb,a,i,F.kp⟩
theorem law_b {K:af} {x q:Str} {st:df} {f:aa} {fd:bY} {y:Str} (F:Fun K x q st f fd) (hb:∀ (kV doc pm:ae) (an:Option aa) (cdv ct v:ae),yS (eF x q (jH st) (iq st) (aQ st) .none kV doc pm an cdv ct) ⟨[v],[]⟩=pure [(y,v)]) (s:aj) (v:ae):rL s fd ⟨[v],[]⟩ [(y,v)]:=by
  obtain ⟨oc,od,kV,doc,pm,an,cdv,ct,osl,rfl,_⟩:=F.ex
  exact .of_eq (hb kV doc pm an cdv ct v)
theorem all_mk {l:sC} {w:bH} {K:af} {h:cB} {mg:Str->Option ae} {fa f1 f2 f3 f4 f5 f6 f7 f8 f9 f10 f11 f12 f13 f14 f15 f16 f17 f18 f19 f20 f21 f22 f23 f24 f25 f26 f27 f28 f29 f30 f31 f32 f33 f34 f35 CM f36 CS f37 f38 CD f39 f40 f41 f42 f43 CB f44 CC f45 f46 f47 CN CG CU CY CP CL CF:aa} {f100 f101 f102 f103 f104 f105:aa} (X:K.In h) (G:h.Ns bL mg) (hfa:mg "law"=some (.ref fa))
    (a1:Dn K "worth_of" jV f1) (a2:Dn K "number_of_leaf" fy f2) (a3:Dn K "number_of_two" gk f3) (a4:Dn K "number_of_division" dQ f4) (a5:Dn K "done" wK f5) (a6:Dn K "doing_of" lY f6) (a7:Dn K "deeds_by_sign" gB f7) (a8:Dn K "writes_of" kr f8) (a9:Dn K "do_deeds" gR f9) (a10:Dn K "do_deed" kZ f10) (a11:Dn K "do_push" lu f11) (a12:Dn K "do_pull" lA f12) (a13:Dn K "do_draw" lB f13) (a14:Dn K "do_send" lC f14) (a15:Dn K "copied" lD f15) (a16:Dn K "first_state" ji f16) (a17:Dn K "place_in" l8 f17) (a18:Dn K "put_in" qv f18) (a19:Dn K "pending_at_first" fX f19) (a20:Dn K "course_at_first" gs f20) (a21:Dn K "run_on" qx f21) (a22:Dn K "plain" oJ f22) (a23:Dn K "is_book" lE f23) (a24:Dn K "_law_purse" kx f24) (a25:Dn K "_law_take" fc f25) (a26:Dn K "_law_names" iF f26) (a27:Dn K "_law_small" iG f27) (a28:Dn K "_law_live_deed" gm f28) (a29:Dn K "_law_live_deeds" gz f29) (a30:Dn K "_law_live_machine" eA f30) (a31:Dn K "_law_live" jW f31) (a32:Dn K "_law_due" lF f32) (a33:Dn K "_law_good" md f33) (a34:Dn K "_law_endings" jj f34) (a35:Dn K "law" Dy f35) (aCM:cz K bL "Model"=some (some (.ref CM))) (a36:Mn K CM "__init__" "Model.__init__" lZ f36) (pCM:Cn K CM) (nCMmachines:aV K (.ref CM) "machines"=some none) (aCS:cz K bL "State"=some (some (.ref CS))) (a37:Mn K CS "__init__" "State.__init__" iP f37) (a38:Mn K CS "copy" "State.copy" iQ f38) (pCS:Cn K CS) (nCSboxes:aV K (.ref CS) "boxes"=some none) (nCSqueues:aV K (.ref CS) "queues"=some none) (nCSdrawn:aV K (.ref CS) "drawn"=some none) (nCSsent:aV K (.ref CS) "sent"=some none) (aCD:cz K bL "Doing"=some (some (.ref CD))) (a39:Mn K CD "__init__" "Doing.__init__" lX f39) (a40:Mn K CD "now" "Doing.now" iE f40) (a41:Mn K CD "reckon" "Doing.reckon" eG f41) (a42:Mn K CD "queue_of" "Doing.queue_of" eC f42) (a43:Mn K CD "fill" "Doing.fill" gp f43) (pCD:Cn K CD) (nCDmachine:aV K (.ref CD) "machine"=some none) (nCDhappening:aV K (.ref CD) "happening"=some none) (nCDstate:aV K (.ref CD) "state"=some none) (nCDwritten:aV K (.ref CD) "written"=some none) (nCDoutgoing:aV K (.ref CD) "outgoing"=some none) (nCDends:aV K (.ref CD) "ends"=some none) (nCDreckoned:aV K (.ref CD) "reckoned"=some none) (nCDqueued:aV K (.ref CD) "queued"=some none) (aCB:cz K bL "Book"=some (some (.ref CB))) (a44:Mn K CB "__init__" "Book.__init__" n9 f44) (pCB:Cn K CB) (nCBrecords:aV K (.ref CB) "records"=some none) (nCBending:aV K (.ref CB) "ending"=some none) (nCBstates:aV K (.ref CB) "states"=some none) (aCC:cz K bL "Course"=some (some (.ref CC))) (a45:Mn K CC "__init__" "Course.__init__" kL f45) (a46:Mn K CC "ending_due" "Course.ending_due" fh f46) (a47:Mn K CC "do_one" "Course.do_one" gC f47) (pCC:Cn K CC) (nCCmodel:aV K (.ref CC) "model"=some none) (nCCstates:aV K (.ref CC) "states"=some none) (nCCpending:aV K (.ref CC) "pending"=some none) (nCCreached:aV K (.ref CC) "reached"=some none) (nCCstopped:aV K (.ref CC) "stopped"=some none) (aCN:cz K bL "Nought"=some (some (.ref CN))) (xCN:dD K CN pB "ValueError.__new__"=true) (aCG:cz K bL "Great"=some (some (.ref CG))) (xCG:dD K CG pB "ValueError.__new__"=true) (aCU:cz K bL "Full"=some (some (.ref CU))) (xCU:dD K CU pB "ValueError.__new__"=true) (aCY:cz K bL "Dry"=some (some (.ref CY))) (xCY:dD K CY pB "ValueError.__new__"=true) (aCP:cz K bL "Span"=some (some (.ref CP))) (xCP:dD K CP pB "ValueError.__new__"=true) (aCL:cz K bL "Late"=some (some (.ref CL))) (xCL:dD K CL pB "ValueError.__new__"=true) (aCF:cz K bL "Fault"=some (some (.ref CF))) (xCF:dD K CF pB "ValueError.__new__"=true) (enn:c5 K (.ref CN) (.ref CN)=some true) (egn:c5 K (.ref CG) (.ref CN)=some false) (egg:c5 K (.ref CG) (.ref CG)=some true) (xfCN:c5 K (.ref CN) (.ref CF)=some true) (XN100:uS K CN) (a100:Mn K CN "word" "Nought.word" kK f100) (xfCG:c5 K (.ref CG) (.ref CF)=some true) (XN101:uS K CG) (a101:Mn K CG "word" "Great.word" lW f101) (xfCU:c5 K (.ref CU) (.ref CF)=some true) (XN102:uS K CU) (a102:Mn K CU "word" "Full.word" nY f102) (xfCY:c5 K (.ref CY) (.ref CF)=some true) (XN103:uS K CY) (a103:Mn K CY "word" "Dry.word" pD f103) (xfCP:c5 K (.ref CP) (.ref CF)=some true) (XN104:uS K CP) (a104:Mn K CP "word" "Span.word" nZ f104) (xfCL:c5 K (.ref CL) (.ref CF)=some true) (XN105:uS K CL) (a105:Mn K CL "word" "Late.word" n6 f105) (zlen:cz K bL "len"=some none) (zabs:cz K bL "abs"=some none) (zisinstance:cz K bL "isinstance"=some none) (zlist:cz K bL "list"=some none) (ztuple:cz K bL "tuple"=some none) (zstr:cz K bL "str"=some none) (zint:cz K bL "int"=some none) (zbool:cz K bL "bool"=some none) (zrange:cz K bL "range"=some none) (zmax:cz K bL "max"=some none) (zdict:cz K bL "dict"=some none) (zsorted:cz K bL "sorted"=some none) (zenumerate:cz K bL "enumerate"=some none) :
    ∃ fd:bY,(∀ (s:aj) (v:ae),rL s fd ⟨[v],[]⟩ [("_law_script",v)])/\∀ base:cB,K.In base->base.Ns bL mg->bT l.prog w K mg base CX0 43 fa fd ["_law_script"] (AO K):=by
  obtain ⟨_,D1⟩:=dfx ["formula","state","now","got"] X G a1
  obtain ⟨_,D2⟩:=dfx ["formula","state","now","got"] X G a2
  obtain ⟨_,D3⟩:=dfx ["kind","first","second"] X G a3
  obtain ⟨_,D4⟩:=dfx ["kind","first","second"] X G a4
  obtain ⟨_,D5⟩:=dfx ["model","state","happening"] X G a5
  obtain ⟨_,D6⟩:=dfx ["model","state","happening"] X G a6
  obtain ⟨_,D7⟩:=dfx ["machine","sign"] X G a7
  obtain ⟨_,D8⟩:=dfx ["doing"] X G a8
  obtain ⟨_,D9⟩:=dfx ["doing","deeds"] X G a9
  obtain ⟨_,D10⟩:=dfx ["doing","deed"] X G a10
  obtain ⟨_,D11⟩:=dfx ["doing","name","formula"] X G a11
  obtain ⟨_,D12⟩:=dfx ["doing","name","box","otherwise"] X G a12
  obtain ⟨_,D13⟩:=dfx ["doing","box","formula"] X G a13
  obtain ⟨_,D14⟩:=dfx ["doing","deed"] X G a14
  obtain ⟨_,D15⟩:=dfx ["thing"] X G a15
  obtain ⟨_,D16⟩:=dfx ["model","at"] X G a16
  obtain ⟨_,D17⟩:=dfx ["falling","thing"] X G a17
  obtain ⟨_,D18⟩:=dfx ["falling","thing"] X G a18
  obtain ⟨_,D19⟩:=dfx ["signs"] X G a19
  obtain ⟨_,D20⟩:=dfx ["model","signs"] X G a20
  obtain ⟨_,D21⟩:=dfx ["course","most"] X G a21
  obtain ⟨_,D22⟩:=dfx ["model","signs","most"] X G a22
  obtain ⟨_,D23⟩:=dfx ["model","signs","records","ending"] X G a23
  obtain ⟨_,D24⟩:=dfx ["_law_script"] X G a24
  obtain ⟨_,D25⟩:=dfx ["_law_purse_here","_law_many"] X G a25
  obtain ⟨_,D26⟩:=dfx ["_law_purse_here","_law_many"] X G a26
  obtain ⟨_,D27⟩:=dfx ["_law_purse_here","_law_boxes","_law_queues","_law_most"] X G a27
  obtain ⟨_,D28⟩:=dfx ["_law_purse_here","_law_things","_law_left","_law_deep"] X G a28
  obtain ⟨_,D29⟩:=dfx ["_law_purse_here","_law_things","_law_left","_law_deep"] X G a29
  obtain ⟨_,D30⟩:=dfx ["_law_purse_here","_law_name","_law_signs","_law_many"] X G a30
  obtain ⟨_,D31⟩:=dfx ["_law_purse_here"] X G a31
  obtain ⟨_,D32⟩:=dfx ["_law_model","_law_signs","_law_records","_law_ending"] X G a32
  obtain ⟨_,D33⟩:=dfx ["_law_model","_law_signs","_law_records","_law_ending"] X G a33
  obtain ⟨_,D34⟩:=dfx ["_law_ending","_law_last"] X G a34
  obtain ⟨_,D35⟩:=dfx ["_law_script"] X G a35
  obtain ⟨_,FMI,bMI,mMI⟩:=mfx ["self","machines"] a36
  have MCM:Mk K CM _:=⟨pCM.m,mMI.at_,mMI.fn,pCM.k⟩
  obtain ⟨_,FSI,bSI,mSI⟩:=mfx ["self","boxes","queues","drawn","sent"] a37
  obtain ⟨_,FSC,bSC,mSC⟩:=mfx ["self"] a38
  have MCS:Mk K CS _:=⟨pCS.m,mSI.at_,mSI.fn,pCS.k⟩
  obtain ⟨_,FDI,bDI,mDI⟩:=mfx ["self","machine","state","happening"] a39
  obtain ⟨_,FDN,bDN,mDN⟩:=mfx ["self"] a40
  obtain ⟨_,FDR,bDR,mDR⟩:=mfx ["self","formula"] a41
  obtain ⟨_,FDQ,bDQ,mDQ⟩:=mfx ["self","name"] a42
  obtain ⟨_,FDF,bDF,mDF⟩:=mfx ["self","box","worth"] a43
  have MCD:Mk K CD _:=⟨pCD.m,mDI.at_,mDI.fn,pCD.k⟩
  obtain ⟨_,FBI,bBI,mBI⟩:=mfx ["self","records","ending","states"] a44
  have MCB:Mk K CB _:=⟨pCB.m,mBI.at_,mBI.fn,pCB.k⟩
  obtain ⟨_,FCI,bCI,mCI⟩:=mfx ["self","model","states","pending"] a45
  obtain ⟨_,FCE,bCE,mCE⟩:=mfx ["self","left"] a46
  obtain ⟨_,FCO,bCO,mCO⟩:=mfx ["self"] a47
  have MCC:Mk K CC _:=⟨pCC.m,mCI.at_,mCI.fn,pCC.k⟩
  have e:=hfa.symm.trans D35.m
  cases e
  have B:Bl mg:=⟨cT X G zlen,cT X G zabs,cT X G zisinstance,cT X G zlist,cT X G ztuple,cT X G zstr,cT X G zint,cT X G zbool,cT X G zrange,cT X G zmax,cT X G zdict⟩
  have TM:MdT K mg CM CS:=⟨pCM.c,pCS.c,nCMmachines,nCSboxes,nCSqueues,nCSdrawn,nCSsent,d6 X G aCM,d6 X G aCS⟩
  have TD:DT K mg CD:=⟨pCD.c,nCDmachine,nCDhappening,nCDstate,nCDwritten,nCDoutgoing,nCDends,nCDreckoned,nCDqueued,d6 X G aCD⟩
  have T6:Eh K mg (xh CN CG CU CY CP CL):=⟨⟨d6 X G aCN,d6 X G aCG,xCN,xCG,enn,egn,egg⟩,d6 X G aCU,d6 X G aCY,d6 X G aCP,d6 X G aCL,xCU,xCY,xCP,xCL⟩
  have MtN:Mt K CD "now" "Doing.now" iE ["self"] _ _:=⟨FDN,bDN,mDN⟩
  have MtR:Mt K CD "reckon" "Doing.reckon" eG ["self","formula"] _ _:=⟨FDR,bDR,mDR⟩
  have MtQ:Mt K CD "queue_of" "Doing.queue_of" eC ["self","name"] _ _:=⟨FDQ,bDQ,mDQ⟩
  have MtF:Mt K CD "fill" "Doing.fill" gp ["self","box","worth"] _ _:=⟨FDF,bDF,mDF⟩
  have MtC:Mt K CS "copy" "State.copy" iQ ["self"] _ _:=⟨FSC,bSC,mSC⟩
  obtain ⟨_,FW100,bW100,mW100⟩:=mfx ["self"] a100
  obtain ⟨_,FW101,bW101,mW101⟩:=mfx ["self"] a101
  obtain ⟨_,FW102,bW102,mW102⟩:=mfx ["self"] a102
  obtain ⟨_,FW103,bW103,mW103⟩:=mfx ["self"] a103
  obtain ⟨_,FW104,bW104,mW104⟩:=mfx ["self"] a104
  obtain ⟨_,FW105,bW105,mW105⟩:=mfx ["self"] a105
  have TB:BkT K mg CB:=⟨pCB.c,nCBrecords,nCBending,nCBstates,d6 X G aCB⟩
  have TC:CoT K mg CC:=⟨pCC.c,nCCmodel,nCCstates,nCCpending,nCCreached,nCCstopped,d6 X G aCC⟩
  have MtE:Mt K CC "ending_due" "Course.ending_due" fh ["self","left"] _ _:=⟨FCE,bCE,mCE⟩
  have MtO:Mt K CC "do_one" "Course.do_one" gC ["self"] _ _:=⟨FCO,bCO,mCO⟩
  have BSo:mg "sorted"=none:=cT X G zsorted
  have ME:mg "enumerate"=none:=cT X G zenumerate
  have mFa:mg "Fault"=some (.ref CF):=d6 X G aCF
  have MW:∀ e,vZ K ((xh CN CG CU CY CP CL) e) "word" ((Ay f100 f101 f102 f103 f104 f105) e):=fun e=>by cases e <;> assumption
  have XNs:∀ e,uS K ((xh CN CG CU CY CP CL) e):=fun e=>by cases e <;> assumption
  have XFs:∀ e,c5 K (.ref ((xh CN CG CU CY CP CL) e)) (.ref CF)=some true:=fun e=>by cases e <;> assumption
  have BW:∀ e,Binds K (Ay _ _ _ _ _ _ e) ["self"] []:=AQ bW100 bW101 bW102 bW103 bW104 bW105
  exact ⟨_,law_b D35.F fun _ _ _ _ _ _ _=>rfl,fun base _ _=>Ki D35 D24 D25 D31 (ok_lv D31 D26 D30 (fun sgs=>ok_lm D30 D26 D28 (fun bs qs=>AJ (kk:=9) (by decide) D28 D29 (HW D29 D28 D27 D25 B 3) D27 D25 B) D25 B) D25 B) MCM (ok_MI (n:=29) FMI D15 B TM) bMI D22 (JM D22 D20 (JJ D20 D16 (Bm D16 MCS FSI bSI B TM) D19 (Jv D19 ME) MCC bCI (ok_ci FCI TC) TC TM B BSo) D21 (JI D21 MtE (ok_ed MtE TC) MtO (JF (cf:=(xh CN CG CU CY CP CL)) (fW:=(Ay f100 f101 f102 f103 f104 f105)) (fdW:=(Ay _ _ _ _ _ _)) MtO D18 (Jx D18 D17 B) D5 (fun bq=>(Gj (n:=5) D5 D6 MCD bDI (ok_DI FDI MtC (F7 FSC MCS FSI bSI B TM) TD TM) D9 (yh D9 D10 MtF MtR (tj (cf:=(xh CN CG CU CY CP CL)) MtR MtN D1 D3 D4 D2 TD T6 TM B) D12 D11 (FV D11 MtR (tj (cf:=(xh CN CG CU CY CP CL)) MtR MtN D1 D3 D4 D2 TD T6 TM B) MtQ TD T6 TM B) D13 (En D13 MtR (tj (cf:=(xh CN CG CU CY CP CL)) MtR MtN D1 D3 D4 D2 TD T6 TM B) MtF TD T6 TM B) D14 (FX D14 MtR (tj (cf:=(xh CN CG CU CY CP CL)) MtR MtN D1 D3 D4 D2 TD T6 TM B) MtN TD T6 TM B) MtQ TD TM 5) D7 D8 TD TM B)) MW BW (AQ (zC FW100) (BB FW101) (Ez FW102) (Gr FW103) (EA FW104) (EB FW105)) XNs mFa XFs TC TM) TC B) MCB bBI (ok_bk FBI TB) TB TC) D23 D32 D33 D34 TM TB B⟩
theorem walk {l:sC} {q:aM} {loose:List Str} {XP:(Str->Option ae)->cB->Prop} {YP:bH->cB->Prop} {d:DefRec} {K:Params->af} (hn:l.most=some 63) (hdf:d.params.defaults=[])
    (hY:∀ (w:bH) (h:cB),YP w h->(K w.params).In h)
    (F:∀ (w:bH) (mg:Str->Option ae) (fa:aa) (h:cB),(K w.params).In h->h.Ns bL mg->mg d.name=some (.ref fa) ->
      ∃ fd:bY,(∀ (s:aj) (u:ae),rL s fd ⟨[u],[]⟩ [("_law_script",u)])/\∀ base:cB,(K w.params).In base->base.Ns bL mg->bT l.prog w (K w.params) mg base CX0 43 fa fd ["_law_script"] (AO (K w.params))) :
    EU q loose XP YP l.row.toRowW d [] (fun f vs=>Ba f vs):=
  L2.walk_ofB (n:=63) (k:=43) (x:="_law_script") (CX:=fun _=>CX0) (sp:=fun w=>AO (K w.params)) hn (by decide) hdf ⟨rfl,by decide,by decide⟩ hY F (fun _ _ a ns hl hb hS=>⟨a,ns,rfl,hS,hl,hb,fun _=>rfl⟩) fun _ _ _ _ _ z=>z
end My
namespace PySem.W.Fast
def tw12909747366775795391:=0
def tw3314355842627285969:=0
def tw17562960361727973290:=0
def tw10292593865241388787:=0
def tw2619445815100114973:=0
def tw2918829063109195052:=0
def tw2714354653357629314:=0
def tw15595117866014289072:=0
def tw7392372930671002856:=0
def tw6958321058266626368:=0
def tw5137012894252433057:=0
def tw17935083168961679046:=0
def tw9015973047687737002:=0
def tw5171215303330076725:=0
def tw5071073108755137731:=0
def tw2983409368028298862:=0
def tw4433023077796246696:=0
def tw3891672096485980297:=0
def tw15085663358433338461:=0
def tw222114929472166656:=0
def tw5979543293732309166:=0
def tw16390222047677354642:=0
def tw6847126477605708768:=0
def tw12966659009787442715:=0
def tw5518213603795118235:=0
def tw16603382165943475814:=0
def tw2672180605747290630:=0
def tw8767970093860561266:=0
def tw9756167189204611803:=0
def tw7665299692817779702:=0
def tw5623168945157409971:=0
def tw11692716697384792418:=0
def tw6668314008141411648:=0
def tw17460847064114351429:=0
def tw11784915118966877145:=0
def tw3007146573963335896:=0
def tw9257928536137073409:=0
def tw1249124676206770940:=0
def tw11095122472225307791:=0
def tw14578775175783226365:=0
def tw1395146072568478083:=0
def tw16397024071356428940:=0
def tw9317899741625876014:=0
def tw18378304659516346769:=0
def tw11688603974008436579:=0
def tw14218426163577374087:=0
def tw13337121678523363959:=0
def tw17027738999196698895:=0
def tw1968939342161451794:=0
def tw15430585938139431540:=0
def tw5766975877192569326:=0
def tw10152117168657464365:=0
def tw15880351302908633949:=0
def tw10572283020517155768:=0
def tw2535242093267026036:=0
def tw15667019979076780815:=0
def tw16988807628078246325:=0
def tw14273343514849188653:=0
def tw2189557158512368562:=0
def tw7933715606553615753:=0
def tw8898658972424247835:=0
def tw7433881135956565811:=0
def tw12816539725600505963:=0
def tw10520448429594665789:=0
def tw668877302514667746:=0
def tw16260304324742370260:=0
def tw702230154078855943:=0
def tw8033141413755982857:=0
def tw16127993803549874903:=0
def tw1496344207329556786:=0
def tw14033727126049297726:=0
def tw1233895523443762216:=0
def tw3929493967743840444:=0
def tw11084388389842515439:=0
def tw17352127037737152585:=0
def tw9622213006132110760:=0
def tw5936481323388504545:=0
def tw6200478069561807093:=0
def tw5547090438015899459:=0
def tw9531858386178460629:=0
def tw16535629477242876065:=0
def tw5804497404249747111:=0
def tw8488375115437686620:=0
def tw13473547237502366142:=0
def tw13334175833091321355:=0
def tw8712498778485218550:=0
def tw2347313365427319908:=0
def tw8431430021695327728:=0
def tw12653327961559860346:=0
def tw14911338703898272953:=0
def tw7228363228443372339:=0
def tw3012806025770896439:=0
def tw8311750638526751007:=0
def tw17667104814448184308:=0
def tw2305252960121669096:=0
def tw7681348650511417597:=0
def tw17054206237767544348:=0
def tw3123241733561009909:=0
def tw11987781418597010963:=0
def tw4458341182119029820:=0
def tw728049140399054504:=0
def tw866118617657320709:=0
def tw13609750842859885472:=0
def tw4909593376383253852:=0
def tw15403741620181813188:=0
def tw1906508022409790405:=0
def tw5732097009234010111:=0
def tw10571285670282224969:=0
def tw6797580574620940469:=0
def tw16469505064947055033:=0
def tw16811446160929993917:=0
def tw1007008467827083237:=0
def tw9667709052585082585:=0
def tw7750837260203644081:=0
def tw3626378004834466424:=0
def tw11418782657274961152:=0
def tw17254010801129839302:=0
def tw11289699471389291170:=0
def tw7972687820711446358:=0
def tw16881307669512949822:=0
def tw12839462617367332785:=0
def tw5953354728459407380:=0
def tw4844957679873157709:=0
def tw8690142941387880912:=0
def tw3587448919094902096:=0
def tw17100568296573860657:=0
def tw16124425547541958468:=0
def tw5966195919861112012:=0
def tw16785924190515054352:=0
def tw15634690690910886859:=0
def tw17365946671117492264:=0
def tw9405849179971136751:=0
def tw4763617922613128424:=0
def tw14367464313077565945:=0
def tw5350241760776335904:=0
def tw12939445864149371477:=0
def tw11895531379885366725:=0
def tw13726165373091009741:=0
def tw6171393612814848700:=0
def tw2061155211156700154:=0
def tw10091359570518467677:=0
def tw11353592145013771303:=0
def tw1351636834226848422:=0
def tw3473038569126106866:=0
def tw16600350079558961817:=0
def tw15408384216204864995:=0
def tw15213018652517213027:=0
def tw13675587341824337214:=0
def tw16569330513117845777:=0
def tw14963694324789826581:=0
def tw7105979257233490123:=0
def tw6944969517177490856:=0
def tw794392458338838743:=0
def tw5313235833686984584:=0
def tw12464672757686460687:=0
def tw4000163297645563773:=0
def tw5146032789665961024:=0
def tw13495913935665238756:=0
def tw6719255692498912449:=0
def tw16361764412289305707:=0
def tw2406625132731730096:=0
def tw8502022157037514263:=0
def tw1127301036357835220:=0
def tw4022004004000358141:=0
def tw3899932745589145202:=0
def tw14428979493593144498:=0
def tw12824364521425557479:=0
def tw17611830687516165443:=0
def tw11644038056109565730:=0
def tw2715053079759677507:=0
def tw6606620996330311717:=0
def tw2848516137853817448:=0
def tw16591758883363323381:=0
def tw6077564591582859541:=0
def tw3988129818165575140:=0
def tw8181226627014370662:=0
def tw15114902809395275209:=0
def tw15952825732025607952:=0
def tw14923821291038575760:=0
def tw11375054902102328833:=0
def tw8494529301029997423:=0
def tw10791627567756282797:=0
def tw12655701641056644558:=0
def tw5797590101511174857:=0
def tw18274663833117344145:=0
def tw10320966732097062932:=0
def tw14956706302890537101:=0
def tw12716710053383908361:=0
def tw1558862490718575551:=0
def tw4651573112350521870:=0
def tw16645392430360480244:=0
def tw10283447571234791354:=0
def tw3085289850517633784:=0
def tw5632044340689667091:=0
def tw4892832464273932770:=0
def tw4187113365219303457:=0
def tw10021113231595975564:=0
def tw12275467226093979988:=0
def tw12007263149810918373:=0
def tw18222219736139256018:=0
def tw2717681395134210339:=0
def tw1054320733516320554:=0
def tw15336835476626726908:=0
def tw3038752666320603833:=0
def tw12868493978473344402:=0
def tw7846529792941444245:=0
def tw11359133157547510999:=0
def tw17318162841201651090:=0
def tw5854371449874710993:=0
def tw4169907393867385544:=0
def tw16394540752781165904:=0
def tw4051892388787022046:=0
def tw13721474483875030097:=0
def tw1254547057598862709:=0
def tw10228265331393470404:=0
def tw15726812724932450036:=0
def tw1142046553787381102:=0
def tw3485767383913628524:=0
def tw10478496994487271863:=0
def tw2073472573994770229:=0
def tw4250648728325835597:=0
def tw1265994608396914710:=0
def tw2977143871515514807:=0
def tw16823825651494832980:=0
def tw11737128327586981096:=0
def tw461164101441572598:=0
def tw6107325655910042529:=0
def tw10407402092799568909:=0
def tw8050281246183392605:=0
def tw17841044212133671742:=0
def tw12348295806536241060:=0
def tw12974863205981845886:=0
def tw15283987298171577369:=0
def tw3216618860285187662:=0
def tw1188573312817050642:=0
def tw213575900214301887:=0
def tw13479772825103643708:=0
def tw6779766955342758247:=0
def tw3611668779177452793:=0
def tw14060557755414460199:=0
def tw8235033203768208242:=0
def tw12545264115704613489:=0
def tw6104417508159098930:=0
def tw11221656631596693199:=0
def tw5853028829873346850:=0
def tw12207153515571613249:=0
def tw4087716457304217454:=0
def tw12403492861149999485:=0
def tw8615542375695708202:=0
def tw7781335159908680349:=0
def tw9629611834688854321:=0
def tw1726654318299599043:=0
def tw17649480761148576321:=0
def tw3021608199403297009:=0
def tw2806637293646720583:=0
def tw13708468561897068588:=0
def tw1157876115645530456:=0
def tw14896135400959547192:=0
def tw7294423975343745225:=0
def tw6890900478532981126:=0
def tw131447709395616682:=0
def tw6715751439466329907:=0
def tw4162999422489225143:=0
def tw9001843942418883091:=0
def tw9720675653746768459:=0
def tw10730392978525517469:=0
def tw15319969783490286599:=0
def tw12037842002640924364:=0
def tw9553356210669321662:=0
def tw13671500667512883621:=0
def tw12467875154047324431:=0
def tw2187817374176869718:=0
def tw14649799430623639670:=0
def tw16546159598048795430:=0
def tw9021292310117159505:=0
def tw4214584411999007112:=0
def tw17867494831503624810:=0
def tw6116481370618191036:=0
def tw5009384132372284650:=0
def tw4735492721525001613:=0
def tw6213827213713503693:=0
def tw1639927099079436917:=0
def tw12717576938792561622:=0
def tw3921035120352716471:=0
def tw12953296773445903130:=0
def tw7229054985505605922:=0
def tw6411819742413304890:=0
def tw1888087609026901165:=0
def tw8856641652362363497:=0
def tw13406253643412495647:=0
def tw7322142814833714990:=0
def tw2749452329557687877:=0
def tw3329778663724172449:=0
def tw15569277968876171598:=0
def tw17341746105904583470:=0
def tw10192037319113866689:=0
def tw5651880050885986580:=0
def tw9642570158258053095:=0
def tw12221711588980991014:=0
def tw4293053452124289262:=0
def tw11999422398990640040:=0
def tw6632798395250774372:=0
def tw14809113354591410366:=0
def tw11895199945017120867:=0
def tw1059704793942049438:=0
def tw13516396362085516227:=0
def tw3155173341621724753:=0
def tw2879820518407216713:=0
def tw1578175396900716090:=0
def tw15437267093518071392:=0
def tw9049787220619486436:=0
def tw7660518590414548383:=0
def tw5380305669266048135:=0
def tw15372301326513585296:=0
def tw1416590971376500831:=0
def tw10658851314155327301:=0
def tw11987960827983594434:=0
def tw13991717801136080079:=0
def tw9947743157813692062:=0
def tw12042081977394126137:=0
def tw17787069510100014854:=0
def tw9577113058574890378:=0
def tw170168367140315179:=0
def tw13335047431907943125:=0
def tw17345771901697862708:=0
def tw4469090106297662301:=0
def tw10841581716326697004:=0
def tw2781275694821206257:=0
def tw11839364959620297841:=0
def tw8820268234697146539:=0
def tw1912285875474767970:=0
def tw768753931275964888:=0
def tw8743679198116299247:=0
def tw13270455455635396831:=0
def tw7429010625514005540:=0
def tw11775319923424828679:=0
def tw754742745808953875:=0
def tw9191696995887056819:=0
def tw17119455603349260053:=0
def tw8947243589434793929:=0
def tw15246177550166375210:=0
def tw14003965983428172188:=0
def tw9400291207157158417:=0
def tw1669374398637809830:=0
def tw10797794021277060300:=0
def tw16468874254655776093:=0
def tw14154309615366430662:=0
def tw2499026656500691578:=0
def tw7330231099321762514:=0
def tw16845348140941026785:=0
end PySem.W.Fast
open PySem PySem.W PyProof.Rows
set_option maxRecDepth 100000 in
set_option maxHeartbeats 0 in
theorem PySem.Challenge.cw_momentloom_k60_books_let_by_holds : PySem.Challenge.rw_momentloom_k60_books_let_by.Holds := by
  w_on; o_law; k_head; (case hw=>w_witness2)
  k_fill
  refine My.walk (l:=Kj) rfl rfl (fun w h Y=>PySem.W.kIn_of Y) ?F
  case F =>
    intro w mg fa h KX G hmg
    refine' My.all_mk KX G hmg ?a1 ?a2 ?a3 ?a4 ?a5 ?a6 ?a7 ?a8 ?a9 ?a10 ?a11 ?a12 ?a13 ?a14 ?a15 ?a16 ?a17 ?a18 ?a19 ?a20 ?a21 ?a22 ?a23 ?a24 ?a25 ?a26 ?a27 ?a28 ?a29 ?a30 ?a31 ?a32 ?a33 ?a34 ?a35 ?aCM ?a36 ?pCM ?nCMmachines ?aCS ?a37 ?a38 ?pCS ?nCSboxes ?nCSqueues ?nCSdrawn ?nCSsent ?aCD ?a39 ?a40 ?a41 ?a42 ?a43 ?pCD ?nCDmachine ?nCDhappening ?nCDstate ?nCDwritten ?nCDoutgoing ?nCDends ?nCDreckoned ?nCDqueued ?aCB ?a44 ?pCB ?nCBrecords ?nCBending ?nCBstates ?aCC ?a45 ?a46 ?a47 ?pCC ?nCCmodel ?nCCstates ?nCCpending ?nCCreached ?nCCstopped ?aCN ?xCN ?aCG ?xCG ?aCU ?xCU ?aCY ?xCY ?aCP ?xCP ?aCL ?xCL ?aCF ?xCF ?enn ?egn ?egg ?xfCN ?XN100 ?a100 ?xfCG ?XN101 ?a101 ?xfCU ?XN102 ?a102 ?xfCY ?XN103 ?a103 ?xfCP ?XN104 ?a104 ?xfCL ?XN105 ?a105 ?zlen ?zabs ?zisinstance ?zlist ?ztuple ?zstr ?zint ?zbool ?zrange ?zmax ?zdict ?zsorted ?zenumerate
    case a1 | a2 | a3 | a4 | a5 | a6 | a7 | a8 | a9 | a10 | a11 | a12 | a13 | a14 | a15 | a16 | a17 | a18 | a19 | a20 | a21 | a22 | a23 | a24 | a25 | a26 | a27 | a28 | a29 | a30 | a31 | a32 | a33 | a34 | a35=>
      refine' My.dn_i ?a ?l ?c ?k
      case a=>k_is
      case l=>k_is
      case c=>k_is
      case k=>k_is
    case aCM | aCS | aCD | aCB | aCC | aCN | aCG | aCU | aCY | aCP | aCL | aCF=>k_is
    case a36 | a37 | a38 | a39 | a40 | a41 | a42 | a43 | a44 | a45 | a46 | a47=>
      refine' My.mn_i ?a ?i ?l ?c ?k
      case a=>k_is
      case i=>k_is
      case l=>k_is
      case c=>k_is
      case k=>k_is
    case pCM | pCS | pCD | pCB | pCC=>exact ⟨⟨by k_is,by k_is,by k_is,by k_is⟩,by k_is,by k_is⟩
    case nCMmachines | nCSboxes | nCSqueues | nCSdrawn | nCSsent | nCDmachine | nCDhappening | nCDstate | nCDwritten | nCDoutgoing | nCDends | nCDreckoned | nCDqueued | nCBrecords | nCBending | nCBstates | nCCmodel | nCCstates | nCCpending | nCCreached | nCCstopped | zlen | zabs | zisinstance | zlist | ztuple | zstr | zint | zbool | zrange | zmax | zdict | zsorted | zenumerate=>k_is
    case xCN | xCG | xCU | xCY | xCP | xCL | xCF=>k_exc
    case enn | egn | egg=>kts_exm
    case xfCN | xfCG | xfCU | xfCY | xfCP | xfCL=>kts_exm
    case XN100 | XN101 | XN102 | XN103 | XN104 | XN105=>exact ⟨by k_is,by k_is,by k_is,by k_is,by k_is,by k_is,by k_is⟩
    case a100 | a101 | a102 | a103 | a104 | a105=>
      refine' My.mn_i ?a ?i ?l ?c ?k
      case a=>k_is
      case i=>k_is
      case l=>k_is
      case c=>k_is
      case k=>k_is

