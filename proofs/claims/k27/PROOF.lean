import PyProof.Rows.All
import Wide.All
import OpenK.AllK
import Wide.FinOn
import Lean
import PyProof.EqAt
import PyProof.EqKinds
import PyProof.TupleCall
import KE.KDictOf
import PyProof.AttrMissSeq
import PyProof.DictCopy
import PyProof.NeKinds
import KE.KDictSum
import PyProof.Rows.SortStr
import PyProof.Rows.SortWalk
import PyProof.ExcArgsOwn
import PyProof.NsDelKeeps
import PyProof.DictWalks
import PyProof.MinMaxWalk
import PyProof.MeetsDictList
import PyProof.DictFindH
import PyProof.DictTruth
import KE.KRevSl
import PyProof.DictItems
import PyProof.EnumMake
import PyProof.EnumFor
import PyProof.EnumStmt
import PyProof.Rows.EnumRows
import PyProof.Rows.SortRev
import PySem.Challenge.RW_momentloom_k27_runs_by_calendars_end
open PySem renaming Addr->aa,Value->ae,wpAny_bind->ag,Shared->ao,sizeLine->az,wpAny_pure->aK,Program->aO,wpAny->aS,Paired->aW,model->bb,mainGlobals->bc,World->bj,FuncData->bG,Around->bN,starEach->bU,Heap->cb,Expr->cA,wpAny_loadPart'->cP,Stmt->cR,sysModules->cU,boot_len->df,wpAny_mono->dv,cLine->dW,wpAny_holding->d7,bootBuiltins->eE,eval->eP,codeAny_builtin->eZ,compareOp->fh,mem_of_lookup->fq,wpAny_newObj_type->gD,wpAny_dictEntries->gE,backTo->gP,wpAny_Call_Name_kw->gU,Builtin->gW,wpAny_passesOwn->hU,binaryOp->hV,plainId_quiet->ig,wpAny_truthy_bool->iq,tupleKind_room_in1->iY,keywordEach->iZ,holding->jx,NameKind->jz,assignEach->jT,getMethod->jV,wpAny_call_entry->jW,behindInMarks->ke,codeAny->ki,attributeBase->kj,Scope->kl,sizeLine_eq->kr,wpAny_field->kx,sliceBounds->kA,codeAny_mono->lI,DictEntry->lZ,wpAny_tryCatch->mw,standAt->nh,foldedSetIterable->nj,valueAt->ny,wpAny_letGo->nz,backToKw->oX,rawInt->pE,call_meets->pI,wpAny_execs_nil->pP,letOwnedTupleGo->pQ,wpAny_updateSeq->pR,argBest->pS,richCompare->qO,seqIndex_of->qQ,wpAny_seqItems->qW,unbindBehindTheSuite->qZ,BindsTo->rj,getItem->rm,argBest->rA,ExceptHandler->rW,stored->sT,wpAny_pyIter_list->t9,callWith->ua,callerA->uj,atKey->uk,call_meetsIn->uq,wpAny_pyIter_slot->uv,tupleKind->vF,isTrue->vH,swapsWith->vJ,assign->vK,call->vN,wpAny_forIn_list->vR,IsPart->vT,seqIndex?->vV,subscripted->xc,Within->xj,wpAny_specialOf->xr,size_of_entries->xQ,Keyword->yG,leaving->yH,wpAny_richCompare_same_room->yJ,truthy->yM,bindArgs->yX,wpAny_call->yY,wpAny_newFunctionEnv_cells->y8,wpAny_setField->ze,wpAny_standAt->Ba,call->Bs,bindL->B6,bindC->B7,cellsFrom->B8,wpAny_callSpecial?_slot->Ca,noteFrame->Cc,wpAny_callSpecial?_none->Cg,pyNext->Cw,wpAny_pyNext_list_item->Cz,richCompare_meets_room->C6,wpAny_typeOf->C8,seqIndex_neg->Da,wpAny_isTrue_Compare1->Fs,wpAny_pyNext_list_end->Ft,codeAny_call_function->Fu,wpAny_notOrdered_dict->Fw,Model->FE,Operator->FJ,builtinsNs->IR,wpAny_Name->IT,Result->Jb,typeLookup->Je,CmpOp->Kw,wpAny_assign_Name->Kx,slot_list_getitem->Kz,MeetsIn->KC
open PySem.W renaming Frag->af,findIn->aT,nsIn->bQ,mg_none_of->cO,exmOne->cQ,excIn->cX,mg_of->dh,kia_one->dU,emptyDict->eG,fnOf->eJ,keepIn->e7,kitOne->fE,instObj->gk,methodCall_KW->gQ,callWith_K->iC,codeIn->iM,looks_findIn->jf,specialIn->kJ,plainGet->lH,isFn->mj,cellsFrom_some->mm,hideAll->mQ,lookIn->nK,plainGet_of->oW,callWith_K0->oY,methodObj->pU,hasDictIn->p0,takerIn->rH,makesIn->rJ,OpenLaw->rN,InstAt->sM,mroIn->uc,hideAll_get->yE,of_hideAll->yL,codeRec_of->yZ,plainOver->zZ,kitx_list->z6,kitx_dict->z7,handedIn->Bh,takesIn->B3,exm_one->Cf,readsIn->Cj,findCls->Ck,typeIn->CV,notCls->Dx,WalkO->Fx
open List renaming mem_cons_of_mem->aj,mem_cons->ak,mem_singleton->au,length_map->av,getElem?_eq_some_iff->aw,size_toArray->aA,length_append->aB,getElem?_eq_getElem->aC,mem_cons_self->aJ,length_cons->aL,mem_of_getElem?->aM,mem_append->aU,mem_append_right->aV,not_mem_nil->aX,lookup_cons_self->aZ,map_append->ba,getElem?_map->bf,nodup_cons->bh,mem_map->bH,getElem?_of_mem->bY,replicate->b7,lookup_cons->cg,length_nil->cy,map_cons->cC,length_take->cN,append_nil->cW,nodup_nil->dj,getElem?_append_right->dD,append_assoc->dQ,mem_append_left->d9,length_eq_zero_iff->eA,take_length->eC,getElem?_set_self->eQ,take_add_one->eT,map_map->gv,pairwise_append->gy,length_singleton->gT,nodup_append->g9,getElem?_set_ne->ie,dropLast_subset->ij,filter_cons->ir,getElem?_append_left->iu,mem_filter->iG,find?_cons->iH,pairwise_cons->iK,length_replicate->jh,length_filter_le->jm,getElem?_eq_none->jo,perm_append_comm->jv,length_drop->jw,lookup->jC,getElem?_mapIdx->jE,eq_nil_of_length_eq_zero->jF,map_congr_left->j4,range->kF,zip_cons_cons->kK,length_mapIdx->kY,getElem?_replicate->mU,filter_cons_of_neg->mZ,length_pos_of_mem->nA,of_mem_zip->nN,nil_append->oB,take_append_drop->oR,take_zero->pD,filterMap_cons->pO,length_pos_iff->pT,mem_filterMap->qD,map_nil->rn,all_eq_true->r9,length->sP,foldl_cons->tZ,mem_range->uB,getElem?_zip_eq_some->wc,drop_eq_getElem_cons->wI,getLast?_eq_none_iff->wJ,pairwise_iff_getElem->wK,any_cons->xf,length_erase_of_mem->xg,getElem?_cons_zero->xP,filter_cons_of_pos->yb,pairwise_singleton->yg,take_of_length_le->yK,contains_iff_mem->zw,eq_nil_or_concat->zF,length_eraseIdx->Aq,mem_of_mem_drop->Av,mem_of_mem_take->Aw,mem_erase_of_ne->AB,getLast?_concat->AL,length_dropLast->AR,filter_eq_self->Bv,map_eq_nil_iff->BQ,zip_nil_right->B9,getElem?_drop->Cd,filter_append->Cm,take_sublist->C3,zip_nil_left->C5,pairwise_map->EW,any_eq_true->Fv,drop_length->Fy,cons_append->FA,perm_middle->FB,length_set->FY,length_zip->GH,drop_zero->Ic,perm_cons->IJ,map_take->JQ
open Nat renaming le_refl->aE,ne_of_lt->aR,lt_of_lt_of_le->aY,lt_of_le_of_lt->bz,zero_le->bA,le_trans->cv,succ_le_succ->dM,lt_irrefl->fX,not_lt_zero->iJ,le_succ->lY,lt_succ_self->m5,le_of_lt->nF,ne_of_gt->nI,lt_trans->nX,lt_or_ge->nZ,add_le_add_left->p9,add_sub_cancel->qX,lt_succ_of_lt->rL,lt_of_succ_lt_succ->zi,succ_pos->zu,sub_self->zC,lt_trichotomy->FC,le_add_right->Hk
open PySem.Heap renaming get?_push_of_some->aI,lt_size->aQ,get?_push_size->bX,get?_update_other->b9,get?_update_self->gi,size_push->kH,SameBut->ng,MadeExcOf->Ib
open Bool renaming false_ne_true->bE,and_eq_true->fY,false_eq_true->kP,eq_iff_iff->nJ,and_eq_true_iff->pA,noConfusion->rV,eq_false_iff->DE,true_and->Jo,not_true->Jr
open PySem.Paired renaming length->bJ,snoc->fb
open PySem.F renaming plainAttrs_list->bM,slot_list_append->cI,type_list_append->cJ,slot_list_pop->m7,type_list_pop->m8,args_tuple_add_2->uf,entry_tuple_add->uO,plainAttrs_dict->va,slot_dict_items->vd,slot_tuple_add->vS
open Option.some renaming inj->b5
open Ne renaming symm->cj
open False renaming elim->cV
open PySem.PassesOwn renaming never->dB
open List.Perm renaming refl->dO
open PySem.Around renaming under_plainId->d6,under->xb
open PySem.Builtin.Int renaming intBits->eB
open PyProof.Rows renaming IntsAre->fA,callWith_type1->gG,slot_tuple_getitem->iD,AllBare->m9,envOfC->qN,IsTup->t5,Constant_none->A9,subscriptTail->Bm,isTrue_plain->Cq,floordiv_int->CI,subscriptTail_builtinR->Dc,Subscript_->Jf
open Int renaming emod_lt_of_pos->gj,emod_nonneg->gx,toNat_natCast->l8,fdiv_eq_ediv_of_nonneg->vO,mul_one->Bd,mul_nonneg->Kj,mul_le_mul->Kk
open Array renaming length_toList->gC,getElem?_eq_some_iff->kB,toList->IU
open Option renaming map_eq_some_iff->gI,isSome_map->lA,getD_none->Cb
open PySem.Builtin.Slice renaming slicePlaces->gS,sliceAdjust->jA,sliceApplied->p6
open PySem.Builtin.Tuple renaming tupleExact->gX,tupleCompareSizes->oM
open PySem.Str renaming ofString->iX
open Sum.inr renaming inj->je
open PySem.Builtin.List renaming listTooLong->jM,listFitsIndex->qF
open PySem.W.WData renaming weight->jZ,weightAll->sY
open PySem.Obj renaming mapSeq->lz,mapFields->qE,data_mapFields->qU,isFreed_of_fields->Ae,data_mapDictKeys->Bw
open PySem.Calls renaming callWith_builtin->m6,evalArgs_plain->oZ,Name_function_global->t8,spliced_cons->Bk,spliced_nil->B5
open PySem.Builtin.Builtins renaming bindParams->o8
open Function renaming comp->pe
open PySem.Builtin.Dict renaming dictSlotArgs->qY,updateFrom->rM,pairItems->rX,samePairs->rZ
open PySem.AutoSeq1 renaming sub_tuple_tuple->tY,list_insert_list_int_val_1->KD
open PyProof renaming noPylong_of_log2->uo
open PySem.Heap.SameBut renaming update->uu
open List.Pairwise renaming imp->vz
open PySem.EntryCells renaming newEntry->vZ
open PySem.Code renaming isFrame->yF,quiet_builtin->Ce
open PySem.Heap.DictOf renaming new->yI
open PyProof.Rows.IsTup renaming new->C9
open PySem.Value renaming isStrOf->HV,isInt->Kv
open Std.Legacy.Range renaming forIn_eq_forIn_range'->Ig,size->Ih
open PySem.Challenge renaming rw_momentloom_k27_runs_by_calendars_end->Ku
open PySem.Heap.IsSliceOf renaming new->Ky
open PySem.W.WShape renaming has->KA
open PySem.Heap.UpToSlots renaming of_keeps->KB
-- CHANGE: your row's module here, as the last of these rows
set_option Elab.async false
set_option linter.all false
set_option maxRecDepth 100000
namespace L2
open PySem PySem.Spec PyProof.Rows
abbrev Key:=Sum Int Str
def uA:Key->ae->Bool
  | .inl k,v=>Kv k v
  | .inr x,v=>HV x v
def keyH (w:bj):Key->Int
  | .inl k=>hashInt k
  | .inr x=>hashStr w x
theorem fx:∀ {k:Key} {v:ae},uA k v=true->(∃ i t,k=Sum.inl i/\v=Value.int i t)\/(∃ x t,k=Sum.inr x/\v=Value.str x t)
  | .inl i,v,h=>by
    obtain ⟨t,e⟩:=Value.isInt_shape (k:=i) (v:=v) h
    exact .inl ⟨i,t,rfl,e⟩
  | .inr x,v,h=>by
    obtain ⟨t,e⟩:=Value.isStrOf_shape (x:=x) (v:=v) h
    exact .inr ⟨x,t,rfl,e⟩
theorem A6 (i:Int) (t:Tok):uA (.inl i) (.int i t)=true:=by simp [uA,Kv]
theorem A7 (x:Str) (t:Tok):uA (.inr x) (.str x t)=true:=by simp [uA,HV]
theorem IL (a b:Int):decide ((Sum.inl a:Key)=Sum.inl b)=(a == b):=by
  by_cases e:a=b
  · subst e; simp
  · have h:¬ (Sum.inl a:Key)=Sum.inl b:=fun q=>e (Sum.inl.inj q)
    rw [decide_eq_false h]
    exact (beq_eq_false_iff_ne.mpr e).symm
theorem IM (a b:Str):decide ((Sum.inr a:Key)=Sum.inr b)=decide (a=b):=by
  by_cases e:a=b
  · subst e; simp
  · have h:¬ (Sum.inr a:Key)=Sum.inr b:=fun q=>e (je q)
    rw [decide_eq_false h,decide_eq_false e]
theorem IP (a:Int) (b:Str):decide ((Sum.inl a:Key)=Sum.inr b)=false:=decide_eq_false (fun q=>nomatch q)
theorem IQ (a:Str) (b:Int):decide ((Sum.inr a:Key)=Sum.inl b)=false:=decide_eq_false (fun q=>nomatch q)
def eU (prog:aO) (w:bj):PySem.KeyKind prog w Key where
  is:=uA
  hash:=keyH w
  inj:=fun v a b ha hb=>by
    rcases fx ha with ⟨i,t,rfl,rfl⟩ | ⟨x,t,rfl,rfl⟩
    · rcases fx hb with ⟨j,u,rfl,e⟩ | ⟨y,u,rfl,e⟩
      · injection e with e1 _; rw [e1]
      · exact nomatch e
    · rcases fx hb with ⟨j,u,rfl,e⟩ | ⟨y,u,rfl,e⟩
      · exact nomatch e
      · injection e with e1 _; rw [e1]
  byValue:=fun k v h=>by
    rcases fx h with ⟨i,t,rfl,rfl⟩ | ⟨x,t,rfl,rfl⟩ <;> rfl
  pyHash:=fun hv h=>by
    rcases fx hv with ⟨i,t,rfl,rfl⟩ | ⟨x,t,rfl,rfl⟩
    · exact wpAny_pyHash_int h
    · exact wpAny_pyHash_str h
  eqBool:=fun hu hv h=>by
    rcases fx hu with ⟨i,t,rfl,rfl⟩ | ⟨x,t,rfl,rfl⟩
    · rcases fx hv with ⟨j,u,rfl,rfl⟩ | ⟨y,u,rfl,rfl⟩
      · rw [IL] at h; exact wpAny_eqBool_int h
      · rw [IP] at h; exact SeqAt.EqAt.int_str i t y u _ _ _ _ h
    · rcases fx hv with ⟨j,u,rfl,rfl⟩ | ⟨y,u,rfl,rfl⟩
      · rw [IQ] at h; exact SeqAt.EqAt.str_int x t j u _ _ _ _ h
      · rw [IM] at h; exact wpAny_eqBool_str h
  «strs»:=fun k x t v h=>by
    rcases fx h with ⟨i,u,rfl,e⟩ | ⟨y,u,rfl,e⟩
    · exact nomatch e
    · injection e with e1 _
      subst e1
      cases v <;> rfl
theorem xh (prog:aO) (w:bj) (i:Int) (t:Tok):(eU prog w).is (.inl i) (.int i t)=true:=A6 i t
theorem xi (prog:aO) (w:bj) (x:Str) (t:Tok):(eU prog w).is (.inr x) (.str x t)=true:=A7 x t
end L2
namespace L2
open PySem PySem.Spec PyProof.Rows
inductive V where
  | non | bl (b:Bool) | int (i:Int) | str (x:Str) | byt (b:Array UInt8) | flt (b:UInt64) | ref (a:aa) | ty (n:String)
  deriving DecidableEq
def RelV:V->ae->Prop
  | .non,u=>u=Value.none
  | .bl b,u=>u=Value.bool b
  | .int i,u=>∃ t,u=Value.int i t
  | .str x,u=>∃ t,u=Value.str x t
  | .byt b,u=>∃ t,u=Value.bytes b t
  | .flt b,u=>∃ t,u=Value.float b t
  | .ref a,u=>u=Value.ref a
  | .ty n,u=>u=Value.type n
abbrev cY:List V->List ae->Prop:=aW RelV
theorem cY.length {xs:List V} {us:List ae} (r:cY xs us):xs.length=us.length:=bJ r
theorem cY.get:∀ {xs:List V} {us:List ae} {i:Nat} {x:V},cY xs us->xs[i]?=some x->∃ u,us[i]?=some u/\RelV x u
  | _,_,_,_,.nil,e=>by simp at e
  | _,_,0,_,.cons r _,e=>by simp at e; subst e; exact ⟨_,rfl,r⟩
  | _,_,i + 1,x,.cons _ t,e=>by
    obtain ⟨u,h1,h2⟩:=cY.get (i:=i) (x:=x) t (by simpa using e)
    exact ⟨u,by simpa using h1,h2⟩
theorem cY.set {x:V} {u:ae} (r:RelV x u):∀ {xs:List V} {us:List ae} (i:Nat),cY xs us->cY (xs.set i x) (us.set i u)
  | _,_,_,.nil=>.nil
  | _,_,0,.cons _ t=>.cons r t
  | _,_,i + 1,.cons q t=>.cons q (cY.set r i t)
theorem cY.append:∀ {xs ys:List V} {us ws:List ae},cY xs us->cY ys ws->cY (xs++ys) (us++ws)
  | _,_,_,_,.nil,s=>s
  | _,_,_,_,.cons r t,s=>.cons r (cY.append t s)
theorem cY.take:∀ {xs:List V} {us:List ae} (n:Nat),cY xs us->cY (xs.take n) (us.take n)
  | _,_,0,_=>.nil
  | _,_,_ + 1,.nil=>.nil
  | _,_,n + 1,.cons r t=>.cons r (cY.take n t)
theorem cY.drop:∀ {xs:List V} {us:List ae} (n:Nat),cY xs us->cY (xs.drop n) (us.drop n)
  | _,_,0,r=>r
  | _,_,_ + 1,.nil=>.nil
  | _,_,n + 1,.cons _ t=>cY.drop n t
def nC:Option V->Option ae->Prop
  | some v,some u=>RelV v u
  | none,none=>True
  | _,_=>False
def KV {κ:Type}:List (κ×V)->List (κ×ae)->Prop:=aW fun (p:κ×V) (q:κ×ae)=>p.1=q.1/\RelV p.2 q.2
def kV:Key->V
  | .inl i=>.int i
  | .inr x=>.str x
inductive HO where
  /-- a list -/
  | lst (xs:List V)
  /-- a tuple (never changes) -/
  | tup (xs:List V)
  /-- a dict whose keys are ints and texts; one whose keys are tuples of ints and texts (the empty one is both) -/
  | dK (kvs:List (Key×V)) | dT (kvs:List (List Key×V))
  /-- a set of ints: its members, its size -/
  | set (S:Int->Bool) (n:Nat)
  /-- an instance of the class at C, its dict at dx, its attributes -/
  | ins (C dx:aa) (fs:List (Str×V))
  /-- the dict of the instance at x -/
  | own (x:aa)
  /-- the dict of an exception -/
  | xd (fs:List (Str×V))
  /-- a bound method, f of x -/
  | met (f x:aa)
  /-- a range object lo, lo + 1, .. below hi -/
  | rng (lo hi:Int)
  /-- a thing that is known to the object (the script; a dict while a loop walks it): read, never written while it is so -/
  | frz (o:Obj) (u:HO)
  /-- a code object's table -/
  | tbl (ps:Array ae)
  /-- any other thing, by what is true of its one object (a def of one's own: SetO a S n := HO.ext fun h => ..) -/
  | ext (φ:cb->Prop)
abbrev Hp:=aa->Option HO
def upd (H:Hp) (a:aa) (o:HO):Hp:=fun b=>if b=a then some o else H b
theorem ah {H:Hp} {a:aa} {o:HO}:upd H a o a=some o:=by unfold upd; rw [if_pos rfl]
theorem aG {H:Hp} {a b:aa} {o:HO} (h:b≠a):upd H a o b=H b:=by unfold upd; rw [if_neg h]
theorem zT {H:Hp} {a:aa} {o u:HO}:upd (upd H a o) a u=upd H a u:=by
  funext b; unfold upd; split <;> rfl
theorem fc {H:Hp} {a b:aa} {o u:HO} (h:H a=some o) (h':H b=some u) (d:o≠u):a≠b:=by
  intro e; subst e; rw [h] at h'; exact d (b5 h')
theorem aN {H:Hp} {a b:aa} {o:HO} (h:H a=some o) (h':H b=none):a≠b:=by
  intro e; subst e; rw [h] at h'; cases h'
section
variable (P:aO) (w:bj)
def dI (H:Hp) (h:cb) (a:aa):HO->Prop
  | .lst xs=>xs.length<=az/\∃ (its:List ae) (n:Nat),cY xs its/\h.get? a=some {cls:=.type "list",data:=.seq its.toArray n}
  | .tup xs=>xs.length<=az/\∃ its:List ae,cY xs its/\t5 h a its.toArray
  | .dK kvs=>kvs.length<=az/\(a == cU)=false/\∃ vs,KV kvs vs/\h.DictOf (eU P w) a vs
  | .dT kvs=>kvs.length<=az/\(a == cU)=false/\∃ xs:List (List Key×aa×ae),
      aW (fun (p:List Key×V) (q:List Key×aa×ae)=>p.1=q.1/\H q.2.1=some (.tup (p.1.map kV))/\RelV p.2 q.2.2) kvs xs /\
      ∃ o es ep,h.get? a=some o/\o.ExactDict/\o.data=.dict es ep/\es.toList=xs.map (entryOfKey (vF (eU P w)))/\(xs.map (·.1)).Nodup
  | .set S n=>h.SetOf (intKind P w) a S n
  | .ins C dx fs=>H dx=some (.own a)/\fs.length<=1000/\dx≠a/\h.get? a=some (gk C dx) /\
      ∃ mA,h.Ns1 dx mA/\(∀ f,nC (fs.lookup f) (mA f))/\xj mA (fs.map (·.1))
  | .own _=>∃ o,h.get? a=some o
  | .xd fs=>∃ mA,h.Ns1 a mA/\∀ f,nC (fs.lookup f) (mA f)
  | .rng lo hi=>∃ t u v,h.get? a=some {cls:=.type "range",data:=.fields #[.int lo t,.int hi u,.int 1 v]}
  | .frz o u=>h.get? a=some o/\dI H h a u
  | .tbl ps=>h.get? a=some {cls:=.none,data:=.fields ps}
  | .met f x=>h.get? a=some (pU (.ref f) (.ref x))
  | .ext φ=>φ h/\(∃ o,h.get? a=some o)/\∀ h1 h2:cb,φ h1->(∀ o,h1.get? a=some o->h2.get? a=some o)->φ h2
def HOk (H:Hp) (h:cb):Prop:=∀ a o,H a=some o->dI P w H h a o
end
section
variable {P:aO} {w:bj} {H H':Hp} {h h':cb} {a:aa} {o:HO}
theorem dI.lt (x:dI P w H h a o):a < h.objs.size:=by
  cases o with
  | lst xs=>obtain ⟨_,_,_,_,e⟩:=x; exact aQ e
  | tup xs=>obtain ⟨_,_,_,p⟩:=x; exact p.lt
  | dK kvs=>obtain ⟨_,_,_,_,o,_,_,e,_⟩:=x; exact aQ e
  | dT kvs=>obtain ⟨_,_,_,_,o,_,_,e,_⟩:=x; exact aQ e
  | set S n=>obtain ⟨o,_,_,_,e,_⟩:=x; exact aQ e
  | ins C dx fs=>obtain ⟨_,_,_,e,_⟩:=x; exact aQ e
  | own y=>obtain ⟨_,e⟩:=x; exact aQ e
  | xd fs=>obtain ⟨_,⟨_,_,_,e,_⟩,_⟩:=x; exact aQ e
  | rng lo hi=>obtain ⟨_,_,_,e⟩:=x; exact aQ e
  | frz ob u=>obtain ⟨e,_⟩:=x; exact aQ e
  | tbl ps=>exact aQ (show h.get? a=some _ from x)
  | met f y=>exact aQ (show h.get? a=some _ from x)
  | ext φ=>obtain ⟨_,⟨_,e⟩,_⟩:=x; exact aQ e
theorem Paired.mapP {α β:Type} {F G:α->β->Prop}:∀ {l₁:List α} {l₂:List β},aW F l₁ l₂->(∀ a b,F a b->G a b)->aW G l₁ l₂
  | _,_,.nil,_=>.nil
  | _,_,.cons r t,f=>.cons (f _ _ r) (Paired.mapP t f)
theorem Paired.imp' {α β:Type} {F G:α->β->Prop} (f:∀ a b,F a b->G a b) {l₁:List α} {l₂:List β} (r:aW F l₁ l₂):aW G l₁ l₂:=Paired.mapP r f
theorem dI.stay (x:dI P w H h a o) (k:∀ b u,(b=a\/H b=some (.own a))->h.get? b=some u->h'.get? b=some u)
    (ho:∀ b,H b=some (.own a)->H' b=some (.own a)) (ht:∀ b xs,H b=some (.tup xs)->H' b=some (.tup xs)):dI P w H' h' a o:=by
  induction o with
  | lst xs=>obtain ⟨z,its,n,r,e⟩:=x; exact ⟨z,its,n,r,k _ _ (.inl rfl) e⟩
  | tup xs=>obtain ⟨z,its,r,ob,e,c⟩:=x; exact ⟨z,its,r,ob,k _ _ (.inl rfl) e,c⟩
  | dK kvs=>obtain ⟨z,y,vs,r,ob,es,ep,e,c⟩:=x; exact ⟨z,y,vs,r,ob,es,ep,k _ _ (.inl rfl) e,c⟩
  | dT kvs =>
    obtain ⟨z,y,xs,r,ob,es,ep,e,c⟩:=x
    exact ⟨z,y,xs,Paired.mapP r fun p q z=>⟨z.1,ht _ _ z.2.1,z.2.2⟩,ob,es,ep,k _ _ (.inl rfl) e,c⟩
  | set S n=>obtain ⟨ob,es,ep,t,e,c⟩:=x; exact ⟨ob,es,ep,t,k _ _ (.inl rfl) e,c⟩
  | ins C dx fs =>
    obtain ⟨d,z,ne,e,mA,⟨od,es,ep,e2,c⟩,r⟩:=x
    exact ⟨ho _ d,z,ne,k _ _ (.inl rfl) e,mA,⟨od,es,ep,k _ _ (.inr d) e2,c⟩,r⟩
  | own y=>obtain ⟨ob,e⟩:=x; exact ⟨ob,k _ _ (.inl rfl) e⟩
  | xd fs=>obtain ⟨mA,⟨od,es,ep,e,c⟩,r⟩:=x; exact ⟨mA,⟨od,es,ep,k _ _ (.inl rfl) e,c⟩,r⟩
  | rng lo hi=>obtain ⟨t,u,v,e⟩:=x; exact ⟨t,u,v,k _ _ (.inl rfl) e⟩
  | frz ob u ih=>obtain ⟨e,q⟩:=x; exact ⟨k _ _ (.inl rfl) e,ih q⟩
  | tbl ps =>
    have e:h.get? a=some {cls:=.none,data:=.fields ps}:=x
    show h'.get? a=some {cls:=.none,data:=.fields ps}
    exact k a _ (.inl rfl) e
  | met f y =>
    have e:h.get? a=some (pU (.ref f) (.ref y)):=x
    show h'.get? a=some (pU (.ref f) (.ref y))
    exact k a _ (.inl rfl) e
  | ext φ=>obtain ⟨p,⟨o,e⟩,st⟩:=x; exact ⟨st _ _ p fun o q=>k _ _ (.inl rfl) q,⟨o,k _ _ (.inl rfl) e⟩,st⟩
theorem HOk.lt (x:HOk P w H h) (e:H a=some o):a < h.objs.size:=(x a o e).lt
theorem HOk.fresh (x:HOk P w H h) (e:h.objs.size<=a):H a=none:=by
  cases q:H a with
  | none=>rfl
  | some u=>exact absurd (aY (x.lt q) e) (fX _)
theorem HOk.kept (x:HOk P w H h) (k:∀ b u,h.get? b=some u->h'.get? b=some u):HOk P w H h':=fun a o e =>
  (x a o e).stay (fun b u _ q=>k b u q) (fun _ q=>q) fun _ _ q=>q
theorem HOk.laid (x:HOk P w H h) (k:∀ b u,h.get? b=some u->h'.get? b=some u) (hp:h.objs.size<=a) (new:dI P w (upd H a o) h' a o):HOk P w (upd H a o) h':=fun b u e=>by
  have hn:=x.fresh hp
  by_cases hb:b=a
  · subst hb; rw [ah] at e; cases e; exact new
  · rw [aG hb] at e
    exact (x b u e).stay (fun c v _ q=>k c v q) (fun c q=>by rw [aG (aN q hn)]; exact q) fun c xs q=>by rw [aG (aN q hn)]; exact q
end
def Rd (H:Hp) (a:aa) (u:HO):Prop:=H a=some u\/∃ o,H a=some (.frz o u)
theorem Rd.ok {P:aO} {w:bj} {H:Hp} {h:cb} {a:aa} {u:HO} (r:Rd H a u) (x:HOk P w H h):dI P w H h a u:=by
  rcases r with r | ⟨o,r⟩
  · exact x a u r
  · obtain ⟨_,q⟩:=x a _ r
    exact q
def Mut:Option HO->Prop
  | some (.lst _)=>True
  | some (.dK _)=>True
  | some (.dT _)=>True
  | some (.set _ _)=>True
  | some (.ins _ _ _)=>True
  | some (.ext _)=>True
  | _=>False
section
variable {P:aO} {w:bj} {H:Hp} {h h':cb} {x e:aa} {o':HO}
theorem HOk.write (ok:HOk P w H h) (mu:Mut (H x)) (he:e=x\/H e=some (.own x)) (k:∀ b u,b≠e->h.get? b=some u->h'.get? b=some u) (heo:∃ u,h'.get? e=some u)
    (new:dI P w (upd H x o') h' x o'):HOk P w (upd H x o') h':=fun b u q=>by
  have nown:∀ c y,H c=some (.own y)->c≠x:=fun c y r z=>by subst z; rw [r] at mu; exact mu
  have ntup:∀ c xs,H c=some (.tup xs)->c≠x:=fun c xs r z=>by subst z; rw [r] at mu; exact mu
  by_cases hb:b=x
  · subst hb; rw [ah] at q; cases q; exact new
  · rw [aG hb] at q
    by_cases hbe:b=e
    · have q':H b=some (.own x):=by
        rcases he with z | z
        · exact absurd (hbe.trans z) hb
        · rw [hbe]; exact z
      rw [q] at q'; cases q'
      obtain ⟨v,hv⟩:=heo
      exact ⟨v,by rw [hbe]; exact hv⟩
    · refine (ok b u q).stay (fun c v hc r=>k c v ?_ r) (fun c r=>by rw [aG (nown c b r)]; exact r) fun c xs r=>by rw [aG (ntup c xs r)]; exact r
      rcases hc with rfl | hc
      · exact hbe
      · rintro rfl
        rcases he with z | z
        · exact nown c b hc z
        · rw [hc] at z; cases z; exact hb rfl
end
structure Un (fs ex:List aa) (H H':Hp) (h h':cb):Prop where
  keep:∀ b o,h.get? b=some o->H b=none->b∉fs->b∉ex->h'.get? b=some o
  slot:∀ b o,h.get? b=some o->H b=none->b∈fs->b∉ex->∃ sl,h'.get? b=some {o with slots:=sl}
  free:∀ b o,h.get? b=some o->H b=none->b∉ex->H' b=none
  there:∀ b o,h.get? b=some o->b∉ex->∃ o',h'.get? b=some o'
  tups:∀ b xs,H b=some (.tup xs)->H' b=some (.tup xs)
  frzs:∀ b o u,H b=some (.frz o u)->H' b=some (.frz o u)
  tbls:∀ b ps,H b=some (.tbl ps)->∃ more,H' b=some (.tbl (ps++more))
section
variable {fs fs' ex ex':List aa} {H H1 H2:Hp} {h h1 h2 h':cb} {a x e:aa} {o:HO}
theorem Un.any (u:Un fs ex H H1 h h1) {b:aa} {ob:Obj} (q:h.get? b=some ob) (n:H b=none) (hx:b∉ex):∃ sl,h1.get? b=some {ob with slots:=sl}:=by
  by_cases hb:b∈fs
  · exact u.slot b ob q n hb hx
  · exact ⟨ob.slots,u.keep b ob q n hb hx⟩
theorem Un.kept (k:∀ b u,h.get? b=some u->h'.get? b=some u):Un fs ex H H h h':=
  ⟨fun b ob q _ _ _=>k b ob q,fun b ob q _ _ _=>⟨ob.slots,k b ob q⟩,fun _ _ _ n _=>n,fun b ob q _=>⟨ob,k b ob q⟩,fun _ _ q=>q,fun _ _ _ q=>q,fun _ ps q=>⟨#[],by rw [q]; simp⟩⟩
theorem Un.refl:Un fs ex H H h h:=Un.kept fun _ _ q=>q
theorem Un.laid (k:∀ b u,h.get? b=some u->h'.get? b=some u) (hp:h.objs.size<=a) (hn:H a=none):Un fs ex H (upd H a o) h h' where
  keep:=fun b u q _ _ _=>k b u q
  slot:=fun b u q _ _ _=>⟨u.slots,k b u q⟩
  free:=fun b u q n _=>by rw [aG (aR (aY (aQ q) hp))]; exact n
  there:=fun b u q _=>⟨u,k b u q⟩
  tups:=fun b xs q=>by rw [aG (aN q hn)]; exact q
  frzs:=fun b u xs q=>by rw [aG (aN q hn)]; exact q
  tbls:=fun b ps q=>⟨#[],by rw [aG (aN q hn),q]; simp⟩
theorem Un.write (mu:Mut (H x)) (he:e=x\/H e=some (.own x)) (k:∀ b u,b≠e->h.get? b=some u->h'.get? b=some u) (heo:∃ u,h'.get? e=some u):Un fs ex H (upd H x o) h h':=by
  have hx:∀ b,H b=none->b≠x:=fun b n z=>by subst z; rw [n] at mu; exact mu
  have hb:∀ b,H b=none->b≠e:=fun b n z=>by
    subst z
    rcases he with r | r
    · exact hx b n r
    · rw [n] at r; cases r
  have hm:∀ b u,H b=some u->¬ Mut (some u)->b≠x:=fun b u q nm z=>by subst z; rw [q] at mu; exact nm mu
  refine ⟨fun b u q n _ _=>k b u (hb b n) q,fun b u q n _ _=>⟨u.slots,k b u (hb b n) q⟩,fun b u q n _=>by rw [aG (hx b n)]; exact n,fun b u q _=>?_,
    fun b xs q=>by rw [aG (hm b _ q fun z=>z)]; exact q,fun b u xs q=>by rw [aG (hm b _ q fun z=>z)]; exact q,fun b ps q=>⟨#[],by rw [aG (hm b _ q fun z=>z),q]; simp⟩⟩
  by_cases hbe:b=e
  · subst hbe; exact heo
  · exact ⟨u,k b u hbe q⟩
end
def trk (h:cb) (H:Hp):List aa:=(kF h.objs.size).filter fun a=>(H a).isSome
def vG (h:cb) (H:Hp):cb:=mQ h (trk h H)
theorem A8 (h:cb) (H:Hp):(vG h H).objs.size=h.objs.size:=PySem.W.hideAll_size _ _
theorem Co {h:cb} {H:Hp} {b:aa} {o:Obj} (e:h.get? b=some o) (n:H b=none):(vG h H).get? b=some o:=
  yE _ e fun hm=>by
    have q:(H b).isSome=true:=(iG.mp hm).2
    rw [n] at q; simp at q
theorem FD {h:cb} {H:Hp} {b:aa} {o:Obj} (e:(vG h H).get? b=some o):h.get? b=some o/\H b=none:=by
  have e':h.get? b=some o:=yL (trk h H) e
  refine ⟨e',?_⟩
  cases q:H b with
  | none=>rfl
  | some x =>
    have hm:b∈trk h H:=iG.mpr ⟨uB.mpr (aQ e'),by simp [q]⟩
    have z:(vG h H).get? b=none:=PySem.W.hideAll_none (trk h H) hm
    rw [z] at e; cases e
end L2
namespace L2
open PySem PySem.Spec PyProof.Rows
structure Mod (K:af) (mg:Str->Option ae) (base:cb):Prop where
  kin:K.In base
  glob:base.Ns bc mg
  blt:∃ mb,base.Ns IR mb/\∀ x:Str,x≠"__name__"->mb x=eE x
  nolimit:base.NoLimit
structure Cx where
  prog:aO
  w:bj
  K:af
  mg:Str->Option ae
  base:cb
  A:bN
  N:List Str
  s₀:ao
  H₀:Hp
  env:Env
  outer:List Env
  stack:List Env
  ex:List aa
  fn:Str->Bool
  calm:Bool
  pn:List (aa×Obj)
  xe:ae->ao->Prop
def frs (l:List Env):List aa:=l.filterMap (·.frame)
abbrev Cx.fs (X:Cx):List aa:=frs X.outer
def Vis (sc:kl) (x:Str):Prop:=sc.names.lookup x=some .local\/sc.names.lookup x=some .cell\/sc.names.lookup x=some .free
def Loc (sc:kl) (x:Str):Prop:=sc.names.lookup x=some .local\/sc.names.lookup x=some .cell
def Look (env:Env) (h:cb) (m:Str->Option ae) (x:Str) (u:ae):Prop:=
  (env.kindOf x=some .local/\m x=some u)\/((env.kindOf x=some .cell\/env.kindOf x=some .free)/\∃ c,env.cells.lookup x=some c/\h.IsCell c (some u))
structure Cx.Ok (X:Cx):Prop where
  mod:Mod X.K X.mg X.base
  kind:X.env.scope.kind=.function
  glob:X.env.globals=bc
  blt:X.env.builtins=IR
  above:X.s₀.heap.objs.size<=X.env.locals
  inj:∀ x y c,X.env.cells.lookup x=some c->X.env.cells.lookup y=some c->x=y
  has:∀ x,(X.env.kindOf x=some .cell\/X.env.kindOf x=some .free)->∃ c,X.env.cells.lookup x=some c
  cab:∀ x c,X.fn x=true->X.env.cells.lookup x=some c->X.s₀.heap.objs.size<=c
  hd:X.calm=true->X.A.handled=none
  frames:X.A.frames=some X.stack
  stk:X.stack=X.outer\/(X.stack=X.env :: X.outer/\X.env.frame=some X.env.locals)
  exf:∀ b∈X.ex,b≠X.env.locals/\∀ x c,X.env.cells.lookup x=some c->c≠b
  bs:∀ b o,X.base.get? b=some o->X.s₀.heap.get? b=some o/\X.H₀ b=none
  bsz:X.base.objs.size<=X.s₀.heap.objs.size
  noex:∀ b o,X.base.get? b=some o->b∉X.ex
  exfs:∀ b∈X.ex,b∉X.fs
  funs:X.s₀.heap.FunFrames X.base X.outer
  frf:∀ b∈X.fs,X.H₀ b=none
structure Inv (X:Cx) (pins:List (aa×Obj)) (σ:List (Option V)) (H:Hp) (s:ao):Prop where
  ok:X.Ok
  os:s.os=X.s₀.os
  bare:m9 s.gens
  base:Un X.fs X.ex X.H₀ H X.s₀.heap s.heap
  loc:∃ m,s.heap.Ns X.env.locals m/\∀ (i:Nat) (x:Str) (v:V),X.N[i]?=some x->σ[i]?=some (some v)->Vis X.env.scope x->∃ u,RelV v u/\Look X.env s.heap m x u
  cell:∀ x c,X.env.cells.lookup x=some c->∃ v,s.heap.IsCell c v
  free:H X.env.locals=none
  freeC:∀ x c,X.env.cells.lookup x=some c->H c=none
  pin:∀ p∈X.pn++pins,s.heap.get? p.1=some p.2/\H p.1=none/\p.1≠X.env.locals/\p.1∉X.fs/\∀ v,p.2.data≠.cell v
  hok:HOk X.prog X.w H s.heap
  len:σ.length=X.N.length
section
variable {X:Cx} {pins:List (aa×Obj)} {σ:List (Option V)} {H H':Hp} {s:ao} {h':cb}
theorem Cx.Ok.nofr (ok:X.Ok) {b:aa} {o:Obj} (e:X.base.get? b=some o):b∉X.fs:=fun hb=>by
  have:=(ok.funs.mem hb).1
  rw [e] at this; cases this
theorem Inv.bs (I:Inv X pins σ H s):∀ b o,X.base.get? b=some o->s.heap.get? b=some o/\H b=none:=fun b o e =>
  ⟨I.base.keep b o (I.ok.bs b o e).1 (I.ok.bs b o e).2 (I.ok.nofr e) (I.ok.noex b o e),I.base.free b o (I.ok.bs b o e).1 (I.ok.bs b o e).2 (I.ok.noex b o e)⟩
theorem Inv.bk (I:Inv X pins σ H s):∀ b o,X.base.get? b=some o->s.heap.get? b=some o:=fun b o e=>(I.bs b o e).1
theorem Inv.mod (I:Inv X pins σ H s):Mod X.K X.mg X.base:=I.ok.mod
theorem Inv.kIn (I:Inv X pins σ H s):X.K.In s.heap:=I.ok.mod.kin.keeps I.bk
theorem Inv.fr (I:Inv X pins σ H s):∃ m,Fr X.base X.env.locals s.heap m:=
  let ⟨m,hn,_⟩:=I.loc
  ⟨m,hn,I.bk,cv I.ok.bsz I.ok.above⟩
theorem Inv.lt (I:Inv X pins σ H s):X.env.locals < s.heap.objs.size:=let ⟨_,hn,_⟩:=I.loc; hn.lt
theorem Inv.sz (I:Inv X pins σ H s):X.s₀.heap.objs.size<=s.heap.objs.size:=cv I.ok.above (nF I.lt)
theorem Inv.nofs (I:Inv X pins σ H s) {a:aa} (h:s.heap.objs.size<=a):a∉X.fs:=fun hb=>by
  obtain ⟨_,o,ho,_⟩:=I.ok.funs.mem hb
  exact absurd (aY (aQ ho) (cv I.sz h)) (fX _)
theorem Inv.cne (I:Inv X pins σ H s):∀ x c,X.env.cells.lookup x=some c->c≠X.env.locals:=fun x c e z=>by
  obtain ⟨v,o,ho,hd⟩:=I.cell x c e
  obtain ⟨m,⟨o',es,ep,ho',hd',_⟩,_⟩:=I.loc
  rw [z,ho'] at ho; cases ho; rw [hd'] at hd; cases hd
theorem Inv.funs (I:Inv X pins σ H s):s.heap.FunFrames X.base X.outer:=by
  have all:∀ (l:List Env),(∀ b∈frs l,b∈X.fs)->X.s₀.heap.FunFrames X.base l->s.heap.FunFrames X.base l:=by
    intro l
    induction l with
    | nil=>intro _ _; trivial
    | cons env r ih =>
      intro hs hl
      obtain ⟨hk,⟨L,o,hf,hn,ho,hd⟩,hr⟩:=hl
      have hL:L∈X.fs:=hs L (by unfold frs; rw [pO,hf]; exact aJ)
      obtain ⟨sl,e⟩:=I.base.slot L o ho (I.ok.frf L hL) hL fun z=>I.ok.exfs L z hL
      exact ⟨hk,⟨L,_,hf,hn,e,hd⟩,ih (fun b hb=>hs b (by unfold frs; rw [pO,hf]; exact aj _ hb)) hr⟩
  exact all X.outer (fun _ hb=>hb) I.ok.funs
theorem Inv.stack (I:Inv X pins σ H s):s.heap.FunFrames X.base X.stack:=by
  rcases I.ok.stk with e | ⟨e,hf⟩
  · rw [e]; exact I.funs
  · rw [e]
    obtain ⟨m,hn,_⟩:=I.loc
    refine .cons (by rw [I.ok.kind]; decide) hf hn ?_ I.funs
    exact Heap.get?_none_of_le (cv I.ok.bsz I.ok.above)
theorem Inv.stkSub (I:Inv X pins σ H s):∀ b∈frs X.stack,b∈X.env.locals :: X.fs:=fun b hb=>by
  rcases I.ok.stk with e | ⟨e,hf⟩
  · rw [e] at hb; exact aj _ hb
  · rw [e] at hb
    unfold frs at hb
    rw [pO,hf] at hb
    exact hb
theorem Inv.stkFree (I:Inv X pins σ H s):∀ b∈frs X.stack,H b=none:=fun b hb=>by
  rcases ak.mp (I.stkSub b hb) with e | hb
  · rw [e]; exact I.free
  · obtain ⟨_,o,ho,_⟩:=I.ok.funs.mem hb
    exact I.base.free b o ho (I.ok.frf b hb) fun z=>I.ok.exfs b z hb
theorem Inv.step {g':Array GenState} {t':Nat} {d':Drawn} {ch:List aa} (I:Inv X pins σ H s)
    (hch:∀ b∈ch,(b∈X.ex\/X.s₀.heap.objs.size<=b)/\b≠X.env.locals/\(∀ x c,X.env.cells.lookup x=some c->c≠b)/\∀ p∈X.pn++pins,p.1≠b)
    (keep:∀ b o,b≠X.env.locals->b∉X.fs->b∉ch->s.heap.get? b=some o->H b=none->h'.get? b=some o)
    (slot:∀ b o,b≠X.env.locals->b∈X.fs->b∉ch->s.heap.get? b=some o->H b=none->∃ sl,h'.get? b=some {o with slots:=sl}) (free:∀ b o,b∉ch->s.heap.get? b=some o->H b=none->H' b=none)
    (there:∀ b o,b∉ch->s.heap.get? b=some o->∃ o',h'.get? b=some o')
    (tups:∀ b xs,H b=some (.tup xs)->H' b=some (.tup xs)) (frzs:∀ b o u,H b=some (.frz o u)->H' b=some (.frz o u)) (tbls:∀ b ps,H b=some (.tbl ps)->∃ more,H' b=some (.tbl (ps++more)))
    (ns:∀ m,s.heap.Ns X.env.locals m->h'.Ns X.env.locals m) (hok:HOk X.prog X.w H' h') (hg:m9 g') :
    Inv X pins σ H' {s with heap:=h',gens:=g',drawn:=d',toks:=t'}:=by
  have neL:∀ b o,X.s₀.heap.get? b=some o->b≠X.env.locals:=fun b o e=>aR (aY (aQ e) I.ok.above)
  have neC:∀ b o,X.s₀.heap.get? b=some o->b∉X.ex->b∉ch:=fun b o e hx hb=>by
    rcases (hch b hb).1 with z | z
    · exact hx z
    · exact absurd (aY (aQ e) z) (fX _)
  have cellK:∀ x c,X.env.cells.lookup x=some c->∀ v,s.heap.IsCell c v->h'.IsCell c v:=fun x c e v ⟨o,ho,hd⟩=>by
    have nch:c∉ch:=fun z=>(hch c z).2.2.1 x c e rfl
    by_cases hc:c∈X.fs
    · obtain ⟨sl,q⟩:=slot c o (I.cne x c e) hc nch ho (I.freeC x c e)
      exact ⟨_,q,hd⟩
    · exact ⟨o,keep c o (I.cne x c e) hc nch ho (I.freeC x c e),hd⟩
  refine ⟨I.ok,I.os,hg,⟨fun b o e n hb hx=>?_,fun b o e n hb hx=>?_,fun b o e n hx=>?_,fun b o e hx=>?_,fun b xs e=>tups b xs (I.base.tups b xs e),fun b o xs e=>frzs b o xs (I.base.frzs b o xs e),fun b ps e=>?_⟩,?_,fun x c e=>?_,?_,fun x c e=>?_,fun p hp=>?_,hok,I.len⟩
  · exact keep b o (neL b o e) hb (neC b o e hx) (I.base.keep b o e n hb hx) (I.base.free b o e n hx)
  · obtain ⟨sl,e1⟩:=I.base.slot b o e n hb hx
    obtain ⟨sl',e2⟩:=slot b _ (neL b o e) hb (neC b o e hx) e1 (I.base.free b o e n hx)
    exact ⟨sl',e2⟩
  · obtain ⟨o',e1⟩:=I.base.there b o e hx
    exact free b o' (neC b o e hx) e1 (I.base.free b o e n hx)
  · obtain ⟨o',e1⟩:=I.base.there b o e hx
    exact there b o' (neC b o e hx) e1
  · obtain ⟨m1,e1⟩:=I.base.tbls b ps e
    obtain ⟨m2,e2⟩:=tbls b _ e1
    exact ⟨m1++m2,by rw [e2,Array.append_assoc]⟩
  · obtain ⟨m,hn,hl⟩:=I.loc
    refine ⟨m,ns m hn,fun i x v e1 e2 e3=>?_⟩
    obtain ⟨u,r,l⟩:=hl i x v e1 e2 e3
    refine ⟨u,r,?_⟩
    rcases l with l | ⟨k,c,e,z⟩
    · exact .inl l
    · exact .inr ⟨k,c,e,cellK x c e _ z⟩
  · obtain ⟨v,z⟩:=I.cell x c e
    exact ⟨v,cellK x c e v z⟩
  · obtain ⟨m,⟨o,_,_,ho,_⟩,_⟩:=I.loc
    exact free _ o (fun z=>(hch _ z).2.1 rfl) ho I.free
  · obtain ⟨v,o,ho,hd⟩:=I.cell x c e
    exact free c o (fun z=>(hch c z).2.2.1 x c e rfl) ho (I.freeC x c e)
  · obtain ⟨e,n,ne,nf,d⟩:=I.pin p hp
    have nch:p.1∉ch:=fun z=>(hch p.1 z).2.2.2 p hp rfl
    exact ⟨keep p.1 p.2 ne nf nch e n,free p.1 p.2 nch e n,ne,nf,d⟩
theorem Inv.un {t':Nat} (I:Inv X pins σ H s) (u:Un X.fs [] H H' s.heap h') (hok:HOk X.prog X.w H' h'):Inv X pins σ H' {s with heap:=h',toks:=t'}:=by
  obtain ⟨m,⟨o,es,ep,ho,r⟩,_⟩:=id I.loc
  obtain ⟨sl,hL⟩:=u.any ho I.free (by simp)
  exact I.step (g':=s.gens) (d':=s.drawn) (ch:=[]) (fun _ z=>nomatch z) (fun b o _ hb _ e n=>u.keep b o e n hb (by simp)) (fun b o _ hb _ e n=>u.slot b o e n hb (by simp)) (fun b o _ e n=>u.free b o e n (by simp)) (fun b o _ e=>u.there b o e (by simp)) u.tups u.frzs u.tbls (fun m' hm=>by
    obtain ⟨o',es',ep',ho',r'⟩:=hm
    rw [ho] at ho'; cases ho'
    exact ⟨_,es',ep',hL,r'⟩) hok I.bare
theorem Inv.call {g':Array GenState} {t':Nat} {d':Drawn} {ch:List aa} (I:Inv X pins σ H s) (u:Un (frs X.stack) ch H H' s.heap h') (hok:HOk X.prog X.w H' h') (hg:m9 g')
    (hch:∀ b∈ch,(b∈X.ex\/X.s₀.heap.objs.size<=b)/\b≠X.env.locals/\(∀ x c,X.env.cells.lookup x=some c->c≠b)/\∀ p∈X.pn++pins,p.1≠b) :
    Inv X pins σ H' {s with heap:=h',gens:=g',drawn:=d',toks:=t'}:=by
  obtain ⟨m,⟨o,es,ep,ho,r⟩,_⟩:=id I.loc
  obtain ⟨sl,hL⟩:=u.any ho I.free fun z=>(hch _ z).2.1 rfl
  exact I.step (ch:=ch) hch (fun b o hL hb hc e n=>u.keep b o e n (fun z=>(ak.mp (I.stkSub b z)).elim hL hb) hc) (fun b o _ _ hc e n=>u.any e n hc) (fun b o hc e n=>u.free b o e n hc) (fun b o hc e=>u.there b o e hc) u.tups u.frzs u.tbls (fun m' hm=>by
    obtain ⟨o',es',ep',ho',r'⟩:=hm
    rw [ho] at ho'; cases ho'
    exact ⟨_,es',ep',hL,r'⟩) hok hg
theorem Inv.turned {t':Nat} {it:aa} (I:Inv X pins σ H s) (k:∀ b o,b≠it->s.heap.get? b=some o->h'.get? b=some o) (hn:H it=none) (hL:it≠X.env.locals)
    (h1:it∈X.ex\/X.s₀.heap.objs.size<=it) (h2:∀ x c,X.env.cells.lookup x=some c->c≠it) (h3:∀ p∈X.pn++pins,p.1≠it):Inv X pins σ H {s with heap:=h',toks:=t'}:=by
  have nit:∀ b u,H b=some u->b≠it:=fun b u e z=>by rw [z,hn] at e; cases e
  refine I.step (g':=s.gens) (d':=s.drawn) (ch:=[it]) (fun b hb=>?_) (fun b o _ _ hc e _=>k b o (fun z=>hc (by simp [z])) e) (fun b o _ _ hc e _=>⟨o.slots,k b o (fun z=>hc (by simp [z])) e⟩) (fun _ _ _ _ n=>n)
    (fun b o hc e=>⟨o,k b o (fun z=>hc (by simp [z])) e⟩) (fun _ _ e=>e) (fun _ _ _ e=>e) (fun b ps e=>⟨#[],by rw [e]; simp⟩) (fun m hm=>?_) (fun b u e=>?_) I.bare
  · have e:b=it:=by simpa using hb
    subst e
    exact ⟨h1,hL,h2,h3⟩
  · obtain ⟨o,es,ep,ho,r⟩:=hm
    exact ⟨o,es,ep,k _ o (cj hL) ho,r⟩
  · refine (I.hok b u e).stay (fun c v hc q=>k c v ?_ q) (fun _ q=>q) fun _ _ q=>q
    rcases hc with z | z
    · rw [z]; exact nit b u e
    · exact nit c _ z
theorem Inv.tok (I:Inv X pins σ H s) (t:Nat):Inv X pins σ H {s with toks:=t}:=I.un (h':=s.heap) (t':=t) Un.refl I.hok
theorem Inv.kept {t':Nat} (I:Inv X pins σ H s) (k:∀ b u,s.heap.get? b=some u->h'.get? b=some u):Inv X pins σ H {s with heap:=h',toks:=t'}:=I.un (Un.kept k) (I.hok.kept k)
theorem Inv.laid {a:aa} {o:HO} {t':Nat} (I:Inv X pins σ H s) (k:∀ b u,s.heap.get? b=some u->h'.get? b=some u) (hp:s.heap.objs.size<=a) (new:dI X.prog X.w (upd H a o) h' a o) :
    Inv X pins σ (upd H a o) {s with heap:=h',toks:=t'}:=I.un (Un.laid k hp (I.hok.fresh hp)) (I.hok.laid k hp new)
theorem Inv.write {x e:aa} {o:HO} {t':Nat} (I:Inv X pins σ H s) (mu:Mut (H x)) (he:e=x\/H e=some (.own x)) (k:∀ b u,b≠e->s.heap.get? b=some u->h'.get? b=some u) (heo:∃ u,h'.get? e=some u)
    (new:dI X.prog X.w (upd H x o) h' x o):Inv X pins σ (upd H x o) {s with heap:=h',toks:=t'}:=I.un (Un.write mu he k heo) (I.hok.write mu he k heo new)
theorem Inv.weak {σ':List (Option V)} (I:Inv X pins σ H s) (hl:σ'.length=σ.length) (w:∀ (i:Nat) v,σ'[i]?=some (some v)->σ[i]?=some (some v)):Inv X pins σ' H s:=
  ⟨I.ok,I.os,I.bare,I.base,let ⟨m,hn,hl'⟩:=I.loc; ⟨m,hn,fun i x v e1 e2 e3=>hl' i x v e1 (w i v e2) e3⟩,I.cell,I.free,I.freeC,I.pin,I.hok,hl.trans I.len⟩
theorem Inv.pins_of {pins':List (aa×Obj)} (I:Inv X pins σ H s) (h:∀ p∈pins',s.heap.get? p.1=some p.2/\H p.1=none/\p.1≠X.env.locals/\p.1∉X.fs/\∀ v,p.2.data≠.cell v):Inv X pins' σ H s:=
  ⟨I.ok,I.os,I.bare,I.base,I.loc,I.cell,I.free,I.freeC,fun p hp=>(aU.mp hp).elim (fun z=>I.pin p (d9 _ z)) (h p),I.hok,I.len⟩
theorem sj {N:List Str} (hN:N.Nodup) {i j:Nat} {x:Str} (a:N[i]?=some x) (b:N[j]?=some x):i=j:=by
  obtain ⟨h1,e1⟩:=aw.mp a
  obtain ⟨h2,e2⟩:=aw.mp b
  exact (List.getElem_inj hN).mp (e1.trans e2.symm)
theorem uC {M:FE} {A:bN} {E:ae->ao->Prop} {i:Nat} {x:Str} {v:V} {u:ae} {Q:Unit->ao->Prop} (I:Inv X pins σ H s) (hN:X.N.Nodup) (hi:X.N[i]?=some x) (hx:Loc X.env.scope x) (r:RelV v u)
    (h:∀ s',Inv X pins (σ.set i (some v)) H s'->(∃ a,ng a s.heap s'.heap/\(a=X.env.locals\/X.env.cells.lookup x=some a))->Q () s') (hf:X.fn x=true\/X.env.scope.names.lookup x=some .local:=by first | exact .inl rfl | exact .inr rfl | assumption):aS M A (storeName X.env x u) Q E s:=by
  obtain ⟨m,hn,hl⟩:=id I.loc
  have hcls:(X.env.scope.kind == .class || (X.env.scope.kind == .module && X.env.locals != X.env.globals))=false:=by rw [I.ok.kind]; rfl
  have hiσ:i < σ.length:=by rw [I.len]; exact (aw.mp hi).1
  have cne:=I.cne
  have tracked:∀ {a:aa} {h':cb},(∃ o,s.heap.get? a=some o/\H a=none)->ng a s.heap h'->HOk X.prog X.w H h':=fun {a h'} ha hs b ob e=>by
    obtain ⟨_,_,hfree⟩:=ha
    refine (I.hok b ob e).stay (fun c w' hc q=>(hs.2 c ?_).trans q) (fun _ q=>q) fun _ _ q=>q
    rintro rfl
    rcases hc with rfl | hc
    · rw [hfree] at e; cases e
    · rw [hfree] at hc; cases hc
  rcases hx with hk | hk
  · refine wpAny_storeName_local hk hn (fun h' hn' hs=>?_) hcls
    obtain ⟨oL,_,_,hoL,_⟩:=id hn
    refine h _ ⟨I.ok,I.os,I.bare,⟨fun b o e n hb hx=>?_,fun b o e n hb hx=>?_,I.base.free,fun b o e hx=>?_,I.base.tups,I.base.frzs,I.base.tbls⟩,⟨_,hn',fun j y v' e1 e2 e3=>?_⟩,fun y c e=>?_,I.free,I.freeC,fun p hp=>?_,tracked ⟨oL,hoL,I.free⟩ hs,by simpa using I.len⟩ ⟨_,hs,.inl rfl⟩
    · exact (hs.2 b (aR (aY (aQ e) I.ok.above))).trans (I.base.keep b o e n hb hx)
    · obtain ⟨sl,e1⟩:=I.base.slot b o e n hb hx
      exact ⟨sl,(hs.2 b (aR (aY (aQ e) I.ok.above))).trans e1⟩
    · obtain ⟨o',e1⟩:=I.base.there b o e hx
      exact ⟨o',(hs.2 b (aR (aY (aQ e) I.ok.above))).trans e1⟩
    · by_cases hj:j=i
      · subst hj
        rw [hi] at e1; cases e1
        rw [eQ hiσ] at e2
        cases e2
        exact ⟨u,r,.inl ⟨hk,by simp⟩⟩
      · rw [ie (cj hj)] at e2
        obtain ⟨u',r',q⟩:=hl j y v' e1 e2 e3
        refine ⟨u',r',?_⟩
        rcases q with ⟨k,e⟩ | ⟨k,c,e,z⟩
        · refine .inl ⟨k,?_⟩
          have:y≠x:=fun e=>hj (sj hN e1 (e ▸ hi))
          simp [this,e]
        · exact .inr ⟨k,c,e,z.sameBut hs (cne y c e)⟩
    · obtain ⟨w',z⟩:=I.cell y c e
      exact ⟨w',z.sameBut hs (cne y c e)⟩
    · obtain ⟨e,n,ne,nf,d⟩:=I.pin p hp
      exact ⟨(hs.2 p.1 ne).trans e,n,ne,nf,d⟩
  · have hfn:X.fn x=true:=by
      rcases hf with z | z
      · exact z
      · rw [z] at hk; cases hk
    obtain ⟨c,hc⟩:=I.ok.has x (.inl hk)
    obtain ⟨w',z⟩:=I.cell x c hc
    refine wpAny_storeName_cell I.ok.kind hk hc z (fun h' hc' hs=>?_)
    obtain ⟨oc,hoc,hocd⟩:=id z
    refine h {s with heap:=h'} ⟨I.ok,I.os,I.bare,⟨fun b o e n hb hx=>?_,fun b o e n hb hx=>?_,I.base.free,fun b o e hx=>?_,I.base.tups,I.base.frzs,I.base.tbls⟩,⟨m,hn.sameBut hs (cj (cne x c hc)),fun j y v' e1 e2 e3=>?_⟩,fun y c' e=>?_,I.free,I.freeC,fun p hp=>?_,tracked ⟨oc,hoc,I.freeC x c hc⟩ hs,by simpa using I.len⟩ ⟨c,hs,.inr hc⟩
    · exact (hs.2 b (aR (aY (aQ e) (I.ok.cab x c hfn hc)))).trans (I.base.keep b o e n hb hx)
    · obtain ⟨sl,e1⟩:=I.base.slot b o e n hb hx
      exact ⟨sl,(hs.2 b (aR (aY (aQ e) (I.ok.cab x c hfn hc)))).trans e1⟩
    · obtain ⟨o',e1⟩:=I.base.there b o e hx
      exact ⟨o',(hs.2 b (aR (aY (aQ e) (I.ok.cab x c hfn hc)))).trans e1⟩
    · by_cases hj:j=i
      · subst hj
        rw [hi] at e1; cases e1
        rw [eQ hiσ] at e2
        cases e2
        exact ⟨u,r,.inr ⟨.inl hk,c,hc,hc'⟩⟩
      · rw [ie (cj hj)] at e2
        obtain ⟨u',r',q⟩:=hl j y v' e1 e2 e3
        refine ⟨u',r',?_⟩
        rcases q with q | ⟨k,c',e,z'⟩
        · exact .inl q
        · refine .inr ⟨k,c',e,z'.sameBut hs ?_⟩
          rintro rfl
          exact hj (sj hN e1 (I.ok.inj _ _ _ e hc ▸ hi))
    · by_cases hcc:c'=c
      · subst hcc; exact ⟨_,hc'⟩
      · obtain ⟨w2,z2⟩:=I.cell y c' e
        exact ⟨w2,z2.sameBut hs hcc⟩
    · obtain ⟨e,n,ne,nf,d⟩:=I.pin p hp
      refine ⟨(hs.2 p.1 ?_).trans e,n,ne,nf,d⟩
      intro q
      rw [q,hoc] at e
      have q':oc=p.2:=b5 e
      exact d w' (by rw [<- q']; exact hocd)
theorem pV {M:FE} {A:bN} {E:ae->ao->Prop} {i:Nat} {x:Str} {v:V} {u:ae} {Q:Unit->ao->Prop} (I:Inv X pins σ H s) (hN:X.N.Nodup) (hi:X.N[i]?=some x) (hx:Loc X.env.scope x) (r:RelV v u)
    (h:∀ s',Inv X pins (σ.set i (some v)) H s'->Q () s') (hf:X.fn x=true\/X.env.scope.names.lookup x=some .local:=by first | exact .inl rfl | exact .inr rfl | assumption):aS M A (storeName X.env x u) Q E s:=
  uC I hN hi hx r (fun s' I' _=>h s' I') hf
theorem Inv.call' {s':ao} {ch:List aa} (I:Inv X pins σ H s) (ho:s'.os=s.os) (u:Un (frs X.stack) ch H H' s.heap s'.heap) (hok:HOk X.prog X.w H' s'.heap) (hg:m9 s'.gens)
    (hch:∀ b∈ch,(b∈X.ex\/X.s₀.heap.objs.size<=b)/\b≠X.env.locals/\(∀ x c,X.env.cells.lookup x=some c->c≠b)/\∀ p∈X.pn++pins,p.1≠b):Inv X pins σ H' s':=by
  obtain ⟨h',g',d',t',o'⟩:=s'
  have e:o'=s.os:=ho
  subst e
  exact I.call (g':=g') (t':=t') (d':=d') u hok hg hch
end
abbrev XK:=ae->Option aa->Hp->Prop
abbrev St:=List (Option V)
abbrev VK:=V->Hp->Prop
abbrev TE:=St->Hp->VK->Prop
abbrev TT:=St->Hp->(Bool->Hp->Prop)->Prop
abbrev TA:=St->Hp->(List V->Hp->Prop)->Prop
structure jS where
  nx:St->Hp->Prop
  rt:VK
  bk:St->Hp->Prop:=fun _ _=>False
  ct:St->Hp->Prop:=fun _ _=>False
abbrev TS:=jS->St->Hp->Prop
def EP (X:Cx) (pins:List (aa×Obj)) (σ:St) (Q:VK) (u:ae) (s':ao):Prop:=∃ v H',Inv X pins σ H' s'/\RelV v u/\Q v H'
def TP (X:Cx) (pins:List (aa×Obj)) (σ:St) (Q:Bool->Hp->Prop) (b:Bool) (s':ao):Prop:=∃ H',Inv X pins σ H' s'/\Q b H'
def AP (X:Cx) (pins:List (aa×Obj)) (σ:St) (Q:List V->Hp->Prop) (us:List ae) (s':ao):Prop:=∃ vs H',Inv X pins σ H' s'/\cY vs us/\Q vs H'
def SP (X:Cx) (pins:List (aa×Obj)) (D:jS) (f:Flow) (s':ao):Prop:=
  match f with
  | .next=>∃ σ' H',Inv X pins σ' H' s'/\D.nx σ' H'
  | .brk=>∃ σ' H',Inv X pins σ' H' s'/\D.bk σ' H'
  | .cont=>∃ σ' H',Inv X pins σ' H' s'/\D.ct σ' H'
  | .ret u=>∃ v σ' H',Inv X pins σ' H' s'/\RelV v u/\D.rt v H'
def PE (X:Cx) (e:cA) (t:TE):Prop:=
  ∀ (pins:List (aa×Obj)) (s:ao) (σ:St) (H:Hp) (Q:VK),Inv X pins σ H s->t σ H Q->aS (bb X.prog X.w) X.A (eP e X.env) (EP X pins σ Q) X.xe s
def PT (X:Cx) (e:cA) (t:TT):Prop:=
  ∀ (pins:List (aa×Obj)) (s:ao) (σ:St) (H:Hp) (Q:Bool->Hp->Prop),Inv X pins σ H s->t σ H Q->aS (bb X.prog X.w) X.A (vH e X.env (eP e X.env)) (TP X pins σ Q) X.xe s
def PW (X:Cx) (e:cA) (t:TT):Prop:=
  ∀ (whole:Sem ae) (pins:List (aa×Obj)) (s:ao) (σ:St) (H:Hp) (Q:Bool->Hp->Prop),Inv X pins σ H s->t σ H Q->aS (bb X.prog X.w) X.A (vH e X.env whole) (TP X pins σ Q) X.xe s
theorem PW.pt {X:Cx} {e:cA} {t:TT} (h:PW X e t):PT X e t:=h _
def PA (X:Cx) (es:List cA) (t:TA):Prop:=
  ∀ (pos:Pos) (pins:List (aa×Obj)) (s:ao) (σ:St) (H:Hp) (Q:List V->Hp->Prop),Inv X pins σ H s->t σ H Q->aS (bb X.prog X.w) X.A (spliced (gP pos (bU es X.env))) (AP X pins σ Q) X.xe s
def PS (X:Cx) (st:cR) (t:TS):Prop:=
  ∀ (pins:List (aa×Obj)) (s:ao) (σ:St) (H:Hp) (D:jS),Inv X pins σ H s->t D σ H->aS (bb X.prog X.w) X.A (exec st X.env) (SP X pins D) X.xe s
def PSs (X:Cx) (st:List cR) (t:TS):Prop:=
  ∀ (pins:List (aa×Obj)) (s:ao) (σ:St) (H:Hp) (D:jS),Inv X pins σ H s->t D σ H->aS (bb X.prog X.w) X.A (execs st X.env) (SP X pins D) X.xe s
theorem thn {α:Type} {t:Sem α} {Q Q':α->ao->Prop} {M:FE} {A:bN} {E:ae->ao->Prop} {s:ao} (h:aS M A t Q E s) (hQ:∀ a s,Q a s->Q' a s):aS M A t Q' E s:=dv h hQ fun _ _ x=>x
end L2
namespace L2
open PySem PySem.Spec PyProof.Rows
section
variable {X:Cx}
theorem bin {a b:cA} {ta tb:TE} (ha:PE X a ta) (hb:PE X b tb) {pins:List (aa×Obj)} {s:ao} {σ:St} {H:Hp} {R:V->V->Hp->Prop} (I:Inv X pins σ H s) (h:ta σ H fun x H1=>tb σ H1 fun y H2=>R x y H2)
    {α:Type} {Q:α->ao->Prop} {f:ae->ae->Sem α}
    (hf:∀ v u s2 x y H2,Inv X pins σ H2 s2->RelV x v->RelV y u->R x y H2->aS (bb X.prog X.w) X.A (f v u) Q X.xe s2) :
    aS (bb X.prog X.w) X.A (eP a X.env) (fun v s₁=>aS (bb X.prog X.w) X.A (eP b X.env) (fun u s₂=>aS (bb X.prog X.w) X.A (f v u) Q X.xe s₂) X.xe s₁) X.xe s:=by
  refine thn (ha pins s σ H _ I h) fun v s1 ⟨x,H1,I1,r1,q1⟩=>?_
  refine thn (hb pins s1 σ H1 _ I1 q1) fun u s2 ⟨y,H2,I2,r2,q2⟩=>?_
  exact hf v u s2 x y H2 I2 r1 r2 q2
def t7 (i:Nat):TE:=fun σ H Q=>∃ v,σ[i]?=some (some v)/\Q v H
def tC (v:V):TE:=fun _ H Q=>Q v H
theorem IS {i:Nat} {x:Str} {pos:Pos} (hN:X.N[i]?=some x) (hv:Vis X.env.scope x) (hd:(x == ("__debug__":Str))=false:=by decide) (hcd:(x == ("__classdict__":Str))=false:=by decide):PE X (.Name x pos) (t7 i):=by
  intro pins s σ H Q I h
  obtain ⟨v,e,h⟩:=h
  obtain ⟨m,hn,hl⟩:=I.loc
  obtain ⟨u,r,l⟩:=hl i x v hN e hv
  have fin:EP X pins σ Q u s:=⟨v,H,I,r,h⟩
  rcases l with ⟨hk,hm⟩ | ⟨hk,c,hc,hcell⟩
  · exact IT (wpAny_loadName_local I.ok.kind hk hn hm fin) hd
  · rcases hk with hk | hk
    · exact IT (wpAny_loadName_cell I.ok.kind hk hc hcell fin) hd
    · exact IT (wpAny_loadName_free I.ok.kind hk hc hcell fin hcd) hd
theorem aD {i j pos}:PE X (.Constant (.int i) j pos) (tC (.int i)):=fun _ _ _ H _ I h=>wpAny_Constant_int ⟨.int i,H,I.tok _,⟨_,rfl⟩,h⟩
theorem pW {b j pos}:PE X (.Constant (.bool b) j pos) (tC (.bl b)):=fun _ _ _ H _ I h=>Constant_bool ⟨.bl b,H,I,rfl,h⟩
theorem l9 {j pos}:PE X (.Constant .none j pos) (tC .non):=fun _ _ _ H _ I h=>A9 ⟨.non,H,I,rfl,h⟩
theorem bC {x j pos}:PE X (.Constant (.str x) j pos) (tC (.str x)):=fun _ _ _ H _ I h=>Calls.Constant_str ⟨.str x,H,I.tok _,⟨_,rfl⟩,h⟩
def Gl (X:Cx) (x:Str):Prop:=X.env.kindOf x=some .globalImplicit
theorem md {E:ae->ao->Prop} {pins:List (aa×Obj)} {s:ao} {σ:St} {H:Hp} {x:Str} {u:ae} {pos:Pos} {Q:ae->ao->Prop} (I:Inv X pins σ H s) (hg:Gl X x) (hm:X.mg x=some u) (h:Q u s)
    (hd:(x == ("__debug__":Str))=false:=by decide):aS (bb X.prog X.w) X.A (eP (.Name x pos) X.env) Q E s:=
  t8 I.ok.kind hg (Calls.loadGlobal_global (by rw [I.ok.glob]; exact I.mod.glob.keeps I.bk) hm h) hd
theorem qG {E:ae->ao->Prop} {pins:List (aa×Obj)} {s:ao} {σ:St} {H:Hp} {x:Str} {u:ae} {pos:Pos} {Q:ae->ao->Prop} (I:Inv X pins σ H s) (hg:Gl X x) (hm:X.mg x=none) (hv:eE x=some u) (h:Q u s)
    (hn:x≠"__name__":=by decide) (hd:(x == ("__debug__":Str))=false:=by decide):aS (bb X.prog X.w) X.A (eP (.Name x pos) X.env) Q E s:=by
  obtain ⟨mb,h1,h2⟩:=I.mod.blt
  exact t8 I.ok.kind hg (Calls.loadGlobal_builtin (by rw [I.ok.glob]; exact I.mod.glob.keeps I.bk) hm (by rw [I.ok.blt]; exact h1.keeps I.bk) ((h2 x hn).trans hv) h) hd
theorem pX {x:Str} {v:V} {u:ae} {pos:Pos} (hg:Gl X x) (hm:X.mg x=some u) (r:RelV v u) (hd:(x == ("__debug__":Str))=false:=by decide):PE X (.Name x pos) (tC v):=
  fun _ _ _ H _ I h=>md I hg hm ⟨v,H,I,r,h⟩ hd
theorem rP {x:Str} {v:V} {u:ae} {pos:Pos} (hg:Gl X x) (hm:X.mg x=none) (hv:eE x=some u) (r:RelV v u) (hn:x≠"__name__":=by decide) (hd:(x == ("__debug__":Str))=false:=by decide):PE X (.Name x pos) (tC v):=
  fun _ _ _ H _ I h=>qG I hg hm hv ⟨v,H,I,r,h⟩ hn hd
variable {a b:cA} {ta tb:TE} {pos:Pos}
def PC (X:Cx) (op:Kw) (a b:cA) (t:TE):Prop:=
  ∀ (pins:List (aa×Obj)) (s:ao) (σ:St) (H:Hp) (Q:VK),Inv X pins σ H s->t σ H Q ->
    aS (bb X.prog X.w) X.A (eP a X.env) (fun v s₁=>aS (bb X.prog X.w) X.A (eP b X.env) (fun u s₂=>aS (bb X.prog X.w) X.A (fh op v u) (EP X pins σ Q) X.xe s₂) X.xe s₁) X.xe s
theorem Cp (b:cA) {op:Kw} (h:op≠.In) (h2:op≠.NotIn):ke op b=false:=by
  have e1:(op == CmpOp.In)=false:=by cases op <;> first | rfl | exact absurd rfl h
  have e2:(op == CmpOp.NotIn)=false:=by cases op <;> first | rfl | exact absurd rfl h2
  cases b <;> simp [ke,e1,e2]
def tIsN (ta:TE):TE:=fun σ H Q=>ta σ H fun x H1=>Q (.bl (decide (x=.non))) H1
def tNotN (ta:TE):TE:=fun σ H Q=>ta σ H fun x H1=>Q (.bl (!decide (x=.non))) H1
theorem RelV.none_iff {x:V} {v:ae} (r:RelV x v):(v == Value.none)=decide (x=.non):=by
  cases x with
  | non=>cases r; rfl
  | bl _=>cases r; rfl
  | int _=>obtain ⟨t,rfl⟩:=r; rfl
  | str _=>obtain ⟨t,rfl⟩:=r; rfl
  | byt _=>obtain ⟨t,rfl⟩:=r; rfl
  | flt _=>obtain ⟨t,rfl⟩:=r; rfl
  | ref _=>cases r; rfl
  | ty _=>cases r; rfl
theorem vI {j pos'} (ha:PE X a ta):PC X .Is a (.Constant .none j pos') (tIsN ta):=by
  intro pins s σ H Q I h
  refine thn (ha pins s σ H _ I h) fun v s1 ⟨x,H1,I1,r1,q1⟩=>?_
  exact A9 (is_none_gen ⟨.bl _,H1,I1,by rw [r1.none_iff]; rfl,q1⟩)
theorem FF {j pos'} (ha:PE X a ta):PC X .IsNot a (.Constant .none j pos') (tNotN ta):=by
  intro pins s σ H Q I h
  refine thn (ha pins s σ H _ I h) fun v s1 ⟨x,H1,I1,r1,q1⟩=>?_
  exact A9 (isnot_none_gen ⟨.bl _,H1,I1,by rw [r1.none_iff]; rfl,q1⟩)
def tB (t:TE):TT:=fun σ H Q=>t σ H fun x H1=>∃ c,x=.bl c/\Q c H1
theorem me {op:Kw} {t:TE} (h:PC X op a b t) (h1:ke op b=false:=by first | exact Cp _ (by decide) (by decide) | rfl):PT X (.Compare a [op] [b] pos) (tB t):=by
  intro pins s σ H Q I hw
  refine Fs (thn (h pins s σ H _ I hw) fun v s1 h1=>thn h1 fun u s2 h2=>thn h2 fun c s3 ⟨x,H1,I1,r1,q1⟩=>?_) h1
  obtain ⟨d,rfl,q⟩:=q1
  cases r1
  exact iq ⟨H1,I1,q⟩
theorem sv {e:cA} {t:TE} (h:PE X e t) (he:∀ whole,vH e X.env whole=(do let v <- whole; nh e.pos; jx [v] (yM v)):=by intro _; rfl):PT X e (tB t):=by
  intro pins s σ H Q I hw
  refine Cq (thn (h pins s σ H _ I hw) fun v s1 ⟨x,H1,I1,r1,q1⟩=>?_) (he _)
  obtain ⟨d,rfl,q⟩:=q1
  cases r1
  exact iq ⟨H1,I1,q⟩
variable {tA tB':TT} {rest:List cA}
def Cr (t u:TT):TT:=fun σ H Q=>t σ H fun c H1=>if c=true then u σ H1 Q else Q false H1
def tOr (t u:TT):TT:=fun σ H Q=>t σ H fun c H1=>if c=true then Q true H1 else u σ H1 Q
def tNot (t:TT):TT:=fun σ H Q=>t σ H fun c H1=>Q (!c) H1
theorem pY (ha:PT X a tA):PW X (.BoolOp .And [a] pos) tA:=by
  intro wh pins s σ H Q I h
  refine isTrue_and (thn (ha pins s σ H Q I h) fun c s1 e=>?_)
  cases c with
  | true=>exact isTrue_and_nil e
  | false=>exact e
theorem yN (ha:PT X a tA):PW X (.BoolOp .Or [a] pos) tA:=by
  intro wh pins s σ H Q I h
  refine isTrue_or (thn (ha pins s σ H Q I h) fun c s1 e=>?_)
  cases c with
  | false=>exact isTrue_or_nil e
  | true=>exact e
theorem qH (ha:PT X a tA) (hb:PW X (.BoolOp .And (b :: rest) pos) tB'):PW X (.BoolOp .And (a :: b :: rest) pos) (Cr tA tB'):=by
  intro wh pins s σ H Q I h
  refine isTrue_and (thn (ha pins s σ H _ I h) fun c s1 ⟨H1,I1,q1⟩=>?_)
  cases c with
  | true=>exact hb wh pins s1 σ H1 Q I1 q1
  | false=>exact ⟨H1,I1,q1⟩
theorem zU (ha:PT X a tA) (hb:PW X (.BoolOp .Or (b :: rest) pos) tB'):PW X (.BoolOp .Or (a :: b :: rest) pos) (tOr tA tB'):=by
  intro wh pins s σ H Q I h
  refine isTrue_or (thn (ha pins s σ H _ I h) fun c s1 ⟨H1,I1,q1⟩=>?_)
  cases c with
  | true=>exact ⟨H1,I1,q1⟩
  | false=>exact hb wh pins s1 σ H1 Q I1 q1
theorem Cs (ha:PT X a tA):PT X (.UnaryOp .Not a pos) (tNot tA):=by
  intro pins s σ H Q I h
  exact isTrue_not (ha pins s σ H (fun c H1=>Q (!c) H1) I h)
def tIf (t:TT) (ta tb:TE):TE:=fun σ H Q=>t σ H fun c H1=>if c=true then ta σ H1 Q else tb σ H1 Q
theorem nG {c:cA} (hc:PT X c tA) (ha:PE X a ta) (hb:PE X b tb):PE X (.IfExp c a b pos) (tIf tA ta tb):=by
  intro pins s σ H Q I h
  refine wpAny_IfExp (thn (hc pins s σ H _ I h) fun d s1 ⟨H1,I1,q1⟩=>?_)
  cases d with
  | true=>exact ha pins s1 σ H1 Q I1 q1
  | false=>exact hb pins s1 σ H1 Q I1 q1
end
end L2
namespace L2
open PySem PySem.Spec PyProof.Rows
def SqL (K:af) (H:Hp) (a:aa) (xs:List V):Prop:=
  Rd H a (.lst xs) \/
    ∃ (o:Obj) (its:Array ae) (n:Nat),K.lookup a=some o/\o.cls=.type "list"/\o.dict=none/\o.data=.seq its n/\its.size<=az/\cY xs its.toList
def SqT (K:af) (H:Hp) (a:aa) (xs:List V):Prop:=
  Rd H a (.tup xs) \/
    ∃ (o:Obj) (its:Array ae) (n:Nat),K.lookup a=some o/\o.cls=.type "tuple"/\o.data=.seq its n/\its.size<=az/\cY xs its.toList
def absV:ae->Option V
  | .none=>some .non
  | .bool b=>some (.bl b)
  | .int i _=>some (.int i)
  | .str x _=>some (.str x)
  | .bytes b _=>some (.byt b)
  | .float b _=>some (.flt b)
  | .ref a=>some (.ref a)
  | .type n=>some (.ty n)
  | _=>none
theorem RelV.abs {x:V} {u:ae} (r:RelV x u):absV u=some x:=by
  cases x with
  | non=>cases r; rfl
  | bl _=>cases r; rfl
  | int _=>obtain ⟨t,rfl⟩:=r; rfl
  | str _=>obtain ⟨t,rfl⟩:=r; rfl
  | byt _=>obtain ⟨t,rfl⟩:=r; rfl
  | flt _=>obtain ⟨t,rfl⟩:=r; rfl
  | ref _=>cases r; rfl
  | ty _=>cases r; rfl
theorem RelV.inj {x y:V} {u:ae} (r:RelV x u) (q:RelV y u):x=y:=b5 (r.abs.symm.trans q.abs)
theorem cY.inj:∀ {xs ys:List V} {us:List ae},cY xs us->cY ys us->xs=ys
  | _,_,_,.nil,.nil=>rfl
  | _,_,_,.cons r t,.cons r' t'=>by rw [r.inj r',cY.inj t t']
section
variable {X:Cx} {pins:List (aa×Obj)} {σ:St} {H:Hp} {s:ao} {a:aa} {xs ys:List V}
theorem SqL.of {K:af} (h:H a=some (.lst xs)):SqL K H a xs:=.inl (.inl h)
theorem SqT.of {K:af} (h:H a=some (.tup xs)):SqT K H a xs:=.inl (.inl h)
theorem Inv.list (I:Inv X pins σ H s) (h:SqL X.K H a xs):∃ its:List ae,cY xs its/\PlainL s.heap a its.toArray/\xs.length<=az:=by
  rcases h with h | ⟨o,its,n,hk,hc,hd,hs,hz,r⟩
  · obtain ⟨z,its,n,r,e⟩:=h.ok I.hok
    exact ⟨its,r,⟨_,n,e,rfl,rfl,rfl⟩,z⟩
  · refine ⟨its.toList,r,⟨o,n,I.kIn a o hk,hc,hd,by simpa using hs⟩,?_⟩
    have e:=r.length
    simp only [gC] at e
    omega
theorem Inv.tuple (I:Inv X pins σ H s) (h:SqT X.K H a xs):∃ its:List ae,cY xs its/\t5 s.heap a its.toArray/\xs.length<=az:=by
  rcases h with h | ⟨o,its,n,hk,hc,hs,hz,r⟩
  · obtain ⟨z,its,r,p⟩:=h.ok I.hok
    exact ⟨its,r,p,z⟩
  · refine ⟨its.toList,r,⟨o,I.kIn a o hk,hc,n,by simpa using hs⟩,?_⟩
    have e:=r.length
    simp only [gC] at e
    omega
theorem Inv.list_inj (I:Inv X pins σ H s) (h:SqL X.K H a xs) (h':SqL X.K H a ys):xs=ys:=by
  obtain ⟨its,r,⟨o,n,e,_,_,d⟩,_⟩:=I.list h
  obtain ⟨its',r',⟨o',n',e',_,_,d'⟩,_⟩:=I.list h'
  rw [e] at e'; cases e'
  rw [d] at d'
  injection d' with d1 _
  have:its=its':=by simpa using congrArg IU d1
  subst this
  exact r.inj r'
theorem Inv.tuple_inj (I:Inv X pins σ H s) (h:SqT X.K H a xs) (h':SqT X.K H a ys):xs=ys:=by
  obtain ⟨its,r,⟨o,e,_,n,d⟩,_⟩:=I.tuple h
  obtain ⟨its',r',⟨o',e',_,n',d'⟩,_⟩:=I.tuple h'
  rw [e] at e'; cases e'
  rw [d] at d'
  injection d' with d1 _
  have:its=its':=by simpa using congrArg IU d1
  subst this
  exact r.inj r'
end
abbrev Cx.wish (X:Cx) (E:ae->ao->Prop):Cx:={X with xe:=E}
abbrev Cx.nox (X:Cx):Cx:=X.wish fun _ _=>False
theorem Cx.Ok.wish {X:Cx} (ok:X.Ok) (E:ae->ao->Prop):(X.wish E).Ok:=
  ⟨ok.mod,ok.kind,ok.glob,ok.blt,ok.above,ok.inj,ok.has,ok.cab,ok.hd,ok.frames,ok.stk,ok.exf,ok.bs,ok.bsz,ok.noex,ok.exfs,ok.funs,ok.frf⟩
theorem Cx.Ok.unwish {X:Cx} {E:ae->ao->Prop} (ok:(X.wish E).Ok):X.Ok:=
  ⟨ok.mod,ok.kind,ok.glob,ok.blt,ok.above,ok.inj,ok.has,ok.cab,ok.hd,ok.frames,ok.stk,ok.exf,ok.bs,ok.bsz,ok.noex,ok.exfs,ok.funs,ok.frf⟩
section
variable {X:Cx} {pins:List (aa×Obj)} {σ:St} {H:Hp} {s:ao} {E:ae->ao->Prop}
theorem Inv.wish (I:Inv X pins σ H s) (E:ae->ao->Prop):Inv (X.wish E) pins σ H s:=⟨I.ok.wish E,I.os,I.bare,I.base,I.loc,I.cell,I.free,I.freeC,I.pin,I.hok,I.len⟩
theorem Inv.unwish (I:Inv (X.wish E) pins σ H s):Inv X pins σ H s:=⟨I.ok.unwish,I.os,I.bare,I.base,I.loc,I.cell,I.free,I.freeC,I.pin,I.hok,I.len⟩
theorem SP.unwish {D:jS} {f:Flow} {s':ao} (h:SP (X.wish E) pins D f s'):SP X pins D f s':=by
  cases f with
  | next=>obtain ⟨σ',H',I,q⟩:=h; exact ⟨σ',H',I.unwish,q⟩
  | brk=>obtain ⟨σ',H',I,q⟩:=h; exact ⟨σ',H',I.unwish,q⟩
  | cont=>obtain ⟨σ',H',I,q⟩:=h; exact ⟨σ',H',I.unwish,q⟩
  | ret u=>obtain ⟨v,σ',H',I,r,q⟩:=h; exact ⟨v,σ',H',I.unwish,r,q⟩
theorem PSs.nox {st:List cR} {t:TS} (h:PSs X.nox st t):PSs X st t:=fun pins s σ H D I hw =>
  dv (h pins s σ H D (I.wish _) hw) (fun _ _ q=>q.unwish) fun _ _ z=>cV z
end
section
variable {X:Cx} {st:cR} {rest:List cR} {t u:TS} {e:cA} {te:TE} {pos:Pos}
def Ct:TS:=fun D σ H=>D.nx σ H
def tSeq (t u:TS):TS:=fun D σ H=>t {D with nx:=u D} σ H
theorem cE:PSs X [] Ct:=fun _ _ σ H _ I h=>pP ⟨σ,H,I,h⟩
theorem ax (h1:PS X st t) (h2:PSs X rest u):PSs X (st :: rest) (tSeq t u):=by
  intro pins s σ H D I h
  refine wpAny_execs_cons (thn (h1 pins s σ H {D with nx:=u D} I h) fun f s1 q=>?_)
  cases f with
  | next =>
    obtain ⟨σ',H',I',q⟩:=q
    exact h2 pins s1 σ' H' D I' q
  | ret v=>exact q
  | brk=>exact q
  | cont=>exact q
theorem aF (h1:PS X st t):PSs X [st] t:=by
  intro pins s σ H D I h
  refine wpAny_execs_cons (thn (h1 pins s σ H D I h) fun f s1 q=>?_)
  cases f with
  | next=>exact pP q
  | ret v=>exact q
  | brk=>exact q
  | cont=>exact q
theorem Inv.quiet {pins:List (aa×Obj)} {σ:St} {H:Hp} {s:ao} (I:Inv X pins σ H s):interactive X.env=false:=by simp [interactive,I.ok.kind]
def tDrop (te:TE):TS:=fun D σ H=>te σ H fun _ H1=>D.nx σ H1
theorem c5 (he:PE X e te) (hs:vJ e none pos.line X.env=pure false:=by rfl):PS X (.Expr e pos) (tDrop te):=by
  intro pins s σ H D I h
  exact wpAny_Expr_any (thn (he pins s σ H _ I h) fun v s1 ⟨x,H1,I1,r1,q1⟩=>⟨σ,H1,I1,q1⟩) I.quiet hs
def tRet (te:TE):TS:=fun D σ H=>te σ H D.rt
theorem bV (he:PE X e te):PS X (.Return (some e) pos) (tRet te):=by
  intro pins s σ H D I h
  exact wpAny_Return_some (thn (he pins s σ H _ I h) fun v s1 ⟨x,H1,I1,r1,q1⟩=>⟨x,σ,H1,I1,r1,q1⟩)
def FG (c:TT) (t u:TS):TS:=fun D σ H=>c σ H fun b H1=>if b=true then t D σ H1 else u D σ H1
theorem c9 {c:cA} {a b:List cR} {tc:TT} (hc:PT X c tc) (ha:PSs X a t) (hb:PSs X b u):PS X (.If c a b pos) (FG tc t u):=by
  intro pins s σ H D I h
  refine wpAny_If (thn (hc pins s σ H _ I h) fun d s1 ⟨H1,I1,q1⟩=>?_)
  cases d with
  | true=>exact ha pins s1 σ H1 D I1 q1
  | false=>exact hb pins s1 σ H1 D I1 q1
def IV:TS:=fun _ _ _=>False
theorem uD {sts:List cR}:PSs X sts IV:=fun _ _ _ _ _ _ h=>h.elim
end
abbrev TG:=V->St->Hp->(St->Hp->Prop)->Prop
abbrev TGs:=List V->St->Hp->(St->Hp->Prop)->Prop
def PG (X:Cx) (target:cA) (t:TG):Prop:=
  ∀ (pins:List (aa×Obj)) (s:ao) (σ:St) (H:Hp) (v:V) (u:ae) (Q:St->Hp->Prop),Inv X pins σ H s->RelV v u->t v σ H Q ->
    aS (bb X.prog X.w) X.A (vK target X.env u) (fun _ s'=>∃ σ' H',Inv X pins σ' H' s'/\Q σ' H') X.xe s
def PGs (X:Cx) (ts:List cA) (t:TGs):Prop:=
  ∀ (pins:List (aa×Obj)) (s:ao) (σ:St) (H:Hp) (vs:List V) (us:List ae) (Q:St->Hp->Prop),Inv X pins σ H s->cY vs us->t vs σ H Q ->
    aS (bb X.prog X.w) X.A (assignInOrder ((jT ts X.env).map (·.2)) us) (fun _ s'=>∃ σ' H',Inv X pins σ' H' s'/\Q σ' H') X.xe s
abbrev IW:=V->V->V->Hp->(Hp->Prop)->Prop
def PSet (X:Cx) (t:IW):Prop:=
  ∀ (pins:List (aa×Obj)) (s:ao) (σ:St) (H:Hp) (o i v:V) (ov iv u:ae) (Q:Hp->Prop),Inv X pins σ H s->RelV o ov->RelV i iv->RelV v u->t o i v H Q ->
    aS (bb X.prog X.w) X.A (setItem ov iv u) (fun _ s'=>∃ H',Inv X pins σ H' s'/\Q H') X.xe s
section
variable {X:Cx} {pos:Pos}
def zV (i:Nat):TG:=fun v σ H Q=>Q (σ.set i (some v)) H
theorem eF {i:Nat} {x:Str} (hN:X.N.Nodup) (hi:X.N[i]?=some x) (hx:Loc X.env.scope x) (hf:X.fn x=true\/X.env.scope.names.lookup x=some .local:=by first | exact .inl rfl | exact .inr rfl | assumption):PG X (.Name x pos) (zV i):=by
  intro pins s σ H v u Q I r h
  exact Kx (pV I hN hi hx r (fun s' I'=>⟨_,H,I',h⟩) hf)
def gNil:TGs:=fun vs σ H Q=>vs=[]/\Q σ H
def gCons (t:TG) (u:TGs):TGs:=fun vs σ H Q=>∃ v r,vs=v :: r/\t v σ H fun σ' H'=>u r σ' H' Q
theorem vL:PGs X [] gNil:=by
  intro pins s σ H vs us Q I r h
  obtain ⟨e,h⟩:=h
  subst e
  cases r
  exact assignInOrder_nil ⟨σ,H,I,h⟩
theorem lG {e:cA} {es:List cA} {t:TG} {u:TGs} (h1:PG X e t) (h2:PGs X es u)
    (hs:(jT (e :: es) X.env).map (·.2)=vK e X.env :: (jT es X.env).map (·.2):=by rfl):PGs X (e :: es) (gCons t u):=by
  intro pins s σ H vs us Q I r h
  obtain ⟨v,vr,e1,h⟩:=h
  subst e1
  cases r with
  | cons r rr =>
    rw [hs]
    refine assignInOrder_cons (thn (h1 pins s σ H _ _ _ I r h) fun _ s1 ⟨σ1,H1,I1,q1⟩=>?_)
    exact h2 pins s1 σ1 H1 _ _ Q I1 rr q1
def gTup (K:af) (n:Nat) (t:TGs):TG:=fun v σ H Q=>∃ a xs,v=.ref a/\SqT K H a xs/\xs.length=n/\t xs σ H Q
theorem Cu {es:List cA} {k:Nat} {t:TGs} {n:Nat} (hc:X.calm=true) (h:PGs X es t)
    (hn:(jT es X.env).length=n:=by rfl) (hst:(jT es X.env).findIdx? (·.1)=none:=by rfl):PG X (.Tuple es k pos) (gTup X.K n t):=by
  intro pins s σ H v u Q I r hw
  obtain ⟨a,xs,e1,hq,hl,hw⟩:=hw
  subst e1
  cases r
  obtain ⟨its,rv,ht,hz⟩:=I.tuple hq
  refine assign_Tuple_tuple (I.ok.hd hc) ht (by simp [hn,<- hl,rv.length]) hst fun h' hx=>?_
  have I1:Inv X pins σ H {s with heap:=h'}:=I.kept (t':=s.toks) fun b o e=>hx b o (aR (aQ e)) e
  exact h pins _ σ H xs _ Q I1 (by simpa using rv) hw
def gSub (to ti:TE) (t:IW):TG:=fun v σ H Q=>to σ H fun o H1=>ti σ H1 fun i H2=>t o i v H2 fun H3=>Q σ H3
theorem yO {o i:cA} {to ti:TE} {t:IW} (ho:PE X o to) (hi:PE X i ti) (hs:PSet X t)
    (ha:∀ v,vK (.Subscript o i pos) X.env v=(do
      let ov <- jx [v] (eP o X.env)
      let iv <- jx [v,ov] (eP i X.env)
      nh pos
      jx [v,ov,iv] (setItem ov iv v)
      release [v,ov,iv] []):=by intro _; rfl):PG X (.Subscript o i pos) (gSub to ti t):=by
  intro pins s σ H v u Q I r h
  rw [ha]
  refine ag (d7 (thn (ho pins s σ H _ I h) fun ov s1 ⟨x,H1,I1,r1,q1⟩=>?_))
  refine ag (d7 (thn (hi pins s1 σ H1 _ I1 q1) fun iv s2 ⟨y,H2,I2,r2,q2⟩=>?_))
  refine ag (Ba (ag (d7 (thn (hs pins s2 σ H2 x y v ov iv u _ I2 r1 r2 r q2) fun _ s3 ⟨H3,I3,q3⟩=>?_))))
  exact wpAny_release ⟨σ,H3,I3,q3⟩
def FH (te:TE) (g:TG):TS:=fun D σ H=>te σ H fun x H1=>g x σ H1 D.nx
theorem yP {tg e:cA} {te:TE} {g:TG} (he:PE X e te) (hg:PG X tg g) (hs:swapsWithSole [tg] e pos.line X.env=pure false:=by rfl) (hw:swappedStores [tg] e X.env=pure none:=by rfl)
    (h1:(jT [tg] X.env).map (·.2)=[vK tg X.env]:=by rfl):PS X (.Assign [tg] e pos) (FH te g):=by
  intro pins s σ H D I h
  refine wpAny_Assign_stores (thn (he pins s σ H _ I h) fun v s1 ⟨x,H1,I1,r1,q1⟩=>?_) hs hw
  rw [h1]
  exact thn (hg pins s1 σ H1 x v _ I1 r1 q1) fun _ s2 q=>q
theorem bK {i:Nat} {x:Str} {e:cA} {te:TE} {pos':Pos} (hN:X.N.Nodup) (hi:X.N[i]?=some x) (hx:Loc X.env.scope x) (he:PE X e te) (hs:vJ e (some (.Name x pos')) pos.line X.env=pure false:=by rfl) (hf:X.fn x=true\/X.env.scope.names.lookup x=some .local:=by first | exact .inl rfl | exact .inr rfl | assumption) :
    PS X (.Assign [.Name x pos'] e pos) (FH te (zV i)):=by
  intro pins s σ H D I h
  refine wpAny_Assign_Name (thn (he pins s σ H _ I h) fun v s1 ⟨y,H1,I1,r1,q1⟩=>?_) hs
  exact pV I1 hN hi hx r1 (fun s2 I2=>⟨_,H1,I2,q1⟩) hf
end
section
variable {X:Cx} {pos:Pos}
def Cv (c:TT) (tb:TS):TS:=fun D σ H=>∃ W:Nat->St->Hp->Prop,(∃ m,W m σ H)/\∀ m σ H,W m σ H ->
  c σ H fun b H1=>if b=true then ∃ N:St->Hp->Prop,(∀ σ' H',N σ' H'->∃ m',m' < m/\W m' σ' H')/\tb {D with nx:=N,ct:=N,bk:=D.nx} σ H1 else D.nx σ H1
theorem sy {c:cA} {body:List cR} {tc:TT} {tb:TS} (hp:PassesOwn (bb X.prog X.w) X.A X.env X.xe) (hc:PT X c tc) (hb:PSs X body tb):PS X (.While c body [] pos) (Cv tc tb):=by
  intro pins s σ H D I h
  obtain ⟨W,⟨m0,w0⟩,turn⟩:=h
  refine wpAny_While (codeAny_whileLoop (fun n s'=>∃ σ' H',Inv X pins σ' H' s'/\W n σ' H') ?_ m0 ⟨σ,H,I,w0⟩)
  rintro n s1 ⟨σ1,H1,I1,w1⟩
  refine hU hp (thn (hc pins s1 σ1 H1 _ I1 (turn n σ1 H1 w1)) fun b s2 ⟨H2,I2,q2⟩=>?_)
  cases b with
  | true =>
    obtain ⟨N,hN,q2⟩:=q2
    rw [if_pos rfl]
    refine hU hp (thn (hb pins s2 σ1 H2 _ I2 q2) fun f s3 q3=>?_)
    cases f with
    | next =>
      obtain ⟨σ3,H3,I3,n3⟩:=q3
      obtain ⟨m',hm,w3⟩:=hN σ3 H3 n3
      exact ⟨m',hm,σ3,H3,I3,w3⟩
    | cont =>
      obtain ⟨σ3,H3,I3,n3⟩:=q3
      obtain ⟨m',hm,w3⟩:=hN σ3 H3 n3
      exact ⟨m',hm,σ3,H3,I3,w3⟩
    | brk=>exact q3
    | ret v=>exact q3
  | false =>
    rw [if_neg bE]
    exact pP ⟨σ1,H2,I2,q2⟩
end
structure It where
  go:Nat->Hp->Prop
  yld:Nat->Hp->V->Hp->Prop
  stop:Nat->Hp->Prop
def vM (X:Cx) (pins:List (aa×Obj)) (H:Hp) (b:aa):Prop:=
  H b=none/\b≠X.env.locals/\b∉X.fs/\(b∈X.ex\/X.s₀.heap.objs.size<=b)/\(∀ x c,X.env.cells.lookup x=some c->c≠b)/\∀ p∈X.pn++pins,p.1≠b
theorem Inv.fpOk {X:Cx} {pins:List (aa×Obj)} {σ:St} {H H':Hp} {s:ao} {b:aa} (I:Inv X pins σ H s) (hb:s.heap.objs.size<=b) (hn:H' b=none):vM X pins H' b:=by
  refine ⟨hn,nI (aY I.lt hb),I.nofs hb,.inr (cv I.sz hb),fun x c e z=>?_,fun p hp z=>?_⟩
  · obtain ⟨v,q⟩:=I.cell x c e
    exact absurd (aY q.lt (by rw [z]; exact hb)) (fX _)
  · exact absurd (aY (aQ (I.pin p hp).1) (by rw [z]; exact hb)) (fX _)
structure Bb (P:aO) (w:bj) (K:af) (tg:cA) (J:It) (fp:List aa) (it:aa) (tn:Nat->cb->Prop):Prop where
  mem:it∈fp
  obj:∀ i h,tn i h->∀ b∈fp,∃ o,h.get? b=some o/\∀ v,o.data≠.cell v
  keep:∀ i h h',tn i h->(∀ b∈fp,∀ o,h.get? b=some o->h'.get? b=some o)->tn i h'
  item:∀ (X:Cx),X.prog=P->X.w=w->X.K=K->X.calm=true->∀ (i:Nat) (pins:List (aa×Obj)) (s:ao) (σ:St) (H:Hp) (E:ae->ao->Prop),Inv X pins σ H s->(∀ b∈fp,vM X pins H b)->tn i s.heap->J.go i H ->
    aS (bb P w) X.A (Cw (.ref it)) (fun r s1=>∃ u,r=some u /\
      aS (bb P w) X.A (pQ tg (.ref it) u) (fun _ s2=>∃ x H',Inv X pins σ H' s2/\RelV x u/\J.yld i H x H'/\tn (i + 1) s2.heap/\∀ b∈fp,H' b=none) E s1) E s
  done:∀ (X:Cx),X.prog=P->X.w=w->X.K=K->X.calm=true->∀ (i:Nat) (pins:List (aa×Obj)) (s:ao) (σ:St) (H:Hp) (E:ae->ao->Prop),Inv X pins σ H s->(∀ b∈fp,vM X pins H b)->tn i s.heap->J.stop i H ->
    aS (bb P w) X.A (Cw (.ref it)) (fun r s1=>r=none/\Inv X pins σ H s1) E s
  self:∀ (A:bN) (i:Nat) (s:ao) (Q:ae->ao->Prop) (E:ae->ao->Prop),tn i s.heap->Q (.ref it) s->aS (bb P w) A (pyIter (.ref it)) Q E s
abbrev TI:=St->Hp->(It->Hp->Prop)->Prop
def PIE (X:Cx) (pins:List (aa×Obj)) (σ:St) (tg:cA) (R:It->Hp->Prop) (itv:ae) (s2:ao):Prop:=
  ∃ (it:aa) (fp:List aa) (tn:Nat->cb->Prop) (J:It) (H':Hp),itv=.ref it/\Inv X pins σ H' s2/\Bb X.prog X.w X.K tg J fp it tn/\tn 0 s2.heap/\(∀ b∈fp,vM X pins H' b)/\R J H'
def PI (X:Cx) (tg iter:cA) (wi:TI):Prop:=
  ∀ (pins:List (aa×Obj)) (s:ao) (σ:St) (H:Hp) (R:It->Hp->Prop),Inv X pins σ H s->wi σ H R ->
    aS (bb X.prog X.w) X.A (eP iter X.env) (fun v s1=>aS (bb X.prog X.w) X.A (pyIter v) (PIE X pins σ tg R) X.xe s1) X.xe s
theorem Cy {M:FE} {A:bN} {E:ae->ao->Prop} {s:ao} {tg:cA} {it:aa} {u:ae} {o:Obj} {n:String} {vs:Array ae} {Q:Unit->ao->Prop} (ho:s.heap.get? it=some o) (hc:o.cls=.type n) (hd:o.data=.fields vs)
    (hn:["enumerate","zip","dict_itemiterator","dict_reverseitemiterator","odict_iterator","itertools.zip_longest","itertools.pairwise"].contains n=false) (hQ:Q () s):aS M A (pQ tg (.ref it) u) Q E s:=by
  unfold pQ
  cases tg <;> first
    | exact aK hQ
    | (cases u <;> first
        | exact aK hQ
        | (refine ag (wpAny_load ho ?_)
           rw [hc,hd]
           show aS M A (if (["enumerate","zip","dict_itemiterator","dict_reverseitemiterator","odict_iterator","itertools.zip_longest","itertools.pairwise"].contains n && vs[0]? == some (pE _))=true then _ else _) Q E s
           rw [if_neg (by intro h; rw [hn,Bool.false_and] at h; cases h)]
           exact aK hQ))
def Itl (K:af) (a:aa):It:=
  ⟨fun i H=>∃ xs x,SqL K H a xs/\xs[i]?=some x,fun i H x H'=>H'=H/\∀ xs,SqL K H a xs->xs[i]?=some x,fun i H=>∃ xs,SqL K H a xs/\xs.length<=i⟩
def Itt (K:af) (a:aa):It:=
  ⟨fun i H=>∃ xs x,SqT K H a xs/\xs[i]?=some x,fun i H x H'=>H'=H/\∀ xs,SqT K H a xs->xs[i]?=some x,fun i H=>∃ xs,SqT K H a xs/\xs.length<=i⟩
def Itr (lo:Int) (n:Nat):It:=⟨fun i _=>i < n,fun i H x H'=>H'=H/\x=.int (lo + i),fun i _=>n<=i⟩
theorem Bc {P:aO} {w:bj} {K:af} {tg:cA} (a it:aa):Bb P w K tg (Itl K a) [it] it (fun i h=>h.IsListIter it a i) where
  mem:=by simp
  obj:=fun i h st b hb=>by
    have e:b=it:=by simpa using hb
    subst e
    obtain ⟨o,e,c,d⟩:=st
    exact ⟨o,e,fun v z=>by rw [d] at z; cases z⟩
  keep:=fun i h h' st k=>st.at fun o e=>k it (by simp) o e
  item:=by
    intro X hP hw hK hc i pins s σ H E I hf st hg
    subst hP hw hK
    obtain ⟨xs,x,hq,hx⟩:=hg
    obtain ⟨its,rv,p,hz⟩:=I.list hq
    obtain ⟨u,hu,ru⟩:=rv.get hx
    obtain ⟨f0,f1,f2,f3,f4,f5⟩:=hf it (by simp)
    refine Cz st p.isList (x:=u) (by simpa using hu) fun h' st' sb=>?_
    have I1:Inv X pins σ H {s with heap:=h'}:=I.turned (t':=s.toks) (fun b o hb e=>(sb.2 b hb).trans e) f0 f1 f3 f4 f5
    obtain ⟨o,e,c,d⟩:=id st'
    exact ⟨u,rfl,Cy (s:={s with heap:=h'}) e c d (by decide) ⟨x,H,I1,ru,⟨rfl,fun ys hy=>by rw [I.list_inj hy hq]; exact hx⟩,st',fun b hb=>(hf b hb).1⟩⟩
  done:=by
    intro X hP hw hK hc i pins s σ H E I hf st hg
    subst hP hw hK
    obtain ⟨xs,hq,hx⟩:=hg
    obtain ⟨its,rv,p,hz⟩:=I.list hq
    obtain ⟨f0,f1,f2,f3,f4,f5⟩:=hf it (by simp)
    have hl:=rv.length
    exact Ft (I.ok.hd hc) st p.isList (by simp; omega) fun h' eb=>⟨rfl,I.turned (t':=s.toks) (fun b o hb e=>eb b o hb e) f0 f1 f3 f4 f5⟩
  self:=fun _ _ _ _ _ st h=>wpAny_pyIter_listiter st h
theorem yQ {P:aO} {w:bj} {K:af} {tg:cA} (a it:aa):Bb P w K tg (Itt K a) [it] it (fun i h=>h.IsTupleIter it a i) where
  mem:=by simp
  obj:=fun i h st b hb=>by
    have e:b=it:=by simpa using hb
    subst e
    obtain ⟨o,e,c,d⟩:=st
    exact ⟨o,e,fun v z=>by rw [d] at z; cases z⟩
  keep:=fun i h h' st k=>st.at fun o e=>k it (by simp) o e
  item:=by
    intro X hP hw hK hc i pins s σ H E I hf st hg
    subst hP hw hK
    obtain ⟨xs,x,hq,hx⟩:=hg
    obtain ⟨its,rv,p,hz⟩:=I.tuple hq
    obtain ⟨u,hu,ru⟩:=rv.get hx
    obtain ⟨f0,f1,f2,f3,f4,f5⟩:=hf it (by simp)
    refine wpAny_pyNext_tuple_item st (show s.heap.IsTuple a its.toArray from p) (x:=u) (by simpa using hu) fun h' st' sb=>?_
    have I1:Inv X pins σ H {s with heap:=h'}:=I.turned (t':=s.toks) (fun b o hb e=>(sb.2 b hb).trans e) f0 f1 f3 f4 f5
    obtain ⟨o,e,c,d⟩:=id st'
    exact ⟨u,rfl,Cy (s:={s with heap:=h'}) e c d (by decide) ⟨x,H,I1,ru,⟨rfl,fun ys hy=>by rw [I.tuple_inj hy hq]; exact hx⟩,st',fun b hb=>(hf b hb).1⟩⟩
  done:=by
    intro X hP hw hK hc i pins s σ H E I hf st hg
    subst hP hw hK
    obtain ⟨xs,hq,hx⟩:=hg
    obtain ⟨its,rv,p,hz⟩:=I.tuple hq
    obtain ⟨f0,f1,f2,f3,f4,f5⟩:=hf it (by simp)
    have hl:=rv.length
    exact wpAny_pyNext_tuple_end (I.ok.hd hc) st (show s.heap.IsTuple a its.toArray from p) (by simp; omega) fun h' eb=>⟨rfl,I.turned (t':=s.toks) (fun b o hb e=>eb b o hb e) f0 f1 f3 f4 f5⟩
  self:=fun _ _ _ _ _ st h=>wpAny_pyIter_tupleiter st h
theorem yR {P:aO} {w:bj} {K:af} {tg:cA} (it:aa) (lo:Int) (n:Nat):Bb P w K tg (Itr lo n) [it] it (fun i h=>IsRangeIter h it (lo + (i:Nat) * 1) ((n:Int) - (i:Nat)) 1) where
  mem:=by simp
  obj:=fun i h st b hb=>by
    have e:b=it:=by simpa using hb
    subst e
    exact ⟨_,st,fun v z=>by
      have z':Data.fields _=Data.cell v:=z
      cases z'⟩
  keep:=fun i h h' st k=>k it (by simp) _ st
  item:=by
    intro X hP hw hK hc i pins s σ H E I hf st hg
    subst hP hw hK
    obtain ⟨f0,f1,f2,f3,f4,f5⟩:=hf it (by simp)
    have W:=Walks.range (prog:=X.prog) (w:=X.w) (I.ok.hd hc) it lo 1 n
    refine W.item i s _ _ hg st fun v h' tk hv st' kk=>?_
    obtain ⟨t,rfl⟩:=hv
    have I1:Inv X pins σ H {s with heap:=h',toks:=tk}:=I.turned (fun b o hb e=>kk b o (by simpa using hb) e) f0 f1 f3 f4 f5
    refine ⟨_,rfl,Cy (s:={s with heap:=h',toks:=tk}) (n:="range_iterator") st' rfl rfl (by decide) ⟨.int (lo + i),H,I1,⟨t,?_⟩,⟨rfl,rfl⟩,st',fun b hb=>(hf b hb).1⟩⟩
    rw [Bd]
  done:=by
    intro X hP hw hK hc i pins s σ H E I hf st hg
    subst hP hw hK
    obtain ⟨f0,f1,f2,f3,f4,f5⟩:=hf it (by simp)
    exact wpAny_pyNext_range_end (I.ok.hd hc) st (by have:n<=i:=hg; omega) fun h' eb=>⟨rfl,I.turned (t':=s.toks) (fun b o hb e=>eb b o hb e) f0 f1 f3 f4 f5⟩
  self:=fun _ _ _ _ _ st h=>wpAny_pyIter_rangeiter st h
end L2
namespace L2
open PySem PySem.Spec PyProof.Rows
section
variable {X:Cx} {tg:cA}
def CH (K:af) (tl:TE):TI:=fun σ H R=>tl σ H fun x H1=>∃ a,x=.ref a/\(∃ xs,SqL K H1 a xs)/\R (Itl K a) H1
def iTup (K:af) (tl:TE):TI:=fun σ H R=>tl σ H fun x H1=>∃ a,x=.ref a/\(∃ xs,SqT K H1 a xs)/\R (Itt K a) H1
theorem iL {l:cA} {tl:TE} (hl:PE X l tl):PI X tg l (CH X.K tl):=by
  intro pins s σ H R I h
  refine thn (hl pins s σ H _ I h) fun v s1 ⟨x,H1,I1,r1,q1⟩=>?_
  obtain ⟨a,e,⟨xs,hq⟩,q⟩:=q1
  subst e
  cases r1
  obtain ⟨its,rv,p,hz⟩:=I1.list hq
  refine t9 p.isList ?_
  refine ⟨s1.heap.objs.size,[s1.heap.objs.size],_,_,H1,rfl,I1.kept (t':=s1.toks) fun b o e=>aI _ e,Bc a _,⟨_,bX _ rfl,rfl,rfl⟩,fun b hb=>?_,q⟩
  have e:b=s1.heap.objs.size:=by simpa using hb
  subst e
  exact I1.fpOk (aE _) (I1.hok.fresh (aE _))
theorem IX {l:cA} {tl:TE} (hl:PE X l tl):PI X tg l (iTup X.K tl):=by
  intro pins s σ H R I h
  refine thn (hl pins s σ H _ I h) fun v s1 ⟨x,H1,I1,r1,q1⟩=>?_
  obtain ⟨a,e,⟨xs,hq⟩,q⟩:=q1
  subst e
  cases r1
  obtain ⟨its,rv,p,hz⟩:=I1.tuple hq
  refine wpAny_pyIter_tuple (show s1.heap.IsTuple a its.toArray from p) ?_
  refine ⟨s1.heap.objs.size,[s1.heap.objs.size],_,_,H1,rfl,I1.kept (t':=s1.toks) fun b o e=>aI _ e,yQ a _,⟨_,bX _ rfl,rfl,rfl⟩,fun b hb=>?_,q⟩
  have e:b=s1.heap.objs.size:=by simpa using hb
  subst e
  exact I1.fpOk (aE _) (I1.hok.fresh (aE _))
theorem xk {pins:List (aa×Obj)} {σ:St} {H:Hp} {s:ao} {R:It->Hp->Prop} {E:ae->ao->Prop} {lo hi:Int} {t u v:Tok} {tk:Nat} (I:Inv X pins σ H s) (h1:-(2 ^ 62)<=lo) (h2:lo < 2 ^ 62) (h3:-(2 ^ 62)<=hi) (h4:hi < 2 ^ 62)
    (q:R (Itr lo (hi - lo).toNat) H):aS (bb X.prog X.w) X.A (pyIter (.ref s.heap.objs.size)) (PIE X pins σ tg R) E {s with heap:=s.heap.push {cls:=.type "range",data:=.fields #[.int lo t,.int hi u,.int 1 v]},toks:=tk}:=by
  refine wpAny_pyIter_range (IsRange.new ..) (small_one h1 h2 h3 h4) ?_
  have I1:Inv X pins σ H {s with heap:=s.heap.push {cls:=.type "range",data:=.fields #[.int lo t,.int hi u,.int 1 v]},toks:=tk}:=I.kept fun b o e=>aI _ e
  refine ⟨(s.heap.push {cls:=.type "range",data:=.fields #[.int lo t,.int hi u,.int 1 v]}).objs.size,[(s.heap.push {cls:=.type "range",data:=.fields #[.int lo t,.int hi u,.int 1 v]}).objs.size],_,_,H,rfl,
    I1.kept (t':=tk) fun b o e=>aI _ e,yR _ lo (hi - lo).toNat,?_,fun b hb=>?_,q⟩
  · have e1:lo + ((0:Nat):Int) * 1=lo:=by simp
    have e2:(((hi - lo).toNat:Nat):Int) - ((0:Nat):Int)=Builtin.Range.rangeSize lo hi 1:=by rw [rangeSize_one]; split <;> omega
    show IsRangeIter _ _ (lo + ((0:Nat):Int) * 1) ((((hi - lo).toNat:Nat):Int) - ((0:Nat):Int)) 1
    rw [e1,e2]
    exact bX _ rfl
  · have e:b=(s.heap.push {cls:=.type "range",data:=.fields #[.int lo t,.int hi u,.int 1 v]}).objs.size:=by simpa using hb
    subst e
    exact I1.fpOk (aE _) (I1.hok.fresh (aE _))
def zW (ta:TA):TI:=fun σ H R=>ta σ H fun vs H1=>∃ j:Int,vs=[.int j]/\-(2 ^ 62)<=j/\j < 2 ^ 62/\R (Itr 0 j.toNat) H1
def iRng2 (ta:TA):TI:=fun σ H R=>ta σ H fun vs H1=>∃ i j:Int,vs=[.int i,.int j]/\(-(2 ^ 62)<=i/\i < 2 ^ 62/\-(2 ^ 62)<=j/\j < 2 ^ 62)/\R (Itr i (j - i).toNat) H1
theorem oJ {a:cA} {ta:TA} {p pos:Pos} (hg:Gl X "range") (hm:X.mg "range"=none) (ha:PA X [a] ta) (hs:bU [a] X.env=[(false,eP a X.env)]:=by rfl):PI X tg (.Call (.Name "range" p) [a] [] pos) (zW ta):=by
  intro pins s σ H R I h
  refine Call_ (qG I hg hm boot_range (gG (thn (ha pos pins s σ H _ I h) fun us s1 ⟨vs,H1,I1,r1,q1⟩=>?_) hs rfl))
  obtain ⟨j,e,q1,q2,q⟩:=q1
  subst e
  cases r1 with
  | cons r rr =>
    cases rr
    obtain ⟨t,rfl⟩:=r
    exact call_range_1 (xk I1 (by omega) (by omega) q1 q2 (by simpa using q))
theorem Be {a b:cA} {ta:TA} {p pos:Pos} (hg:Gl X "range") (hm:X.mg "range"=none) (ha:PA X [a,b] ta) (hs:bU [a,b] X.env=[(false,eP a X.env),(false,eP b X.env)]:=by rfl) (hs2:bU [b] X.env=[(false,eP b X.env)]:=by rfl) :
    PI X tg (.Call (.Name "range" p) [a,b] [] pos) (iRng2 ta):=by
  intro pins s σ H R I h
  refine Call_ (qG I hg hm boot_range (gG (thn (ha pos pins s σ H _ I h) fun us s1 ⟨vs,H1,I1,r1,q1⟩=>?_) (by rw [hs,hs2]) (by rw [hs2]; rfl)))
  obtain ⟨i,j,e,⟨q1,q2,q3,q4⟩,q⟩:=q1
  subst e
  cases r1 with
  | cons r rr =>
    cases rr with
    | cons r' rr =>
      cases rr
      obtain ⟨t,rfl⟩:=r
      obtain ⟨t',rfl⟩:=r'
      exact call_range_2 (xk I1 q1 q2 q3 q4 q)
def tFor (wi:TI) (g:TG) (tb:TS):TS:=fun D σ H=>wi σ H fun J H1=>∃ W:Nat->Nat->St->Hp->Prop,(∃ m,W 0 m σ H1)/\∀ i m σ H,W i m σ H ->
  (J.stop i H/\D.nx σ H)\/(J.go i H/\∃ N:St->Hp->Prop,(∀ σ' H',N σ' H'->∃ m',m' < m/\W (i + 1) m' σ' H')/\∀ x H',J.yld i H x H'->g x σ H' fun σ2 H2=>tb {D with nx:=N,ct:=N,bk:=D.nx} σ2 H2)
def qI (fp:List aa) (h:cb):List (aa×Obj):=fp.filterMap fun b=>(h.get? b).map fun o=>(b,o)
theorem mf {fp:List aa} {h:cb} {b:aa} {o:Obj} (hb:b∈fp) (e:h.get? b=some o):(b,o)∈qI fp h:=qD.mpr ⟨b,hb,by rw [e]; rfl⟩
theorem Bf {fp:List aa} {h:cb} {p:aa×Obj} (hp:p∈qI fp h):p.1∈fp/\h.get? p.1=some p.2:=by
  obtain ⟨b,hb,e⟩:=qD.mp hp
  cases q:h.get? b with
  | none=>rw [q] at e; cases e
  | some o =>
    rw [q] at e
    have e':(b,o)=p:=b5 e
    subst e'
    exact ⟨hb,q⟩
theorem Inv.pinned {pins:List (aa×Obj)} {σ:St} {H:Hp} {s:ao} {fp:List aa} (I:Inv X pins σ H s) (hf:∀ b∈fp,vM X pins H b) (ho:∀ b∈fp,∃ o,s.heap.get? b=some o/\∀ v,o.data≠.cell v):Inv X (pins++qI fp s.heap) σ H s:=
  I.pins_of fun p hp=>(aU.mp hp).elim (fun z=>I.pin p (aV _ z)) fun z=>by
    obtain ⟨hb,e⟩:=Bf z
    obtain ⟨f0,f1,f2,_⟩:=hf p.1 hb
    obtain ⟨o,e',d⟩:=ho p.1 hb
    rw [e] at e'; cases e'
    exact ⟨e,f0,f1,f2,d⟩
theorem Inv.unpinned {pins pl:List (aa×Obj)} {σ:St} {H:Hp} {s:ao} (I:Inv X (pins++pl) σ H s):Inv X pins σ H s:=I.pins_of fun p hp=>I.pin p (aV _ (d9 _ hp))
theorem lu {iter:cA} {body:List cR} {wi:TI} {g:TG} {tb:TS} {pos:Pos} (hp:PassesOwn (bb X.prog X.w) X.A X.env X.xe) (hc:X.calm=true) (hi:PI X tg iter wi) (hg:PG X tg g) (hb:PSs X body tb)
    (hs:∀ x,nj iter X.env x=pure x:=by intro _; rfl):PS X (.For tg iter body [] pos) (tFor wi g tb):=by
  intro pins s σ H D I h
  refine wpAny_For (thn (hi pins s σ H _ I h) fun v s1 h1=>thn h1 fun itv s2 h2=>?_) hs
  obtain ⟨it,fp,tn,J,H2,e,I2,T,st2,f2,W,⟨m0,w0⟩,turn⟩:=h2
  subst e
  -- what stays true of the iterator's objects through the loop
  have stat:∀ {H':Hp},(∀ b∈fp,H' b=none)->∀ b∈fp,vM X pins H' b:=fun hn b hb=>⟨hn b hb,(f2 b hb).2⟩
  refine codeAny_forLoop_any (fun n s'=>∃ i σ' H',Inv X pins σ' H' s'/\tn i s'.heap/\(∀ b∈fp,H' b=none)/\W i n σ' H') ?_ m0 ⟨0,σ,H2,I2,st2,fun b hb=>(f2 b hb).1,w0⟩
  rintro n s3 ⟨i,σ3,H3,I3,st3,fr3,w3⟩
  rcases turn i n σ3 H3 w3 with ⟨stop,qn⟩ | ⟨go,N,hN,step⟩
  · refine hU hp (thn (T.done X rfl rfl rfl hc i pins s3 σ3 H3 X.xe I3 (stat fr3) st3 stop) fun r s4 ⟨hr,I4⟩=>?_)
    subst hr
    exact pP ⟨σ3,H3,I4,qn⟩
  · refine hU hp (thn (T.item X rfl rfl rfl hc i pins s3 σ3 H3 X.xe I3 (stat fr3) st3 go) fun r s4 ⟨u,hr,h4⟩=>?_)
    subst hr
    refine hU hp (thn h4 fun _ s5 ⟨x,H5,I5,r5,y5,st5,fr5⟩=>?_)
    have I5':=I5.pinned (stat fr5) (T.obj _ _ st5)
    refine hU hp (thn (hg _ s5 σ3 H5 x u _ I5' r5 (step x H5 y5)) fun _ s6 ⟨σ6,H6,I6,q6⟩=>?_)
    refine hU hp (thn (hb _ s6 σ6 H6 _ I6 q6) fun f s7 q7=>?_)
    have again:∀ {σ7:St} {H7:Hp},Inv X (pins++qI fp s5.heap) σ7 H7 s7->N σ7 H7->∃ m,m < n/\∃ i σ' H',Inv X pins σ' H' s7/\tn i s7.heap/\(∀ b∈fp,H' b=none)/\W i m σ' H':=fun {σ7 H7} I7 n7=>by
      obtain ⟨m',hm,w7⟩:=hN σ7 H7 n7
      refine ⟨m',hm,i + 1,σ7,H7,I7.unpinned,T.keep _ _ _ st5 fun b hb o e=>(I7.pin (b,o) (aV _ (aV _ (mf hb e)))).1,fun b hb=>?_,w7⟩
      obtain ⟨o,e,d⟩:=T.obj _ _ st5 b hb
      exact (I7.pin (b,o) (aV _ (aV _ (mf hb e)))).2.1
    cases f with
    | next=>obtain ⟨σ7,H7,I7,n7⟩:=q7; exact again I7 n7
    | cont=>obtain ⟨σ7,H7,I7,n7⟩:=q7; exact again I7 n7
    | brk=>obtain ⟨σ7,H7,I7,q7⟩:=q7; exact ⟨σ7,H7,I7.unpinned,q7⟩
    | ret v=>obtain ⟨x7,σ7,H7,I7,r7,q7⟩:=q7; exact ⟨x7,σ7,H7,I7.unpinned,r7,q7⟩
end
theorem jU {K:af} {a:aa} {xs:List V} {g:TG} {tb:TS} {D:jS} {σ:St} {H:Hp} (Pv:Nat->St->Hp->Prop) (h0:Pv 0 σ H) (hl:∀ i σ H,i<=xs.length->Pv i σ H->SqL K H a xs)
    (hs:∀ i x σ H,xs[i]?=some x->Pv i σ H->g x σ H fun σ2 H2=>tb {D with nx:=Pv (i + 1),ct:=Pv (i + 1),bk:=D.nx} σ2 H2) (hd:∀ σ H,Pv xs.length σ H->D.nx σ H) :
    ∃ W:Nat->Nat->St->Hp->Prop,(∃ m,W 0 m σ H)/\∀ i m σ H,W i m σ H ->
      ((Itl K a).stop i H/\D.nx σ H)\/((Itl K a).go i H/\∃ N:St->Hp->Prop,(∀ σ' H',N σ' H'->∃ m',m' < m/\W (i + 1) m' σ' H')/\∀ x H',(Itl K a).yld i H x H'->g x σ H' fun σ2 H2=>tb {D with nx:=N,ct:=N,bk:=D.nx} σ2 H2):=by
  refine ⟨fun i m σ H=>m=xs.length - i/\i<=xs.length/\Pv i σ H,⟨xs.length,by simp,bA _,h0⟩,?_⟩
  rintro i m σ H ⟨rfl,hi,p⟩
  have q:=hl i σ H hi p
  by_cases hlt:i < xs.length
  · refine .inr ⟨⟨xs,xs[i],q,by simp [hlt]⟩,Pv (i + 1),fun σ' H' p'=>⟨xs.length - (i + 1),by omega,rfl,hlt,p'⟩,fun x H' y=>?_⟩
    obtain ⟨e,y⟩:=y
    subst e
    exact hs i x σ _ (y xs q) p
  · have e:i=xs.length:=by omega
    subst e
    exact .inl ⟨⟨xs,q,aE _⟩,hd σ H p⟩
theorem uE {lo:Int} {n:Nat} {g:TG} {tb:TS} {D:jS} {σ:St} {H:Hp} (Pv:Nat->St->Hp->Prop) (h0:Pv 0 σ H)
    (hs:∀ i σ H,i < n->Pv i σ H->g (.int (lo + i)) σ H fun σ2 H2=>tb {D with nx:=Pv (i + 1),ct:=Pv (i + 1),bk:=D.nx} σ2 H2) (hd:∀ σ H,Pv n σ H->D.nx σ H) :
    ∃ W:Nat->Nat->St->Hp->Prop,(∃ m,W 0 m σ H)/\∀ i m σ H,W i m σ H ->
      ((Itr lo n).stop i H/\D.nx σ H)\/((Itr lo n).go i H/\∃ N:St->Hp->Prop,(∀ σ' H',N σ' H'->∃ m',m' < m/\W (i + 1) m' σ' H')/\∀ x H',(Itr lo n).yld i H x H'->g x σ H' fun σ2 H2=>tb {D with nx:=N,ct:=N,bk:=D.nx} σ2 H2):=by
  refine ⟨fun i m σ H=>m=n - i/\i<=n/\Pv i σ H,⟨n,by simp,bA _,h0⟩,?_⟩
  rintro i m σ H ⟨rfl,hi,p⟩
  by_cases hlt:i < n
  · refine .inr ⟨hlt,Pv (i + 1),fun σ' H' p'=>⟨n - (i + 1),by omega,rfl,hlt,p'⟩,fun x H' y=>?_⟩
    obtain ⟨e,y⟩:=y
    subst e y
    exact hs i σ _ hlt p
  · have e:i=n:=by omega
    subst e
    exact .inl ⟨aE _,hd σ H p⟩
theorem sC {c:TT} {tb:TS} {D:jS} {σ:St} {H:Hp} (Pv:St->Hp->Prop) (μ:St->Hp->Nat) (h0:Pv σ H)
    (hs:∀ σ H,Pv σ H->c σ H fun b H1=>if b=true then tb {D with nx:=fun σ' H'=>Pv σ' H'/\μ σ' H' < μ σ H,ct:=fun σ' H'=>Pv σ' H'/\μ σ' H' < μ σ H,bk:=D.nx} σ H1 else D.nx σ H1)
    (mono:∀ σ H Q Q',(∀ b H1,Q b H1->Q' b H1)->c σ H Q->c σ H Q'):Cv c tb D σ H:=by
  refine ⟨fun m σ H=>m=μ σ H/\Pv σ H,⟨_,rfl,h0⟩,?_⟩
  rintro m σ H ⟨rfl,p⟩
  refine mono σ H _ _ (fun b H1 q=>?_) (hs σ H p)
  cases b with
  | true=>exact ⟨_,fun σ' H' ⟨p',l⟩=>⟨_,l,rfl,p'⟩,q⟩
  | false=>exact q
end L2
namespace L2
open PySem PySem.Spec PyProof.Rows
abbrev R2:=V->V->Hp->VK->Prop
def OpR (X:Cx) (f:ae->ae->Sem ae) (r:R2):Prop:=
  ∀ (pins:List (aa×Obj)) (s:ao) (σ:St) (H:Hp) (x y:V) (v u:ae) (Q:VK),Inv X pins σ H s->RelV x v->RelV y u->r x y H Q ->
    aS (bb X.prog X.w) X.A (f v u) (EP X pins σ Q) X.xe s
def UnR (X:Cx) (f:ae->Sem ae) (r:V->Hp->VK->Prop):Prop:=
  ∀ (pins:List (aa×Obj)) (s:ao) (σ:St) (H:Hp) (x:V) (v:ae) (Q:VK),Inv X pins σ H s->RelV x v->r x H Q ->
    aS (bb X.prog X.w) X.A (f v) (EP X pins σ Q) X.xe s
def kG (X:Cx) (f:ae) (r:List V->Hp->VK->Prop):Prop:=
  ∀ (pins:List (aa×Obj)) (s:ao) (σ:St) (H:Hp) (xs:List V) (us:List ae) (Q:VK),Inv X pins σ H s->cY xs us->r xs H Q ->
    aS (bb X.prog X.w) X.A (vN f us) (EP X pins σ Q) X.xe s
def TruR (X:Cx) (r:V->Hp->(Bool->Hp->Prop)->Prop):Prop:=
  ∀ (pins:List (aa×Obj)) (s:ao) (σ:St) (H:Hp) (x:V) (v:ae) (Q:Bool->Hp->Prop),Inv X pins σ H s->RelV x v->r x H Q ->
    aS (bb X.prog X.w) X.A (yM v) (TP X pins σ Q) X.xe s
def tOp (r:R2) (ta tb:TE):TE:=fun σ H Q=>ta σ H fun x H1=>tb σ H1 fun y H2=>r x y H2 Q
def tUn (r:V->Hp->VK->Prop) (ta:TE):TE:=fun σ H Q=>ta σ H fun x H1=>r x H1 Q
def rI (C:Int->Int->Prop) (g:Int->Int->V):R2:=fun x y H Q=>∃ i j,x=.int i/\y=.int j/\C i j/\Q (g i j) H
def rI0 (g:Int->Int->V):R2:=fun x y H Q=>∃ i j,x=.int i/\y=.int j/\Q (g i j) H
def rU (g:Int->V):V->Hp->VK->Prop:=fun x H Q=>∃ i,x=.int i/\Q (g i) H
section
variable {X:Cx} {a b c:cA} {ta tb tc:TE} {pos:Pos}
theorem binT (ha:PE X a ta) (hb:PE X b tb) {pins:List (aa×Obj)} {s:ao} {σ:St} {H:Hp} {R:V->V->Hp->Prop} (I:Inv X pins σ H s)
    (h:ta σ H fun x H1=>tb σ H1 fun y H2=>R x y H2) {Q:ae->ao->Prop} {f:ae->ae->Sem ae}
    (hf:∀ v u s2 x y H2,Inv X pins σ H2 s2->RelV x v->RelV y u->R x y H2->aS (bb X.prog X.w) X.A (f v u) Q X.xe s2) :
    aS (bb X.prog X.w) X.A (eP a X.env) (fun v s₁=>aS (bb X.prog X.w) X.A (eP b X.env) (fun u s₂=>aS (bb X.prog X.w) X.A (f v u) Q X.xe s₂) X.xe s₁) X.xe s:=by
  refine thn (ha pins s σ H _ I h) fun v s1 ⟨x,H1,I1,r1,q1⟩=>?_
  refine thn (hb pins s1 σ H1 _ I1 q1) fun u s2 ⟨y,H2,I2,r2,q2⟩=>?_
  exact hf v u s2 x y H2 I2 r1 r2 q2
theorem cS {op:FJ} {r:R2} (ho:OpR X (hV op) r) (ha:PE X a ta) (hb:PE X b tb):PE X (.BinOp a op b pos) (tOp r ta tb):=by
  intro pins s σ H Q I h
  exact wpAny_BinOp (binT ha hb I h fun v u s2 x y H2 I2 rx ry q=>ho pins s2 σ H2 x y v u Q I2 rx ry q)
theorem sD {op:UnaryOp} {r:V->Hp->VK->Prop} (ho:UnR X (unaryOp op) r) (ha:PE X a ta):PE X (.UnaryOp op a pos) (tUn r ta):=by
  intro pins s σ H Q I h
  exact UnaryOp_ (thn (ha pins s σ H _ I h) fun v s1 ⟨x,H1,I1,r1,q1⟩=>ho pins s1 σ H1 x v Q I1 r1 q1)
theorem opI {f:ae->ae->Sem ae} {C:Int->Int->Prop} {g:Int->Int->Int}
    (rule:∀ (i j:Int) (t u:Tok) (s:ao) (Q:ae->ao->Prop) (E:ae->ao->Prop),C i j->Q (.int (g i j) s.toks) {s with toks:=s.toks + 1}->aS (bb X.prog X.w) X.A (f (.int i t) (.int j u)) Q E s) :
    OpR X f (rI C fun i j=>.int (g i j)):=by
  intro pins s σ H x y v u Q I rx ry h
  obtain ⟨i,j,rfl,rfl,hc,q⟩:=h
  obtain ⟨t,rfl⟩:=rx
  obtain ⟨t',rfl⟩:=ry
  exact rule i j t t' s _ _ hc ⟨.int (g i j),H,I.tok _,⟨_,rfl⟩,q⟩
theorem opI0 {f:ae->ae->Sem ae} {g:Int->Int->Int}
    (rule:∀ (i j:Int) (t u:Tok) (s:ao) (Q:ae->ao->Prop) (E:ae->ao->Prop),Q (.int (g i j) s.toks) {s with toks:=s.toks + 1}->aS (bb X.prog X.w) X.A (f (.int i t) (.int j u)) Q E s) :
    OpR X f (rI0 fun i j=>.int (g i j)):=by
  intro pins s σ H x y v u Q I rx ry h
  obtain ⟨i,j,rfl,rfl,q⟩:=h
  obtain ⟨t,rfl⟩:=rx
  obtain ⟨t',rfl⟩:=ry
  exact rule i j t t' s _ _ ⟨.int (g i j),H,I.tok _,⟨_,rfl⟩,q⟩
theorem IY {f:ae->ae->Sem ae} {g:Int->Int->Bool}
    (rule:∀ (i j:Int) (t u:Tok) (s:ao) (Q:ae->ao->Prop) (E:ae->ao->Prop),Q (.bool (g i j)) s->aS (bb X.prog X.w) X.A (f (.int i t) (.int j u)) Q E s) :
    OpR X f (rI0 fun i j=>.bl (g i j)):=by
  intro pins s σ H x y v u Q I rx ry h
  obtain ⟨i,j,rfl,rfl,q⟩:=h
  obtain ⟨t,rfl⟩:=rx
  obtain ⟨t',rfl⟩:=ry
  exact rule i j t t' s _ _ ⟨.bl (g i j),H,I,rfl,q⟩
def CDiv (i j:Int):Prop:=0 < j/\j < 1073741824
def FK (i j:Int):Prop:=0<=j/\j<=1000000/\i.natAbs < 2 ^ 64
def IZ (i j:Int):Prop:=(-(2 ^ 64) < i/\i < 2 ^ 64)\/(-(2 ^ 64) < j/\j < 2 ^ 64)
theorem IZ.ok {i j:Int} (h:IZ i j):IntMulOk i j:=by
  rcases h with ⟨h1,h2⟩ | ⟨h1,h2⟩
  · exact .of_left (intBits_le_64 h1 h2)
  · exact .of_right (intBits_le_64 h1 h2)
theorem gz:OpR X (hV .Add) (rI0 fun i j=>.int (i + j)):=opI0 fun _ _ _ _ _ _ _ q=>add_int q
theorem sE:OpR X (hV .Sub) (rI0 fun i j=>.int (i - j)):=opI0 fun _ _ _ _ _ _ _ q=>sub_int q
theorem pF:OpR X (hV .Mult) (rI IZ fun i j=>.int (i * j)):=opI fun _ _ _ _ _ _ _ hc q=>mul_int q hc.ok
theorem FL:OpR X (hV .FloorDiv) (rI CDiv fun i j=>.int (i / j)):=opI fun i j _ _ _ _ _ hc q=>by
  have h1:(0:Int) < j:=hc.1
  have h2:j < 1073741824:=hc.2
  exact CI (by omega) (by rw [vO i (by omega)]; exact q) (.inl (PyProof.noPylong_small (by omega)))
theorem mh:OpR X (hV .Mod) (rI (fun _ j=>0 < j) fun i j=>.int (i % j)):=opI fun i j _ _ _ _ _ hc q=>by
  have h1:(0:Int) < j:=hc
  exact mod_int' (by omega) (by rw [Int.fmod_eq_emod_of_nonneg i (by omega)]; exact q)
theorem FM:OpR X (hV .Mod) (rI (fun _ j=>j≠0) fun i j=>.int (i.fmod j)):=opI fun _ _ _ _ _ _ _ hc q=>mod_int' hc q
theorem yS:OpR X (hV .Pow) (rI FK fun i j=>.int (i ^ j.toNat)):=opI fun _ _ _ _ _ _ _ hc q=>pow_int_small hc.1 hc.2.1 hc.2.2 q
theorem unI {f:ae->Sem ae} {g:Int->Int}
    (rule:∀ (i:Int) (t:Tok) (s:ao) (Q:ae->ao->Prop) (E:ae->ao->Prop),Q (.int (g i) s.toks) {s with toks:=s.toks + 1}->aS (bb X.prog X.w) X.A (f (.int i t)) Q E s) :
    UnR X f (rU fun i=>.int (g i)):=by
  intro pins s σ H x v Q I rx h
  obtain ⟨i,rfl,q⟩:=h
  obtain ⟨t,rfl⟩:=rx
  exact rule i t s _ _ ⟨.int (g i),H,I.tok _,⟨_,rfl⟩,q⟩
theorem pG:UnR X (unaryOp .USub) (rU fun i=>.int (-i)):=unI fun _ _ _ _ _ q=>neg_int q
end
def scal:V->V->Bool
  | .non,.non=>true | .non,.int _=>true | .int _,.non=>true | .non,.bl _=>true | .bl _,.non=>true | .non,.str _=>true | .str _,.non=>true
  | .int _,.int _=>true | .bl _,.bl _=>true | .str _,.str _=>true | .byt _,.byt _=>true
  | .int _,.str _=>true | .str _,.int _=>true | .bl _,.str _=>true | .str _,.bl _=>true
  | _,_=>false
def rEq:R2:=fun x y H Q=>scal x y=true/\Q (.bl (decide (x=y))) H
def rNe:R2:=fun x y H Q=>scal x y=true/\Q (.bl (!decide (x=y))) H
theorem dec_int {i j:Int}:decide (V.int i=V.int j)=(i == j):=by
  rw [nJ]
  simp
theorem CJ {i j:Bool}:decide (V.bl i=V.bl j)=(i == j):=by
  rw [nJ]
  simp
theorem dec_str {i j:Str}:decide (V.str i=V.str j)=(i == j):=by
  rw [nJ]
  simp
theorem zX {i j:Array UInt8}:decide (V.byt i=V.byt j)=(i.toList == j.toList):=by
  rw [nJ]
  cases i
  cases j
  simp
section
variable {X:Cx} {a b c:cA} {ta tb tc:TE} {pos:Pos}
theorem d8 {pins:List (aa×Obj)} {σ:St} {H:Hp} {s:ao} {Q:VK} {k k':Bool} (I:Inv X pins σ H s) (q:Q (.bl k) H) (e:k=k'):EP X pins σ Q (.bool k') s:=by
  subst e
  exact ⟨.bl k,H,I,rfl,q⟩
theorem gc:OpR X (fh .Eq) rEq:=by
  intro pins s σ H x y v u Q I rx ry h
  obtain ⟨hs,q⟩:=h
  cases x with
  | non =>
    cases rx
    cases y with
    | non=>cases ry; exact PySem.EqNone.eq_none_none (d8 I q (by simp))
    | bl j=>cases ry; exact PySem.EqNone.eq_none_bool (d8 I q (by simp))
    | int j=>obtain ⟨t',rfl⟩:=ry; exact PySem.EqNone.eq_none_int (d8 I q (by simp))
    | str j=>obtain ⟨t',rfl⟩:=ry; exact PySem.EqNone.eq_none_str (d8 I q (by simp))
    | _=>exact absurd (show false=true from hs) bE
  | bl i =>
    cases rx
    cases y with
    | non=>cases ry; exact PySem.EqNone.eq_bool_none (d8 I q (by simp))
    | bl j=>cases ry; exact eq_bool (d8 I q CJ)
    | str j=>obtain ⟨t',rfl⟩:=ry; exact PySem.EqMixed.eq_bool_str (d8 I q (by simp))
    | _=>exact absurd (show false=true from hs) bE
  | int i =>
    obtain ⟨t,rfl⟩:=rx
    cases y with
    | non=>cases ry; exact PySem.EqNone.eq_int_none (d8 I q (by simp))
    | int j=>obtain ⟨t',rfl⟩:=ry; exact eq_int (d8 I q dec_int)
    | str j=>obtain ⟨t',rfl⟩:=ry; exact PySem.EqMixed.eq_int_str (d8 I q (by simp))
    | _=>exact absurd (show false=true from hs) bE
  | str i =>
    obtain ⟨t,rfl⟩:=rx
    cases y with
    | non=>cases ry; exact PySem.EqNone.eq_str_none (d8 I q (by simp))
    | bl j=>cases ry; exact PySem.EqMixed.eq_str_bool (d8 I q (by simp))
    | int j=>obtain ⟨t',rfl⟩:=ry; exact PySem.EqMixed.eq_str_int (d8 I q (by simp))
    | str j=>obtain ⟨t',rfl⟩:=ry; exact eq_str (d8 I q dec_str)
    | _=>exact absurd (show false=true from hs) bE
  | byt i =>
    obtain ⟨t,rfl⟩:=rx
    cases y with
    | byt j=>obtain ⟨t',rfl⟩:=ry; exact PySem.W.eq_bytes (d8 I q zX)
    | _=>exact absurd (show false=true from hs) bE
  | _=>cases y <;> exact absurd (show false=true from hs) bE
theorem zY:OpR X (fh .NotEq) rNe:=by
  intro pins s σ H x y v u Q I rx ry h
  obtain ⟨hs,q⟩:=h
  cases x with
  | non =>
    cases rx
    cases y with
    | non=>cases ry; exact PySem.EqNone.ne_none_none (d8 I q (by simp))
    | bl j=>cases ry; exact PySem.EqNone.ne_none_bool (d8 I q (by simp))
    | int j=>obtain ⟨t',rfl⟩:=ry; exact PySem.EqNone.ne_none_int (d8 I q (by simp))
    | str j=>obtain ⟨t',rfl⟩:=ry; exact PySem.EqNone.ne_none_str (d8 I q (by simp))
    | _=>exact absurd (show false=true from hs) bE
  | bl i =>
    cases rx
    cases y with
    | non=>cases ry; exact PySem.EqNone.ne_bool_none (d8 I q (by simp))
    | bl j=>cases ry; exact ne_bool (d8 I q (congrArg not CJ))
    | str j=>obtain ⟨t',rfl⟩:=ry; exact PySem.EqMixed.ne_bool_str (d8 I q (by simp))
    | _=>exact absurd (show false=true from hs) bE
  | int i =>
    obtain ⟨t,rfl⟩:=rx
    cases y with
    | non=>cases ry; exact PySem.EqNone.ne_int_none (d8 I q (by simp))
    | int j=>obtain ⟨t',rfl⟩:=ry; exact ne_int (d8 I q (congrArg not dec_int))
    | str j=>obtain ⟨t',rfl⟩:=ry; exact PySem.EqMixed.ne_int_str (d8 I q (by simp))
    | _=>exact absurd (show false=true from hs) bE
  | str i =>
    obtain ⟨t,rfl⟩:=rx
    cases y with
    | non=>cases ry; exact PySem.EqNone.ne_str_none (d8 I q (by simp))
    | bl j=>cases ry; exact PySem.EqMixed.ne_str_bool (d8 I q (by simp))
    | int j=>obtain ⟨t',rfl⟩:=ry; exact PySem.EqMixed.ne_str_int (d8 I q (by simp))
    | str j=>obtain ⟨t',rfl⟩:=ry; exact ne_str (d8 I q (congrArg not dec_str))
    | _=>exact absurd (show false=true from hs) bE
  | byt i =>
    obtain ⟨t,rfl⟩:=rx
    cases y with
    | byt j=>obtain ⟨t',rfl⟩:=ry; exact PySem.W.ne_bytes (d8 I q (congrArg not zX))
    | _=>exact absurd (show false=true from hs) bE
  | _=>cases y <;> exact absurd (show false=true from hs) bE
theorem uF:OpR X (fh .Lt) (rI0 fun i j=>.bl (decide (i < j))):=IY fun _ _ _ _ _ _ _ q=>lt_int q
theorem xl:OpR X (fh .Gt) (rI0 fun i j=>.bl (decide (j < i))):=IY fun _ _ _ _ _ _ _ q=>gt_int q
theorem HW:OpR X (fh .GtE) (rI0 fun i j=>.bl (decide (j<=i))):=IY fun _ _ _ _ _ _ _ q=>ge_int q
theorem cB (b:cA) {op:Kw} (h:op≠.In:=by decide) (h2:op≠.NotIn:=by decide):ke op b=false:=by
  have e1:(op == CmpOp.In)=false:=by cases op <;> first | rfl | exact absurd rfl h
  have e2:(op == CmpOp.NotIn)=false:=by cases op <;> first | rfl | exact absurd rfl h2
  cases b <;> simp [ke,e1,e2]
def uG (t:TE):TT:=fun σ H Q=>t σ H fun x H'=>∃ k,x=.bl k/\Q k H'
theorem bZ {op:Kw} {r:R2} (ho:OpR X (fh op) r) (ha:PE X a ta) (hb:PE X b tb) (hm:ke op b=false):PT X (.Compare a [op] [b] pos) (uG (tOp r ta tb)):=by
  intro pins s σ H Q I h
  refine Fs (thn (ha pins s σ H _ I h) fun v s1 ⟨x,H1,I1,r1,q1⟩=>thn (hb pins s1 σ H1 _ I1 q1) fun u s2 ⟨y,H2,I2,r2,q2⟩ =>
    thn (ho pins s2 σ H2 x y v u _ I2 r1 r2 q2) fun c s3 ⟨z,H3,I3,r3,k,e,q3⟩=>?_) hm
  subst e
  cases r3
  exact iq ⟨H3,I3,q3⟩
def I9 (K:af) (x:V) (H:Hp) (k:Bool):Prop:=
  match x with
  | .non=>k=false
  | .bl b=>k=b
  | .int i=>k=(i != 0)
  | .str y=>y.length<=az/\k=((y.length:Int) != 0)
  | .byt y=>y.size<=az/\k=((y.size:Int) != 0)
  | .ref p=>(∃ xs,SqL K H p xs/\k=!xs.isEmpty)\/(∃ xs,SqT K H p xs/\k=!xs.isEmpty)\/∃ kvs,H p=some (.dK kvs)/\k=!kvs.isEmpty
  | _=>False
theorem yT {κ:Type} {kvs:List (κ×V)} {vs:List (κ×ae)} (r:KV kvs vs):(!vs.isEmpty)=!kvs.isEmpty:=by
  cases r <;> rfl
theorem sJ {xs:List V} {its:List ae} (r:cY xs its):(!its.toArray.isEmpty)=!xs.isEmpty:=by
  cases r <;> simp
theorem sL:(az:Nat) < 2 ^ 63:=by rw [kr]; decide
theorem Ja:TruR X (fun x H Q=>∃ k,I9 X.K x H k/\Q k H):=by
  intro pins s σ H x v Q I rx h
  obtain ⟨k,e,q⟩:=h
  have hl:=sL
  have hs:az=16777216:=kr
  cases x with
  | non =>
    cases rx
    have e':k=false:=e
    subst e'
    exact truthy_none ⟨H,I,q⟩
  | bl b =>
    cases rx
    have e':k=b:=e
    subst e'
    exact iq ⟨H,I,q⟩
  | int i =>
    obtain ⟨t,rfl⟩:=rx
    have e':k=(i != 0):=e
    subst e'
    exact PySem.P.truthy_int ⟨H,I,q⟩
  | str y =>
    obtain ⟨t,rfl⟩:=rx
    obtain ⟨hy,e'⟩:y.length<=az/\k=((y.length:Int) != 0):=e
    subst e'
    exact PySem.P.truthy_str (by omega) ⟨H,I.tok _,q⟩
  | byt y =>
    obtain ⟨t,rfl⟩:=rx
    obtain ⟨hy,e'⟩:y.size<=az/\k=((y.size:Int) != 0):=e
    subst e'
    exact PySem.W.truthy_bytes (by omega) ⟨H,I.tok _,q⟩
  | ref p =>
    cases rx
    have e':(∃ xs,SqL X.K H p xs/\k=!xs.isEmpty)\/(∃ xs,SqT X.K H p xs/\k=!xs.isEmpty)\/∃ kvs,H p=some (.dK kvs)/\k=!kvs.isEmpty:=e
    rcases e' with ⟨xs,hx,e'⟩ | ⟨xs,hx,e'⟩ | ⟨kvs,hx,e'⟩
    · subst e'
      obtain ⟨its,r,pl,hz⟩:=I.list hx
      have hlen:=r.length
      exact wpAny_truthy_list pl.isList (by simp only [aA]; omega) ⟨H,I.tok _,by rw [sJ r]; exact q⟩
    · subst e'
      obtain ⟨its,r,pl,hz⟩:=I.tuple hx
      have hlen:=r.length
      exact truthy_tuple pl (by simp only [aA]; omega) ⟨H,I.tok _,by rw [sJ r]; exact q⟩
    · subst e'
      obtain ⟨hz,hS,vs,r,m⟩:kvs.length<=az/\(p == cU)=false/\∃ vs,KV kvs vs/\s.heap.DictOf (eU X.prog X.w) p vs:=I.hok p _ hx
      have hlen:kvs.length=vs.length:=bJ r
      exact wpAny_truthy_dict hS m (by omega) ⟨H,I.tok _,by rw [yT r]; exact q⟩
  | _=>exact (show False from e).elim
theorem pZ (ha:PE X a ta) (he:∀ whole,vH a X.env whole=(do let v <- whole; nh a.pos; jx [v] (yM v))) :
    PT X a (fun σ H Q=>ta σ H fun x H'=>∃ k,I9 X.K x H' k/\Q k H'):=by
  intro pins s σ H Q I h
  exact Cq (thn (ha pins s σ H _ I h) fun v s1 ⟨x,H1,I1,r1,q1⟩=>Ja pins s1 σ H1 x v Q I1 r1 q1) (he _)
theorem vals1 {x:V} {us:List ae} (r:cY [x] us):∃ u,us=[u]/\RelV x u:=by
  cases r with
  | cons r1 r2=>cases r2; exact ⟨_,rfl,r1⟩
theorem vals2 {x y:V} {us:List ae} (r:cY [x,y] us):∃ u w',us=[u,w']/\RelV x u/\RelV y w':=by
  cases r with
  | cons r1 r2 =>
    cases r2 with
    | cons r3 r4=>cases r4; exact ⟨_,_,rfl,r1,r3⟩
theorem CO:kG X (.builtin "abs") (fun xs H Q=>∃ i,xs=[.int i]/\Q (.int (if i < 0 then -i else i)) H):=by
  intro pins s σ H xs us Q I r h
  obtain ⟨i,rfl,q⟩:=h
  obtain ⟨u,rfl,t,rfl⟩:=vals1 r
  exact call_abs_int fun u tk=>⟨.int (if i < 0 then -i else i),H,I.tok _,⟨_,rfl⟩,q⟩
theorem qJ (hc:X.calm=true):kG X (.builtin "max") (fun xs H Q=>∃ i j,xs=[.int i,.int j]/\Q (.int (if j > i then j else i)) H):=by
  intro pins s σ H xs us Q I r h
  obtain ⟨i,j,rfl,q⟩:=h
  obtain ⟨u,w',rfl,⟨t,rfl⟩,⟨t',rfl⟩⟩:=vals2 r
  refine max_two_ints (I.ok.hd hc) fun h' tk k=>⟨_,H,I.kept k,?_,q⟩
  by_cases hj:j > i
  · rw [if_pos hj,if_pos hj]; exact ⟨_,rfl⟩
  · rw [if_neg hj,if_neg hj]; exact ⟨_,rfl⟩
theorem uH (hc:X.calm=true):kG X (.builtin "min") (fun xs H Q=>∃ i j,xs=[.int i,.int j]/\Q (.int (if j < i then j else i)) H):=by
  intro pins s σ H xs us Q I r h
  obtain ⟨i,j,rfl,q⟩:=h
  obtain ⟨u,w',rfl,⟨t,rfl⟩,⟨t',rfl⟩⟩:=vals2 r
  refine min_two_ints (I.ok.hd hc) fun h' tk k=>⟨_,H,I.kept k,?_,q⟩
  by_cases hj:j < i
  · rw [if_pos hj,if_pos hj]; exact ⟨_,rfl⟩
  · rw [if_neg hj,if_neg hj]; exact ⟨_,rfl⟩
end
end L2
namespace L2
open PySem PySem.Spec PyProof.Rows
structure yU (h:cb) (x dx C:aa) (mA:Str->Option ae):Prop where
  obj:h.get? x=some (gk C dx)
  ns:h.Ns1 dx mA
  ne:dx≠x
theorem Bg {h:cb} {dx:aa} {mA:Str->Option ae} (n:h.Ns1 dx mA):∃ od,h.get? dx=some od/\∀ name,nK name od=some (mA name):=by
  obtain ⟨o,es,ep,ho,hd,hk,_,hm⟩:=n
  refine ⟨o,ho,fun name=>?_⟩
  have e:=hm name
  unfold nsFind findBy at e
  rw [<- Array.find?_toList] at e
  unfold nK
  rw [hd]
  dsimp only
  split
  · rename_i y q
    rw [q] at e
    exact congrArg some e
  · rename_i q
    rw [q] at e
    have a:es.toList.any (·.refKey)=false:=by
      rw [List.any_eq_false]
      intro y hy
      obtain ⟨z,t,hkey⟩:=hk y (Array.mem_toList_iff.mp hy)
      simp [DictEntry.refKey,hkey]
    have a':¬ es.toList.any (·.refKey)=true:=by rw [a]; exact bE
    rw [if_neg a']
    exact congrArg some e
theorem yU.look {h:cb} {x dx C:aa} {mA:Str->Option ae} (I:yU h x dx C mA):∃ od,sM h x (gk C dx) C (some od)/\∀ name,nK name od=some (mA name):=
  let ⟨od,ho,hl⟩:=Bg I.ns
  ⟨od,⟨I.obj,rfl,rfl,ho⟩,hl⟩
section
variable {prog:aO} {w:bj} {A:bN} {E:ae->ao->Prop} {s:ao} {K:af} {x dx C f:aa} {mA:Str->Option ae} {name:Str} {v:ae}
theorem FN {expr:Bool} {Q:ae->ao->Prop} (X:K.In s.heap) (I:yU s.heap x dx C mA) (hg:lH K C name=true) (hh:p0 K C=true)
    (ha:aT K (.ref C) name=some none) (hv:mA name=some v) (hv':Bh v=true) (h:Q v {s with toks:=s.toks + 1}) :
    aS (bb prog w) A (getAttr (.ref x) name expr) Q E s:=by
  obtain ⟨od,J,hl⟩:=I.look
  exact PySem.W.get_value X J (oW hg).1 (PySem.W.findObj_own hh ha rfl (by rw [hl,hv])) hv' h
theorem CQ {pl:Sem Bool} {Q:ae×List ae->ao->Prop} (X:K.In s.heap) (I:yU s.heap x dx C mA) (hg:lH K C name=true)
    (hf:aT K (.ref C) name=some (some (.ref f))) (ht:mj K (.ref f)=true) (hv:mA name=none) (h:Q (.ref f,[.ref x]) s) :
    aS (bb prog w) A (jV (.ref x) name pl) Q E s:=by
  obtain ⟨od,J,hl⟩:=I.look
  exact PySem.W.method_fn X J (oW hg).1 (oW hg).2 hf (beq_iff_eq.mp ht) (by show (nK name od).map (·.isSome)=some false; rw [hl,hv]; rfl) h
theorem FP {ns:List Str} {Q:Unit->ao->Prop} (X:K.In s.heap) (I:yU s.heap x dx C mA)
    (hs:aT K (.ref C) "__setattr__"=some (some (.builtin "object.__setattr__"))) (hp:zZ K C=true) (ht:rH K C name=some none) (hh:p0 K C=true)
    (hw:xj mA ns) (hsz:ns.length<=az)
    (h:∀ h',yU h' x dx C (fun y=>if y=name then some v else mA y)->ng dx s.heap h'->Q () {s with heap:=h',toks:=s.toks + 2}) :
    aS (bb prog w) A (setAttr (.ref x) name v) Q E s:=by
  obtain ⟨od,J,hl⟩:=I.look
  refine PySem.W.set_plain X J hs (PySem.W.osa_open (s:={s with toks:=s.toks + 1}) (r:=none) X J hp ht fun b=>?_)
  obtain ⟨cd,hc,hd'⟩:=PySem.W.any_some hh
  have hx:s.heap.get? x=some ⟨.ref C,some dx,.plain,#[]⟩:=I.obj
  refine ag (aK (ag (ag (wpAny_loadPart hx (ag (PySem.W.Looks.here (s:={s with toks:=s.toks + 1}) (PySem.W.looks_clsIn X hc) ?_))))))
  rw [hd']
  refine aK (a:=some dx) (ag (aK (ag ?_)))
  refine wpAny_nsSet1 (s:={s with toks:=s.toks + 1}) I.ns fun h' hn2 hs2=>?_
  obtain ⟨oD,esD,epD,hoD,hdD,hcD⟩:=hn2.count (PySem.Within.cons name v hw)
  refine ag (wpAny_lookBehind hoD (by rw [hdD]; exact pastItsLine_dict (cv hcD (by rw [aL]; omega))) ?_)
  exact aK (h _ ⟨(hs2.2 _ (cj I.ne)).trans I.obj,hn2,I.ne⟩ hs2)
theorem CT {R:Jb->ao->Prop} {vs:List ae} {kw:List (Str×ae)} (X:K.In s.heap) (hm:rJ K C=true)
    (hi:aT K (.ref C) "__init__"=some (some (.ref f))) (hf:CV K (.ref f)=some (.type "function"))
    (h:ki (bb prog w) (A.under (.builtin "type.__call__" ⟨.ref C :: vs,kw⟩)) (.call (.ref f) ⟨.ref (s.heap.objs.size + 1) :: vs,kw⟩) (PySem.W.InitBack (s.heap.objs.size + 1) R)
      {s with heap:=(s.heap.push eG).push (gk C s.heap.objs.size)}) :
    ki (bb prog w) A (.call (.ref C) ⟨vs,kw⟩) R s:=by
  obtain ⟨hh,g,d,t,os⟩:=s
  exact PySem.W.make_core (PySem.W.makes_of X hm) (jf X hi) (fun self=>PySem.W.bind_fn X self hf) (.inl rfl) h
end
def cM (f:Str) (v:V):List (Str×V)->List (Str×V)
  | []=>[(f,v)]
  | (g,x) :: r=>if g=f then (g,v) :: r else (g,x) :: cM f v r
theorem cH (f g:Str) (v:V):∀ fs:List (Str×V),(cM f v fs).lookup g=if g=f then some v else fs.lookup g
  | []=>by
    show jC g [(f,v)]=_
    by_cases h:g=f
    · have hb:(g == f)=true:=beq_iff_eq.mpr h
      simp only [jC,hb,if_pos h]
    · have hb:(g == f)=false:=beq_eq_false_iff_ne.mpr h
      simp only [jC,hb,if_neg h]
  | (k,x) :: r=>by
    have ih:=cH f g v r
    rw [show cM f v ((k,x) :: r)=(if k=f then (k,v) :: r else (k,x) :: cM f v r) from rfl]
    by_cases hk:k=f
    · rw [if_pos hk]
      by_cases h:g=k
      · have hb:(g == k)=true:=beq_iff_eq.mpr h
        simp only [jC,hb,if_pos (h.trans hk)]
      · have hb:(g == k)=false:=beq_eq_false_iff_ne.mpr h
        simp only [jC,hb,if_neg (fun e:g=f=>h (e.trans hk.symm))]
    · rw [if_neg hk]
      by_cases h:g=k
      · have hb:(g == k)=true:=beq_iff_eq.mpr h
        simp only [jC,hb,if_neg (fun e:g=f=>hk (h.symm.trans e))]
      · have hb:(g == k)=false:=beq_eq_false_iff_ne.mpr h
        simp only [jC,hb]
        exact ih
theorem qK (f:Str) (v:V):∀ fs:List (Str×V),f∈(cM f v fs).map (·.1)/\∀ g,g∈fs.map (·.1)->g∈(cM f v fs).map (·.1)
  | []=>⟨by simp [cM],fun g h=>by simp at h⟩
  | (k,x) :: r=>by
    obtain ⟨i1,i2⟩:=qK f v r
    rw [show cM f v ((k,x) :: r)=(if k=f then (k,v) :: r else (k,x) :: cM f v r) from rfl]
    by_cases hk:k=f
    · rw [if_pos hk]
      subst hk
      exact ⟨by simp,fun g h=>by simpa using h⟩
    · rw [if_neg hk]
      refine ⟨?_,fun g h=>?_⟩
      · rw [cC]
        exact aj _ i1
      · rw [cC] at h |-
        rcases ak.mp h with e | e
        · exact ak.mpr (.inl e)
        · exact aj _ (i2 g e)
theorem eR (f:Str) (v:V):∀ fs:List (Str×V),(cM f v fs).length<=fs.length + 1
  | []=>by simp [cM]
  | (k,x) :: r=>by
    have ih:=eR f v r
    rw [show cM f v ((k,x) :: r)=(if k=f then (k,v) :: r else (k,x) :: cM f v r) from rfl]
    by_cases hk:k=f
    · rw [if_pos hk,aL,aL]; omega
    · rw [if_neg hk,aL,aL]; omega
theorem nC.some_of {v:V} {o:Option ae} (r:nC (some v) o):∃ u,o=some u/\RelV v u:=by
  cases o with
  | none=>exact (show False from r).elim
  | some u=>exact ⟨u,rfl,r⟩
theorem nC.none_of {o:Option ae} (r:nC none o):o=none:=by
  cases o with
  | none=>rfl
  | some u=>exact (show False from r).elim
theorem Bi {v:V} {u:ae} (r:RelV v u):Bh u=true:=by
  cases v with
  | non=>cases (show u=Value.none from r); rfl
  | bl b=>cases (show u=Value.bool b from r); rfl
  | int i=>obtain ⟨t,e⟩:=(show ∃ t,u=Value.int i t from r); cases e; rfl
  | str x=>obtain ⟨t,e⟩:=(show ∃ t,u=Value.str x t from r); cases e; rfl
  | byt b=>obtain ⟨t,e⟩:=(show ∃ t,u=Value.bytes b t from r); cases e; rfl
  | flt b=>obtain ⟨t,e⟩:=(show ∃ t,u=Value.float b t from r); cases e; rfl
  | ref a=>cases (show u=Value.ref a from r); rfl
  | ty n=>cases (show u=Value.type n from r); rfl
section
variable {P:aO} {w:bj} {H H':Hp} {h h':cb} {a C dx:aa} {fs fs':List (Str×V)}
theorem rQ (hok:HOk P w H h) (e:H a=some (.ins C dx fs)):∃ mA,yU h a dx C mA/\(∀ f,nC (fs.lookup f) (mA f))/\xj mA (fs.map (·.1))/\fs.length<=1000/\H dx=some (.own a):=by
  obtain ⟨d,z,ne,ob,mA,n,r,q⟩:=(show dI P w H h a (.ins C dx fs) from hok a _ e)
  exact ⟨mA,⟨ob,n,ne⟩,r,q,z,d⟩
end
structure Cls (K:af) (C:aa):Prop where
  pg:lH K C Str.empty=true
  hd:p0 K C=true
  po:zZ K C=true
  sa:aT K (.ref C) "__setattr__"=some (some (.builtin "object.__setattr__"))
theorem Cls.get {K:af} {C:aa} (c:Cls K C) (f:Str):lH K C f=true:=c.pg
def dG (K:af) (C:aa) (f:Str):Prop:=aT K (.ref C) f=some none
theorem dG.taker {K:af} {C:aa} {f:Str} (n:dG K C f):rH K C f=some none:=by
  unfold rH
  rw [show aT K (.ref C) f=some none from n]
  rfl
structure gu (K:af) (C:aa) (m:Str) (f:aa):Prop where
  at_:aT K (.ref C) m=some (some (.ref f))
  fn:mj K (.ref f)=true
  kp:e7 K (.ref f)=true
section
variable {X:Cx} {pins:List (aa×Obj)} {σ:St} {H:Hp} {s:ao} {a C dx:aa} {fs:List (Str×V)} {f:Str} {v:V} {A:bN} {E:ae->ao->Prop}
theorem sN {b:Bool} {Q:ae->ao->Prop} (I:Inv X pins σ H s) (e:H a=some (.ins C dx fs)) (c:Cls X.K C) (n:dG X.K C f) (l:fs.lookup f=some v)
    (h:∀ u s',Inv X pins σ H s'->RelV v u->Q u s'):aS (bb X.prog X.w) A (getAttr (.ref a) f b) Q E s:=by
  obtain ⟨mA,O,r,_,_,_⟩:=rQ I.hok e
  obtain ⟨u,hu,ru⟩:=nC.some_of (v:=v) (o:=mA f) (by rw [<- l]; exact r f)
  exact FN I.kIn O (c.get f) c.hd n hu (Bi ru) (h u _ (I.tok _) ru)
theorem pH {m:Str} {g:aa} {pl:Sem Bool} {Q:ae×List ae->ao->Prop} (I:Inv X pins σ H s) (e:H a=some (.ins C dx fs)) (c:Cls X.K C) (k:gu X.K C m g) (l:fs.lookup m=none)
    (h:Q (.ref g,[.ref a]) s):aS (bb X.prog X.w) A (jV (.ref a) m pl) Q E s:=by
  obtain ⟨mA,O,r,_,_,_⟩:=rQ I.hok e
  have hn:mA m=none:=nC.none_of (by rw [<- l]; exact r m)
  exact CQ I.kIn O (c.get m) k.at_ k.fn hn h
theorem sO {y:V} {u:ae} {Q:Unit->ao->Prop} (I:Inv X pins σ H s) (e:H a=some (.ins C dx fs)) (c:Cls X.K C) (n:dG X.K C f) (hl:fs.length < 1000) (ry:RelV y u)
    (h:∀ s',Inv X pins σ (upd H a (.ins C dx (cM f y fs))) s'->Q () s'):aS (bb X.prog X.w) A (setAttr (.ref a) f u) Q E s:=by
  obtain ⟨mA,O,r,wi,_,ho⟩:=rQ I.hok e
  have hz:(fs.map (·.1)).length<=az:=by rw [av,kr]; omega
  refine FP I.kIn O c.sa c.po n.taker c.hd wi hz fun h' O' sb=>h _ ?_
  have hd:∃ o,h'.get? dx=some o:=let ⟨o,_,_,e',_⟩:=O'.ns; ⟨o,e'⟩
  refine I.write (x:=a) (e:=dx) (by rw [e]; exact True.intro) (.inr ho) (fun b q hb z=>(sb.2 b hb).trans z) hd ?_
  refine ⟨by rw [aG O.ne]; exact ho,?_,O.ne,O'.obj,_,O'.ns,fun g=>?_,fun g hg=>?_⟩
  · have:=eR f y fs; omega
  · show nC ((cM f y fs).lookup g) (if g=f then some u else mA g)
    rw [cH]
    by_cases q:g=f
    · rw [if_pos q,if_pos q]; exact ry
    · rw [if_neg q,if_neg q]; exact r g
  · by_cases q:g=f
    · rw [q]; exact (qK f y fs).1
    · refine (qK f y fs).2 g (wi g fun z=>hg ?_)
      show (if g=f then some u else mA g)=none
      rw [if_neg q]; exact z
theorem Inv.made (I:Inv X pins σ H s):Inv X pins σ (upd (upd H s.heap.objs.size (.own (s.heap.objs.size + 1))) (s.heap.objs.size + 1) (.ins C s.heap.objs.size []))
    {s with heap:=(s.heap.push eG).push (gk C s.heap.objs.size)}:=by
  have e1:(s.heap.push eG).get? s.heap.objs.size=some eG:=bX s.heap rfl
  have e2:((s.heap.push eG).push (gk C s.heap.objs.size)).get? (s.heap.objs.size + 1)=some (gk C s.heap.objs.size):=by
    have:=bX (s.heap.push eG) (o:=gk C s.heap.objs.size) rfl
    rwa [kH] at this
  have e3:(s.heap.push eG).Ns s.heap.objs.size (fun _=>none):=⟨eG,#[],_,e1,rfl,(fun e he=>absurd he (by simp)),fun _=>rfl⟩
  have I1:=I.laid (a:=s.heap.objs.size) (o:=.own (s.heap.objs.size + 1)) (h':=s.heap.push eG) (t':=s.toks) (fun b u q=>aI _ q) (aE _) ⟨_,e1⟩
  refine I1.laid (a:=s.heap.objs.size + 1) (o:=.ins C s.heap.objs.size []) (t':=s.toks) (fun b u q=>aI _ q) (Nat.le_of_eq (kH _ _)) ?_
  have ne:s.heap.objs.size≠s.heap.objs.size + 1:=aR (m5 _)
  refine ⟨by rw [aG ne,ah],bA _,ne,e2,fun _=>none,(Heap.Ns1.of_empty e3).at fun o q=>aI _ q,fun _=>True.intro,fun y hy=>absurd rfl hy⟩
theorem FQ {prog:aO} {w:bj} {env:Env} {e:cA} {f:Str} {pos:Pos} {s:ao} {Q:ae->ao->Prop} (hb:kj e f env (eP e env)=eP e env)
    (h:aS (bb prog w) A (eP e env) (fun o s₁=>aS (bb prog w) A (getAttr o f true) Q E s₁) E s):aS (bb prog w) A (eP (.Attribute e f pos) env) Q E s:=
  Attribute_any_ h (by rw [arm_eval_Attribute,hb])
end
def FU (K:af) (ta:TE) (f:Str):TE:=fun σ H Q=>ta σ H fun x H1=>∃ a C dx fs v,x=.ref a/\H1 a=some (.ins C dx fs)/\Cls K C/\dG K C f/\fs.lookup f=some v/\Q v H1
def sFld (K:af) (ta tv:TE) (f:Str):TS:=fun D σ H=>tv σ H fun y H1=>ta σ H1 fun x H2=>∃ a C dx fs,x=.ref a/\H2 a=some (.ins C dx fs)/\Cls K C/\dG K C f/\fs.length < 1000 /\
  D.nx σ (upd H2 a (.ins C dx (cM f y fs)))
def InOp (X:Cx) (op:FJ) (rd:V->V->Hp->VK->Prop):Prop:=
  ∀ (pins:List (aa×Obj)) (s:ao) (σ:St) (H:Hp) (x y:V) (u v:ae) (Q:VK),Inv X pins σ H s->RelV x u->RelV y v->rd x y H Q->aS (bb X.prog X.w) X.A (inplaceOp op u v) (EP X pins σ Q) X.xe s
def FV (K:af) (ta tv:TE) (rd:V->V->Hp->VK->Prop) (f:Str):TS:=fun D σ H=>ta σ H fun x H1=>∃ a C dx fs v,x=.ref a/\H1 a=some (.ins C dx fs)/\Cls K C/\dG K C f/\fs.lookup f=some v /\
  tv σ H1 fun y H2=>rd v y H2 fun z H3=>∃ dx' fs',H3 a=some (.ins C dx' fs')/\fs'.length < 1000/\D.nx σ (upd H3 a (.ins C dx' (cM f z fs')))
section
variable {X:Cx} {o e value:cA} {f:Str} {pos pos' tpos:Pos} {ta tv:TE}
theorem cq (he:PE X e ta) (hb:kj e f X.env (eP e X.env)=eP e X.env):PE X (.Attribute e f pos) (FU X.K ta f):=by
  intro pins s σ H Q I h
  refine FQ hb (thn (he pins s σ H _ I h) fun u s1 ⟨x,H1,I1,rx,a,C,dx,fs,v,ex,ea,c,n,l,q⟩=>?_)
  subst ex
  obtain rfl:u=Value.ref a:=rx
  exact sN I1 ea c n l fun u' s2 I2 ru=>⟨v,H1,I2,ru,q⟩
theorem fk (ha:PE X o ta) (hv:PE X value tv) (hs:vJ value (some (.Attribute o f pos')) pos.line X.env=pure false):PS X (.Assign [.Attribute o f pos'] value pos) (sFld X.K ta tv f):=by
  intro pins s σ H D I h
  refine plainObj_wpAny_Assign_Attribute (thn (hv pins s σ H _ I h) fun u s1 ⟨y,H1,I1,ry,q⟩=>thn (ha pins s1 σ H1 _ I1 q) fun ov s2 ⟨x,H2,I2,rx,a,C,dx,fs,ex,ea,c,n,l,q2⟩=>?_) hs
  subst ex
  obtain rfl:ov=Value.ref a:=rx
  exact sO I2 ea c n l ry fun s3 I3=>⟨σ,_,I3,q2⟩
theorem uI {op:FJ} {rd:V->V->Hp->VK->Prop} (ha:PE X o ta) (hv:PE X value tv) (hop:InOp X op rd):PS X (.AugAssign (.Attribute o f tpos) op value pos) (FV X.K ta tv rd f):=by
  intro pins s σ H D I h
  refine wpAny_AugAssign_AttributeAny (thn (ha pins s σ H _ I h) fun ov s1 ⟨x,H1,I1,rx,a,C,dx,fs,v,ex,ea,c,n,l,q⟩=>?_)
  subst ex
  obtain rfl:ov=Value.ref a:=rx
  refine sN I1 ea c n l fun u s2 I2 ru=>thn (hv pins s2 σ H1 _ I2 q) fun w3 s3 ⟨y,H2,I3,ry,q3⟩=>thn (hop pins s3 σ H2 v y u w3 _ I3 ru ry q3) fun w4 s4 ⟨z,H3,I4,rz,dx',fs',ea',l',q4⟩=>?_
  exact sO I4 ea' c n l' rz fun s5 I5=>⟨σ,_,I5,q4⟩
def rAdd:V->V->Hp->VK->Prop:=fun x y H Q=>∃ i j,x=.int i/\y=.int j/\Q (.int (i + j)) H
theorem CZ:InOp X .Add rAdd:=by
  rintro pins s σ H x y u v Q I rx ry ⟨i,j,rfl,rfl,q⟩
  obtain ⟨t,rfl⟩:=(show ∃ t,u=Value.int i t from rx)
  obtain ⟨t',rfl⟩:=(show ∃ t',v=Value.int j t' from ry)
  exact PyProof.Rows.iadd_int ⟨.int (i + j),H,I.tok _,⟨_,rfl⟩,q⟩
theorem methcall_of {pl:Sem Bool} {m:Str} {apos:Pos} {args:List cA} {pins:List (aa×Obj)} {s:ao} {σ:St} {H:Hp} {Q:ae->ao->Prop} {te:TE} (he:PE X e te) (I:Inv X pins σ H s)
    (h:te σ H fun x H1=>∃ a C dx fs g,x=.ref a/\H1 a=some (.ins C dx fs)/\Cls X.K C/\gu X.K C m g/\fs.lookup m=none /\
      ∀ s1,Inv X pins σ H1 s1->aS (bb X.prog X.w) X.A (ua pos (.ref g) [.ref a] (gP pos (bU args X.env)) (oX pos (iZ [] X.env))) Q X.xe s1)
    (ht:eP (.Call (.Attribute e m apos) args [] pos) X.env=(do
      let ov <- eP e X.env
      nh apos.atName
      let (f,first) <- jx [ov] (jV ov m pl)
      ua pos f first (gP pos (bU args X.env)) (oX pos (iZ [] X.env)))) :
    aS (bb X.prog X.w) X.A (eP (.Call (.Attribute e m apos) args [] pos) X.env) Q X.xe s:=by
  refine gQ (pl:=pl) (thn (he pins s σ H _ I h) fun u s1 ⟨x,H1,I1,rx,a,C,dx,fs,g,ex,ea,c,k,l,q⟩=>?_) ht
  subst ex
  obtain rfl:u=Value.ref a:=rx
  exact pH I1 ea c k l (q s1 I1)
end
section
variable {X:Cx} {pins:List (aa×Obj)} {σ:St} {H:Hp} {s:ao} {A:bN} {E:ae->ao->Prop} {Q:ae->ao->Prop} {c:ae} {b:Bool}
inductive qL (K:af) (H:Hp):V->ae->Prop where
  | non:qL K H .non (.type "NoneType")
  | bl (x:Bool):qL K H (.bl x) (.type "bool")
  | int (i:Int):qL K H (.int i) (.type "int")
  | str (x:Str):qL K H (.str x) (.type "str")
  | flt (x:UInt64):qL K H (.flt x) (.type "float")
  | lst {a:aa} {xs:List V} (e:H a=some (.lst xs)):qL K H (.ref a) (.type "list")
  | frz {a:aa} {o:Obj} {xs:List V} (e:H a=some (.frz o (.lst xs))):qL K H (.ref a) (.type "list")
  | tup {a:aa} {xs:List V} (e:H a=some (.tup xs)):qL K H (.ref a) (.type "tuple")
  | dK {a:aa} {kvs:List (Key×V)} (e:H a=some (.dK kvs)):qL K H (.ref a) (.type "dict")
  | dT {a:aa} {kvs:List (List Key×V)} (e:H a=some (.dT kvs)):qL K H (.ref a) (.type "dict")
  | ins {a C dx:aa} {fs:List (Str×V)} (e:H a=some (.ins C dx fs)) (cl:Cls K C) (ha:aT K (.ref C) "__class__"=some (some (.builtin "object.__class__")))
      (hn:kJ K (.builtin "object.__class__") "__get__"=some (some (.builtin "getset_descriptor.__get__"))) (htk:B3 K (.builtin "object.__class__")=some true)
      (hm:uc K C (.type "object")=some true):qL K H (.ref a) (.ref C)
theorem Bj {x:V} {u t:ae} (I:Inv X pins σ H s) (rx:RelV x u) (ty:qL X.K H x t) (e:fE X.K t c=some b) (h:∀ tk,Q (.bool b) {s with toks:=tk}) :
    aS (bb X.prog X.w) A (vN (.builtin "isinstance") [u,c]) Q E s:=by
  cases ty with
  | non=>cases (show u=Value.none from rx); exact dU PySem.W.kitx_none I.kIn True.intro e (fun z=>nomatch z) h
  | bl y=>cases (show u=Value.bool y from rx); exact dU PySem.W.kitx_bool I.kIn True.intro e (fun z=>nomatch z) h
  | int i=>obtain ⟨t,q⟩:=(show ∃ t,u=Value.int i t from rx); cases q; exact dU PySem.W.kitx_int I.kIn True.intro e (fun z=>nomatch z) h
  | str y=>obtain ⟨t,q⟩:=(show ∃ t,u=Value.str y t from rx); cases q; exact dU PySem.W.kitx_str I.kIn True.intro e (fun z=>nomatch z) h
  | flt y=>obtain ⟨t,q⟩:=(show ∃ t,u=Value.float y t from rx); cases q; exact dU PySem.W.kitx_float I.kIn True.intro e (fun z=>nomatch z) h
  | @lst a xs ea =>
    cases (show u=Value.ref a from rx)
    obtain ⟨_,_,n,_,h1⟩:=(show dI X.prog X.w H s.heap a (.lst xs) from I.hok a _ ea)
    exact dU z6 I.kIn ⟨_,h1,rfl⟩ e (fun z=>nomatch z) h
  | @frz a ob xs ea =>
    cases (show u=Value.ref a from rx)
    obtain ⟨_,_,_,n,_,h1⟩:=(show dI X.prog X.w H s.heap a (.frz ob (.lst xs)) from I.hok a _ ea)
    exact dU z6 I.kIn ⟨_,h1,rfl⟩ e (fun z=>nomatch z) h
  | @tup a xs ea =>
    cases (show u=Value.ref a from rx)
    obtain ⟨_,_,_,p⟩:=(show dI X.prog X.w H s.heap a (.tup xs) from I.hok a _ ea)
    obtain ⟨o,h1,h2,_⟩:=p
    exact dU PySem.W.kitx_tuple I.kIn ⟨o,h1,h2⟩ e (fun z=>nomatch z) h
  | @dK a kvs ea =>
    cases (show u=Value.ref a from rx)
    obtain ⟨_,_,vs,_,p⟩:=(show dI X.prog X.w H s.heap a (.dK kvs) from I.hok a _ ea)
    obtain ⟨o,es,ep,h1,h2,_⟩:=p
    exact dU z7 I.kIn ⟨o,h1,h2.1⟩ e (fun z=>nomatch z) h
  | @dT a kvs ea =>
    cases (show u=Value.ref a from rx)
    obtain ⟨_,_,xs,_,o,es,ep,h1,h2,_⟩:=(show dI X.prog X.w H s.heap a (.dT kvs) from I.hok a _ ea)
    exact dU z7 I.kIn ⟨o,h1,h2.1⟩ e (fun z=>nomatch z) h
  | @ins a C dx fs ea cl ha hn htk hm =>
    cases (show u=Value.ref a from rx)
    obtain ⟨mA,O,_⟩:=rQ I.hok ea
    obtain ⟨od,J,_⟩:=O.look
    exact dU (PySem.W.kitx_own (cl.get _) cl.hd ha hn htk hm) I.kIn J e (fun z=>nomatch z) h
end
end L2
namespace L2
open PySem PySem.Spec PyProof.Rows
structure dN (k:Nat) (A:bN):Prop where
  hd:A.handled=none
  dp:A.depth + 3 * k + 5 < recursionLimit
  un:A.units + 16 * k + 200 < dW
theorem dN.mono {j k:Nat} {A:bN} (r:dN k A) (h:j<=k):dN j A:=⟨r.hd,by have:=r.dp; omega,by have:=r.un; omega⟩
theorem dN.deeper {k:Nat} {A:bN} (r:dN (k + 1) A) (env:Env):dN k (A.deeper env):=
  ⟨r.hd,by have:=r.dp; show A.depth + 1 + 3 * k + 5 < _; omega,by have:=r.un; show A.units + 3 + 16 * k + 200 < _; omega⟩
theorem yV {A:bN} {C:aa} {us:List ae} {kw:List (Str×ae)}:(A.under (.builtin "type.__call__" ⟨.ref C :: us,kw⟩)).depth=A.depth + 1:=by
  first | rfl | simp [xb,Code.weight,Code.isCreation,Code.isGuard,Code.isCaller,Code.frames,yF,guardIds]
theorem yW {A:bN} {C:aa} {us:List ae} {kw:List (Str×ae)}:(A.under (.builtin "type.__call__" ⟨.ref C :: us,kw⟩)).units=A.units + 1:=by
  first | rfl | simp [xb,Code.cUnits,Code.frames,yF]
theorem dN.make {k:Nat} {A:bN} (r:dN (k + 1) A) (C:aa) (us:List ae) (kw:List (Str×ae)):dN k (A.under (.builtin "type.__call__" ⟨.ref C :: us,kw⟩)):=
  ⟨r.hd,by have:=r.dp; rw [yV]; omega,by have:=r.un; rw [yW]; omega⟩
theorem dN.depth {k:Nat} {A:bN} (r:dN k A):A.depth < recursionLimit:=by have:=r.dp; omega
theorem dN.units {k:Nat} {A:bN} (r:dN k A):A.units + 64 < dW:=by have:=r.un; omega
def rK:TA:=fun _ H Q=>Q [] H
def iV (ta:TE) (tr:TA):TA:=fun σ H Q=>ta σ H fun x H1=>tr σ H1 fun xs H2=>Q (x :: xs) H2
section
variable {X:Cx} {e:cA} {es:List cA} {te:TE} {t:TA} {pos:Pos}
theorem ay:PA X [] rK:=fun _ _ _ _ H Q I h=>B5 ⟨[],H,I,.nil,h⟩
theorem ai (ha:PE X e te) (hr:PA X es t) (hs:bU (e :: es) X.env=(false,eP e X.env) :: bU es X.env:=by rfl):PA X (e :: es) (iV te t):=by
  intro pos pins s σ H Q I h
  rw [hs]
  show aS _ _ (spliced ((false,eP e X.env) :: gP pos (bU es X.env))) _ _ s
  refine Bk (thn (ha pins s σ H _ I h) fun u s1 ⟨x,H1,I1,r1,q1⟩=>?_)
  exact thn (hr pos pins s1 σ H1 _ I1 q1) fun us s2 ⟨xs,H2,I2,r2,q2⟩=>⟨x :: xs,H2,I2,.cons r1 r2,q2⟩
def Jc (t:TA):TE:=fun σ H Q=>t σ H fun xs H1=>xs.length<=az/\∀ p,H1 p=none->Q (.ref p) (upd H1 p (.tup xs))
def tLst (t:TA):TE:=fun σ H Q=>t σ H fun xs H1=>xs.length<=az/\∀ p,H1 p=none->Q (.ref p) (upd H1 p (.lst xs))
theorem cK {x1} (h:PA X es t):PE X (.Tuple es x1 pos) (Jc t):=by
  intro pins s σ H Q I hq
  refine wpAny_Tuple_spliced (thn (h pos pins s σ H _ I hq) fun us s1 ⟨xs,H1,I1,r,z,q⟩=>⟨by rw [<- r.length]; exact z,?_⟩)
  have hf:H1 s1.heap.objs.size=none:=I1.hok.fresh (aE _)
  refine ⟨.ref s1.heap.objs.size,upd H1 s1.heap.objs.size (.tup xs),I1.laid (t':=s1.toks) (fun b u e=>aI _ e) (aE _) ?_,rfl,q _ hf⟩
  exact ⟨z,us,r,⟨_,bX _ rfl,rfl,_,rfl⟩⟩
theorem dP (h:PA X es t):PE X (.List es pos) (tLst t):=by
  intro pins s σ H Q I hq
  refine wpAny_List_spliced (thn (h pos pins s σ H _ I hq) fun us s1 ⟨xs,H1,I1,r,z,q⟩=>⟨by rw [<- r.length]; exact z,?_⟩)
  have hf:H1 s1.heap.objs.size=none:=I1.hok.fresh (aE _)
  refine ⟨.ref s1.heap.objs.size,upd H1 s1.heap.objs.size (.lst xs),I1.laid (t':=s1.toks) (fun b u e=>aI _ e) (aE _) ?_,rfl,q _ hf⟩
  exact ⟨z,us,0,r,bX _ rfl⟩
end
abbrev Sp:=List V->Hp->VK->XK->Prop
abbrev CXT:=List Env->Hp->ao->XK->ae->ao->Prop
structure vP (P:aO) (w:bj) (K:af) (mg:Str->Option ae) (base:cb) (A:bN) (outer:List Env) (s:ao) (H:Hp):Prop where
  frames:A.frames=some outer
  mod:Mod K mg base
  bs:∀ b o,base.get? b=some o->s.heap.get? b=some o/\H b=none
  bsz:base.objs.size<=s.heap.objs.size
  funs:s.heap.FunFrames base outer
  frf:∀ b∈frs outer,H b=none
  hok:HOk P w H s.heap
  bare:m9 s.gens
def CE (outer:List Env) (P:aO) (w:bj) (H:Hp) (s:ao) (Q:VK) (u:ae) (s':ao):Prop:=
  ∃ v H',s'.os=s.os/\m9 s'.gens/\Un (frs outer) [] H H' s.heap s'.heap/\HOk P w H' s'.heap/\RelV v u/\Q v H'
def CR (CX:CXT) (outer:List Env) (P:aO) (w:bj) (H:Hp) (s:ao) (Q:VK) (E:XK) (r:Jb) (s':ao):Prop:=
  match r with
  | .ok (.ret u)=>CE outer P w H s Q u s'
  | .ok _=>False
  | .error e=>CX outer H s E e s'
structure bg (P:aO) (w:bj) (K:af) (mg:Str->Option ae) (base:cb) (CX:CXT) (k:Nat) (f:aa) (fd:bG) (ps:List Str) (sp:Sp):Prop where
  len:∀ vs H Q E,sp vs H Q E->vs.length=ps.length
  run:∀ (A:bN) (outer:List Env) (s:ao) (H:Hp) (args:Args) (us:List ae) (vs:List V) (Q:VK) (E:XK),dN k A->vP P w K mg base A outer s H->rj s fd args (ps.zip us)->cY vs us->sp vs H Q E ->
    ki (bb P w) A (.call (.ref f) args) (CR CX outer P w H s Q E) s
theorem bg.mono {P:aO} {w:bj} {K:af} {mg:Str->Option ae} {base:cb} {CX:CXT} {j k:Nat} {f:aa} {fd:bG} {ps:List Str} {sp:Sp} (F:bg P w K mg base CX j f fd ps sp) (h:j<=k) :
    bg P w K mg base CX k f fd ps sp:=⟨F.len,fun A outer s H args us vs Q E hr=>F.run A outer s H args us vs Q E (hr.mono h)⟩
theorem bg.imp {P:aO} {w:bj} {K:af} {mg:Str->Option ae} {base:cb} {CX:CXT} {k:Nat} {f:aa} {fd:bG} {ps:List Str} {sp sp':Sp} (F:bg P w K mg base CX k f fd ps sp)
    (h:∀ vs H Q E,sp' vs H Q E->sp vs H Q E):bg P w K mg base CX k f fd ps sp':=
  ⟨fun vs H Q E q=>F.len vs H Q E (h _ _ _ _ q),fun A outer s H args us vs Q E hr he hb hv hs=>F.run A outer s H args us vs Q E hr he hb hv (h _ _ _ _ hs)⟩
theorem vP.make {P:aO} {w:bj} {K:af} {mg:Str->Option ae} {base:cb} {A:bN} {outer:List Env} {s:ao} {H:Hp} (e:vP P w K mg base A outer s H) (C:aa) (us:List ae) (kw:List (Str×ae)) :
    vP P w K mg base (A.under (.builtin "type.__call__" ⟨.ref C :: us,kw⟩)) outer s H:=⟨by first | exact e.frames | (simpa [xb,Code.envs,yF,pushEnvs] using e.frames),e.mod,e.bs,e.bsz,e.funs,e.frf,e.hok,e.bare⟩
section
variable {X:Cx} {pins:List (aa×Obj)} {σ:St} {H:Hp} {s s':ao}
theorem Inv.env0 (I:Inv X pins σ H s):vP X.prog X.w X.K X.mg X.base X.A X.stack s H:=
  ⟨I.ok.frames,I.ok.mod,I.bs,cv I.ok.bsz I.sz,I.stack,I.stkFree,I.hok,I.bare⟩
theorem Inv.after {Q:VK} {u:ae} (I:Inv X pins σ H s) (h:CE X.stack X.prog X.w H s Q u s'):EP X pins σ Q u s':=by
  obtain ⟨v,H',os,bare,un,hok,r,q⟩:=h
  obtain ⟨hh,g,d,t,os'⟩:=s'
  obtain rfl:os'=s.os:=os
  exact ⟨v,H',I.call (h':=hh) (g':=g) (d':=d) (t':=t) (ch:=[]) un hok bare (fun b z=>absurd z (by simp)),r,q⟩
end
def C0 (sp:Sp) (dvs:List V) (E:XK) (t:TA):TE:=fun σ H Q=>t σ H fun vs H1=>sp (vs++dvs) H1 Q E
def HX (C:aa) (m:Str) (sp:Sp) (dvs:List V) (E:XK) (ta:TE) (t:TA):TE:=fun σ H Q=>ta σ H fun x H1=>∃ a dx fs,x=.ref a/\H1 a=some (.ins C dx fs)/\fs.lookup m=none /\
  t σ H1 fun vs H2=>sp (x :: (vs++dvs)) H2 Q E
def C1 (C:aa) (sp:Sp) (dvs:List V) (E:XK) (t:TA):TE:=fun σ H Q=>t σ H fun vs H1=>∀ x dx,H1 x=none->H1 dx=none->dx≠x ->
  sp (.ref x :: (vs++dvs)) (upd (upd H1 dx (.own x)) x (.ins C dx [])) (fun v H2=>v=.non/\Q (.ref x) H2) E
def Binds (K:af) (fd:bG) (ps:List Str) (ds:List ae):Prop:=
  ∀ (s:ao) (us:List ae),K.In s.heap->(us++ds).length=ps.length->rj s fd ⟨us,[]⟩ (ps.zip (us++ds))
theorem Binds.all {K:af} {fd:bG} {ps:List Str} (h:∀ us:List ae,us.length=ps.length->yX fd ⟨us,[]⟩=pure (ps.zip us)):Binds K fd ps []:=fun s us _ hl=>by
  rw [cW] at hl |-
  exact .of_eq (h us hl)
def jy (CX:CXT) (X:Cx) (E:XK):Prop:=∀ (pins:List (aa×Obj)) (σ:St) (H:Hp) (s:ao) (e:ae) (s':ao),Inv X pins σ H s->CX X.stack H s E e s'->X.xe e s'
section
variable {X:Cx} {CX:CXT} {k:Nat} {f C:aa} {fd:bG} {ps:List Str} {sp:Sp} {dvs:List V} {ds:List ae} {E:XK} {x m:Str} {p pos apos:Pos} {e o:cA} {es:List cA} {ta:TE} {t:TA}
theorem vQ {pins:List (aa×Obj)} {σ:St} {H:Hp} {s:ao} {Q:VK} {us:List ae} {vs:List V} (F:bg X.prog X.w X.K X.mg X.base CX k f fd ps sp) (hr:dN k X.A) (hb:Binds X.K fd ps ds) (hd:cY dvs ds) (hx:jy CX X E)
    (I:Inv X pins σ H s) (r:cY vs us) (h:sp (vs++dvs) H Q E):aS (bb X.prog X.w) X.A (vN (.ref f) us) (EP X pins σ Q) X.xe s:=by
  have r2:cY (vs++dvs) (us++ds):=r.append hd
  have hl:(us++ds).length=ps.length:=by rw [<- r2.length]; exact F.len _ _ _ _ h
  refine yY (lI (F.run X.A X.stack s H ⟨us,[]⟩ (us++ds) (vs++dvs) Q E hr I.env0 (hb s us I.kIn hl) r2 h) fun r s' hq=>?_)
  cases r with
  | error e=>exact hx pins σ H s e s' I hq
  | ok fl =>
    cases fl with
    | ret u=>exact I.after hq
    | next=>exact cV hq
    | brk=>exact cV hq
    | cont=>exact cV hq
theorem cw (F:bg X.prog X.w X.K X.mg X.base CX k f fd ps sp) (hr:dN k X.A) (hg:Gl X x) (hm:X.mg x=some (.ref f)) (hk:e7 X.K (.ref f)=true) (hb:Binds X.K fd ps ds) (hd:cY dvs ds) (hx:jy CX X E)
    (ha:PA X (e :: es) t) (hdb:(x == ("__debug__":Str))=false:=by decide) (he:bU (e :: es) X.env=(false,eP e X.env) :: bU es X.env:=by rfl) (hpl:(gP pos (bU es X.env)).any (·.1)=false:=by rfl) :
    PE X (.Call (.Name x p) (e :: es) [] pos) (C0 sp dvs E t):=by
  intro pins s σ H Q I h
  refine gU (md I hg hm ?_ hdb)
  refine iC (h₀:=X.base) I.ok.mod.kin hk (thn (ha pos pins s σ H _ I h) fun us s1 ⟨vs,H1,I1,r,q⟩=>⟨I1.kIn,?_⟩) he hpl
  exact vQ F hr hb hd hx I1 r q
theorem eI {pl:Sem Bool} (he:PE X o ta) (c:Cls X.K C) (hm:gu X.K C m f) (F:bg X.prog X.w X.K X.mg X.base CX k f fd ps sp) (hr:dN k X.A) (hb:Binds X.K fd ps ds) (hd:cY dvs ds) (hx:jy CX X E) (ha:PA X (e :: es) t)
    (hst:bU (e :: es) X.env=(false,eP e X.env) :: bU es X.env:=by rfl) (hpl:(gP pos (bU es X.env)).any (·.1)=false:=by rfl)
    (ht:eP (.Call (.Attribute o m apos) (e :: es) [] pos) X.env=(do
      let ov <- eP o X.env
      nh apos.atName
      let (f,first) <- jx [ov] (jV ov m pl)
      ua pos f first (gP pos (bU (e :: es) X.env)) (oX pos (iZ [] X.env))):=by rfl) :
    PE X (.Call (.Attribute o m apos) (e :: es) [] pos) (HX C m sp dvs E ta t):=by
  intro pins s σ H Q I h
  refine gQ (pl:=pl) (thn (he pins s σ H _ I h) fun u s1 ⟨x,H1,I1,rx,a,dx,fs,ex,ea,l,q⟩=>?_) ht
  subst ex
  obtain rfl:u=Value.ref a:=rx
  refine pH I1 ea c hm l ?_
  refine iC (first:=[.ref a]) (h₀:=X.base) I.ok.mod.kin hm.kp (thn (ha pos pins s1 σ H1 _ I1 q) fun us s2 ⟨vs,H2,I2,r,q2⟩=>⟨I2.kIn,?_⟩) hst hpl
  exact vQ (us:=.ref a :: us) (vs:=.ref a :: vs) F hr hb hd hx I2 (.cons rfl r) q2
theorem jg {pl:Sem Bool} (he:PE X o ta) (c:Cls X.K C) (hm:gu X.K C m f) (F:bg X.prog X.w X.K X.mg X.base CX k f fd ps sp) (hr:dN k X.A) (hb:Binds X.K fd ps ds) (hd:cY dvs ds) (hx:jy CX X E)
    (ht:eP (.Call (.Attribute o m apos) [] [] pos) X.env=(do
      let ov <- eP o X.env
      nh apos.atName
      let (f,first) <- jx [ov] (jV ov m pl)
      ua pos f first (gP pos (bU [] X.env)) (oX pos (iZ [] X.env))):=by rfl) :
    PE X (.Call (.Attribute o m apos) [] [] pos) (HX C m sp dvs E ta rK):=by
  intro pins s σ H Q I h
  refine gQ (pl:=pl) (thn (he pins s σ H _ I h) fun u s1 ⟨x,H1,I1,rx,a,dx,fs,ex,ea,l,q⟩=>?_) ht
  subst ex
  obtain rfl:u=Value.ref a:=rx
  refine pH I1 ea c hm l ?_
  exact oY (first:=[.ref a]) I1.kIn hm.kp (vQ (us:=[.ref a]) (vs:=[.ref a]) F hr hb hd hx I1 (.cons rfl .nil) q)
structure Mk (K:af) (C f:aa):Prop where
  makes:rJ K C=true
  init:aT K (.ref C) "__init__"=some (some (.ref f))
  fn:mj K (.ref f)=true
  kp:e7 K (.ref C)=true
theorem xm {pins:List (aa×Obj)} {σ:St} {H:Hp} {s:ao} {Q:VK} {us:List ae} {vs:List V} (M:Mk X.K C f) (F:bg X.prog X.w X.K X.mg X.base CX k f fd ps sp) (hr:dN (k + 1) X.A) (hb:Binds X.K fd ps ds) (hd:cY dvs ds)
    (hx:jy CX X E) (I:Inv X pins σ H s) (r:cY vs us)
    (h:∀ x dx,H x=none->H dx=none->dx≠x->sp (.ref x :: (vs++dvs)) (upd (upd H dx (.own x)) x (.ins C dx [])) (fun v H2=>v=.non/\Q (.ref x) H2) E) :
    aS (bb X.prog X.w) X.A (vN (.ref C) us) (EP X pins σ Q) X.xe s:=by
  have hq:=h (s.heap.objs.size + 1) s.heap.objs.size (I.hok.fresh (lY _)) (I.hok.fresh (aE _)) (aR (m5 _))
  have I2:=Inv.made (C:=C) I
  have r2:cY (V.ref (s.heap.objs.size + 1) :: (vs++dvs)) (Value.ref (s.heap.objs.size + 1) :: (us++ds)):=.cons rfl (r.append hd)
  have hl:(Value.ref (s.heap.objs.size + 1) :: us++ds).length=ps.length:=by
    have e:=r2.length
    rw [F.len _ _ _ _ hq] at e
    exact e.symm
  refine yY (CT (f:=f) I.kIn M.makes M.init (beq_iff_eq.mp M.fn) (lI (F.run _ X.stack _ _ ⟨Value.ref (s.heap.objs.size + 1) :: us,[]⟩ (Value.ref (s.heap.objs.size + 1) :: (us++ds)) _ _ E (hr.make C us [])
    (I2.env0.make C us []) (hb _ (Value.ref (s.heap.objs.size + 1) :: us) I2.kIn hl) r2 hq) fun r s' hq'=>?_))
  cases r with
  | error e=>exact hx pins σ _ _ e s' I2 hq'
  | ok fl =>
    cases fl with
    | ret u =>
      obtain ⟨v,H',I3,rv,ev,q3⟩:=I2.after hq'
      subst ev
      exact ⟨rv,⟨V.ref (s.heap.objs.size + 1),H',I3,rfl,q3⟩⟩
    | next=>exact cV hq'
    | brk=>exact cV hq'
    | cont=>exact cV hq'
theorem oK (M:Mk X.K C f) (F:bg X.prog X.w X.K X.mg X.base CX k f fd ps sp) (hr:dN (k + 1) X.A) (hg:Gl X x) (hm:X.mg x=some (.ref C)) (hb:Binds X.K fd ps ds) (hd:cY dvs ds) (hx:jy CX X E)
    (ha:PA X (e :: es) t) (hdb:(x == ("__debug__":Str))=false:=by decide) (he:bU (e :: es) X.env=(false,eP e X.env) :: bU es X.env:=by rfl) (hpl:(gP pos (bU es X.env)).any (·.1)=false:=by rfl) :
    PE X (.Call (.Name x p) (e :: es) [] pos) (C1 C sp dvs E t):=by
  intro pins s σ H Q I h
  refine gU (md I hg hm ?_ hdb)
  refine iC (h₀:=X.base) I.ok.mod.kin M.kp (thn (ha pos pins s σ H _ I h) fun us s1 ⟨vs,H1,I1,r,q⟩=>⟨I1.kIn,?_⟩) he hpl
  exact xm M F hr hb hd hx I1 r q
theorem C2 (M:Mk X.K C f) (F:bg X.prog X.w X.K X.mg X.base CX k f fd ps sp) (hr:dN (k + 1) X.A) (hg:Gl X x) (hm:X.mg x=some (.ref C)) (hb:Binds X.K fd ps ds) (hd:cY dvs ds) (hx:jy CX X E)
    (hdb:(x == ("__debug__":Str))=false:=by decide):PE X (.Call (.Name x p) [] [] pos) (C1 C sp dvs E rK):=by
  intro pins s σ H Q I h
  refine gU (md I hg hm ?_ hdb)
  exact oY I.kIn M.kp (xm (us:=[]) M F hr hb hd hx I .nil h)
end
section
variable {X:Cx} {CX:CXT} {k:Nat} {f C:aa} {fd:bG} {ps ks:List Str} {sp:Sp} {E:XK} {x m:Str} {p pos apos kpos:Pos} {e o:cA} {es:List cA} {kws:List yG} {te ta:TE} {t tk:TA} {nm:Option Str}
variable {g:List ae->List ae->List ae} {gV:List V->List V->List V}
end
structure bD (N P:List Str) (sc:kl):Prop where
  kind:sc.kind=.function
  co:sc.isCoroutine=false
  gen:sc.isGenerator=false
  nd:N.Nodup
  pre:N.take P.length=P
  par:∀ x∈P,sc.names.lookup x=some .local\/sc.names.lookup x=some .cell
  nofree:∀ y∈sc.names,y.2≠.free
theorem uJ {kindOf:Str->Option jz} {x:Str}:∀ {binds:List (Str×ae)} {m:Str->Option ae},(∀ v,(x,v)∉binds)->B6 kindOf binds m x=m x
  | [],_,_=>rfl
  | (n,v) :: r,m,h=>by
    unfold B6
    rw [uJ fun w hw=>h w (aj _ hw)]
    split
    · have:x≠n:=by rintro rfl; exact h v aJ
      simp [this]
    · rfl
theorem uK {kindOf:Str->Option jz} {x:Str}:∀ {binds:List (Str×ae)} {m:Str->Option ae},(∀ v,(x,v)∉binds)->B7 kindOf binds m x=m x
  | [],_,_=>rfl
  | (n,v) :: r,m,h=>by
    unfold B7
    rw [uK fun w hw=>h w (aj _ hw)]
    split
    · rfl
    · have:x≠n:=by rintro rfl; exact h v aJ
      simp [this]
theorem uL {kindOf:Str->Option jz} {x:Str} {v:ae}:∀ {P:List Str} {vs:List ae} {i:Nat} {m:Str->Option ae},P.Nodup->P[i]?=some x->vs[i]?=some v->kindOf x=some .local ->
    B6 kindOf (P.zip vs) m x=some v
  | [],_,_,_,_,h,_,_=>by simp at h
  | _ :: _,[],_,_,_,_,h,_=>by simp at h
  | p :: P,w :: vs,0,m,nd,h1,h2,hk=>by
    simp at h1 h2; subst h1; subst h2
    show B6 kindOf ((p,w) :: P.zip vs) m p=_
    unfold B6
    rw [uJ fun v hv=>(bh.mp nd).1 (nN hv).1,if_pos hk]
    simp
  | p :: P,w :: vs,i + 1,m,nd,h1,h2,hk=>by
    show B6 kindOf ((p,w) :: P.zip vs) m x=_
    unfold B6
    exact uL (i:=i) (bh.mp nd).2 (by simpa using h1) (by simpa using h2) hk
theorem uM {kindOf:Str->Option jz} {x:Str} {v:ae}:∀ {P:List Str} {vs:List ae} {i:Nat} {m:Str->Option ae},P.Nodup->P[i]?=some x->vs[i]?=some v->kindOf x≠some .local ->
    B7 kindOf (P.zip vs) m x=some v
  | [],_,_,_,_,h,_,_=>by simp at h
  | _ :: _,[],_,_,_,_,h,_=>by simp at h
  | p :: P,w :: vs,0,m,nd,h1,h2,hk=>by
    simp at h1 h2; subst h1; subst h2
    show B7 kindOf ((p,w) :: P.zip vs) m p=_
    unfold B7
    rw [uK fun v hv=>(bh.mp nd).1 (nN hv).1,if_neg hk]
    simp
  | p :: P,w :: vs,i + 1,m,nd,h1,h2,hk=>by
    show B7 kindOf ((p,w) :: P.zip vs) m x=_
    unfold B7
    exact uM (i:=i) (bh.mp nd).2 (by simpa using h1) (by simpa using h2) hk
def start (N:List Str) (vs:List V):St:=vs.map some++b7 (N.length - vs.length) none
def qM (CX:CXT) (P:aO) (w:bj) (K:af) (mg:Str->Option ae) (base:cb) (N:List Str) (qual:Str) (scope:kl) (f:aa) (cd:ae) (A:bN) (outer:List Env) (s:ao) (H:Hp) (E:XK):Cx where
  prog:=P
  w:=w
  K:=K
  mg:=mg
  base:=base
  A:=A.deeper (qN qual scope s.heap.objs.size f cd)
  N:=N
  s₀:=s
  H₀:=H
  env:=qN qual scope s.heap.objs.size f cd
  outer:=outer
  stack:=qN qual scope s.heap.objs.size f cd :: outer
  ex:=[]
  calm:=true
  fn:=fun _=>true
  pn:=[]
  xe:=fun e s'=>aS (bb P w) (A.deeper (qN qual scope s.heap.objs.size f cd)) (yH (qN qual scope s.heap.objs.size f cd) e) (fun _ s''=>CX outer H s E e s'') (fun e' s''=>CX outer H s E e' s'') s'
theorem xn {sc:kl} {n:Nat} {x:Str} (h:sc.names.lookup x=some .cell):∃ c,(B8 n sc.names []).lookup x=some c:=by
  have q:=mm sc.names n [] (.inl h)
  exact Option.isSome_iff_exists.mp q
theorem uN {CX:CXT} {P:aO} {w:bj} {K:af} {mg:Str->Option ae} {base:cb} {N ps:List Str} {qual:Str} {scope:kl} {f:aa} {cd:ae} {A:bN} {outer:List Env} {s s1:ao} {H:Hp} {E:XK} {us:List ae} {vs:List V}
    (S:bD N ps scope) (hd:A.handled=none) (e0:vP P w K mg base A outer s H) (hl:vs.length=ps.length) (r:cY vs us)
    (x:InCallC s s.heap.objs.size (B6 (qN qual scope s.heap.objs.size f cd).kindOf (ps.zip us) fun _=>none) (B8 (s.heap.objs.size + 1) scope.names []) (B7 (qN qual scope s.heap.objs.size f cd).kindOf (ps.zip us) fun _=>none) s1) :
    Inv (qM CX P w K mg base N qual scope f cd A outer s H E) [] (start N vs) H s1:=by
  have hpl:ps.length<=N.length:=by have:=congrArg sP S.pre; rw [cN] at this; omega
  obtain ⟨h1,tk,rfl,hk⟩:=x.done
  have noA:∀ b:aa,b∉(qM CX P w K mg base N qual scope f cd A outer s H E).ex:=fun b z=>absurd (show b∈([]:List aa) from z) (by simp)
  refine ⟨⟨e0.mod,S.kind,rfl,rfl,aE _,fun y z c h1 h2=>?_,fun y hy=>?_,fun y c _ h=>?_,fun _=>hd,Around.frames_deeper e0.frames,.inr ⟨rfl,rfl⟩,fun b z=>absurd z (noA b),e0.bs,e0.bsz,fun b _ _=>noA b,fun b z=>absurd z (noA b),e0.funs,e0.frf⟩,
    rfl,e0.bare,Un.kept hk,⟨_,x.toInCall.ns,fun i y v h1 h2 h3=>?_⟩,fun y c h=>⟨_,x.cell y c h⟩,e0.hok.fresh (aE _),fun y c h=>?_,fun p hp=>absurd (show p∈([]:List (aa×Obj)) from hp) (by simp),e0.hok.kept hk,?_⟩
  · exact name_of_addr x.apart (fq h1) (fq h2)
  · have hy:scope.names.lookup y=some .cell\/scope.names.lookup y=some .free:=hy
    rcases hy with hy | hy
    · exact xn hy
    · exact absurd rfl (S.nofree _ (fq hy))
  · exact nF (x.above y c (fq h))
  · have hi:i < vs.length:=by
      unfold start at h2
      by_cases hi:i < vs.length
      · exact hi
      · rw [dD (by simpa using hi)] at h2
        rw [mU] at h2
        split at h2 <;> cases h2
    have ha:vs[i]?=some v:=by
      unfold start at h2
      rw [iu (by simpa using hi),bf] at h2
      cases e:vs[i]? with
      | none=>rw [e] at h2; cases h2
      | some a=>rw [e] at h2; cases h2; rfl
    obtain ⟨u,hu,rv⟩:=r.get ha
    have hp:ps[i]?=some y:=by
      rw [<- S.pre,List.getElem?_take_of_lt (by omega)]; exact h1
    have ndP:ps.Nodup:=by rw [<- S.pre]; exact S.nd.sublist (C3 _ _)
    refine ⟨u,rv,?_⟩
    rcases S.par y (aM hp) with k | k
    · exact .inl ⟨k,uL ndP hp hu k⟩
    · obtain ⟨c,e⟩:=xn (n:=s.heap.objs.size + 1) k
      refine .inr ⟨.inl k,c,e,?_⟩
      have q:=x.cell y c e
      rw [uM ndP hp hu (by show scope.names.lookup y≠_; rw [k]; decide)] at q
      exact q
  · exact e0.hok.fresh (nF (x.above y c (fq h)))
  · unfold start
    show _=N.length
    rw [aB,av,jh]
    omega
theorem HY {CX:CXT} {P:aO} {w:bj} {K:af} {mg:Str->Option ae} {base:cb} {k:Nat} {f:aa} {name qual:Str} {params:Arguments} {body:List cR} {scope:kl} {dV kV doc pm cdv ct oc:ae} {an od:Option aa}
    {osl:Array (Option ae)} {N ps:List Str} {sp:Sp} (lk:K.lookup f=some ⟨oc,od,.func (eJ name qual params body scope dV kV doc pm an cdv ct),osl⟩) (hcd:iM K cdv qual=true) (S:bD N ps scope)
    (len:∀ vs H Q E,sp vs H Q E->vs.length=ps.length)
    (hbody:∀ (A:bN) (outer:List Env) (s:ao) (H:Hp) (vs:List V) (Q:VK) (E:XK),dN k (A.deeper (qN qual scope s.heap.objs.size f cdv))->sp vs H Q E ->
      ∃ t,PSs (qM CX P w K mg base N qual scope f cdv A outer s H E) body t/\t {nx:=fun _ H'=>Q .non H',rt:=Q} (start N vs) H) :
    bg P w K mg base CX (k + 1) f (eJ name qual params body scope dV kV doc pm an cdv ct) ps sp:=by
  refine ⟨len,fun A outer s H args us vs Q E hr e0 hb r hsp=>?_⟩
  have hl:=len _ _ _ _ hsp
  have KX:K.In s.heap:=e0.mod.kin.keeps fun b o e=>(e0.bs b o e).1
  have lim:s.heap.NoLimit:=e0.mod.nolimit.keeps fun b o e=>(e0.bs b o e).1
  have hkind:∀ y∈ps.zip us,scope.names.lookup y.1=some .local\/(scope.names.lookup y.1=some .cell/\((B8 (s.heap.objs.size + 1) scope.names []).lookup y.1).isSome=true):=fun ⟨n,v⟩ hy=>by
    rcases S.par n (nN hy).1 with q | q
    · exact .inl q
    · exact .inr ⟨q,mm _ _ _ (.inl q)⟩
  refine Fu hr.depth (KX _ _ lk) rfl S.co S.gen rfl (yZ KX hcd) (hb _ _ _ _ ?_)
  refine y8 S.kind hkind fun env he s1 x=>?_
  subst he
  refine ⟨lim.keeps x.toInCall.keep,codeAny_func ?_⟩
  obtain ⟨t,ht,hq⟩:=hbody A outer s H vs Q E (hr.deeper _) hsp
  have I:Inv (qM CX P w K mg base N qual scope f cdv A outer s H E) [] (start N vs) H s1:=uN S hr.hd e0 hl r x
  refine dv (ht [] s1 (start N vs) H _ I hq) (fun fl s' hs=>?_) fun e s' hs=>hs
  have fin:∀ {σ':St} {H':Hp} {v:V} {u:ae},Inv (qM CX P w K mg base N qual scope f cdv A outer s H E) [] σ' H' s'->RelV v u->Q v H'->CE outer P w H s Q u s':=
    fun {σ' H' v u} J rv q=>⟨v,H',J.os,J.bare,J.base,J.hok,rv,q⟩
  cases fl with
  | ret u =>
    obtain ⟨v,σ',H',J,rv,q⟩:=hs
    exact fin J rv q
  | next =>
    obtain ⟨σ',H',J,q⟩:=hs
    exact fin (v:=V.non) (u:=Value.none) J rfl q
  | brk =>
    obtain ⟨_,_,_,q⟩:=hs
    exact cV q
  | cont =>
    obtain ⟨_,_,_,q⟩:=hs
    exact cV q
end L2
namespace L2
open PySem PySem.Spec PyProof.Rows
section
variable {X:Cx} {x:Str} {p pos:Pos} {e:cA} {es:List cA} {t:TA} {id T:String} {r:List V->Hp->VK->Prop}
def tCB (r:List V->Hp->VK->Prop) (t:TA):TE:=fun σ H Q=>t σ H fun vs H1=>r vs H1 Q
theorem cZ (hc:kG X (.builtin id) r) (hg:Gl X x) (hm:X.mg x=none) (hv:eE x=some (.builtin id)) (ha:PA X (e :: es) t) (hn:x≠"__name__":=by decide) (hdb:(x == ("__debug__":Str))=false:=by decide)
    (he:bU (e :: es) X.env=(false,eP e X.env) :: bU es X.env:=by rfl) (hpl:(gP pos (bU es X.env)).any (·.1)=false:=by rfl):PE X (.Call (.Name x p) (e :: es) [] pos) (tCB r t):=by
  intro pins s σ H Q I h
  refine gU (qG I hg hm hv ?_ hn hdb)
  exact PyProof.Rows.callWith_builtin1 (thn (ha pos pins s σ H _ I h) fun us s1 ⟨vs,H1,I1,r1,q1⟩=>hc pins s1 σ H1 vs us Q I1 r1 q1) he hpl
theorem lJ (hc:kG X (.type T) r) (hg:Gl X x) (hm:X.mg x=none) (hv:eE x=some (.type T)) (ha:PA X (e :: es) t) (hn:x≠"__name__":=by decide) (hdb:(x == ("__debug__":Str))=false:=by decide)
    (he:bU (e :: es) X.env=(false,eP e X.env) :: bU es X.env:=by rfl) (hpl:(gP pos (bU es X.env)).any (·.1)=false:=by rfl):PE X (.Call (.Name x p) (e :: es) [] pos) (tCB r t):=by
  intro pins s σ H Q I h
  refine gU (qG I hg hm hv ?_ hn hdb)
  exact gG (thn (ha pos pins s σ H _ I h) fun us s1 ⟨vs,H1,I1,r1,q1⟩=>hc pins s1 σ H1 vs us Q I1 r1 q1) he hpl
end
end L2
namespace HT
open PySem PyProof.Rows
def lexLt:List Int->List Int->Bool
  | [],[]=>false
  | [],_ :: _=>true
  | _ :: _,[]=>false
  | x :: xs,y :: ys=>if x=y then lexLt xs ys else decide (x < y)
theorem lexLt_cons (x y:Int) (xs ys:List Int):lexLt (x :: xs) (y :: ys)=if x=y then lexLt xs ys else decide (x < y):=rfl
theorem px:lexLt [] []=false:=rfl
theorem nP (y:Int) (ys:List Int):lexLt [] (y :: ys)=true:=rfl
theorem nU (x:Int) (xs:List Int):lexLt (x :: xs) []=false:=rfl
theorem xo (A:bN) (s:ao) (a:Int) (t:Tok) (c:Int) (u:Tok):∃ e,SeqAt.EqAt A s (.int a t) (.int c u) e/\(e=true↔a=c):=
  ⟨(a == c),SeqAt.EqAt.int_int a t c u,by simp⟩
theorem C4 (A:bN) (s:ao) (a:Int) (t:Tok) (c:Int) (u:Tok) (prog:aO) (w:bj) (E:ae->ao->Prop) (Q:ae->ao->Prop) (h:Q (.bool (decide (a < c))) s) :
    aS (bb prog w) A (qO .Lt (.int a t) (.int c u)) Q E s:=
  (PyProof.Rows.lt_int h:aS (bb prog w) A (fh .Lt (.int a t) (.int c u)) Q E s)
section
open PySem.SeqAt
open PySem.AutoSeq1 (wpAny_loadPart')
open PySem.MeetsSeq PySem.MeetsSeq2 PySem.MeetsSeq3
theorem ue (l b:aa) (items items2:Array ae) (n n2:Nat) (dd dd2:Option aa) (sl sl2:Array (Option ae)) (ns ms:List Int) (hi:fA items.toList ns) (hj:fA items2.toList ms) :
    Meets (gW.«tuple.__lt__» ⟨[.ref l,.ref b],[]⟩)
      (fun _ R s=>s.heap.get? l=some {cls:=.type "tuple",dict:=dd,data:=.seq items n,slots:=sl}/\s.heap.get? b=some {cls:=.type "tuple",dict:=dd2,data:=.seq items2 n2,slots:=sl2} /\
        R (.ok (.ret (.bool (lexLt ns ms)))) s):=
  .of_wp fun prog w A R s h=>by
    obtain ⟨hp,g,d,tk,os⟩:=s; obtain ⟨hl,hb,h⟩:=h
    have f2:=tY
    have z1:items.size=ns.length:=by rw [<- hi.length]; simp
    have z2:items2.size=ms.length:=by rw [<- hj.length]; simp
    wp_walk using cP hl,cP hb,vR _ (fun rest b s'=>b.1=none/\s'=⟨hp,g,d,tk,os⟩/\∃ (vs ws:List ae) (ns' ms':List Int),rest=vs.zip ws /\
      fA vs ns'/\fA ws ms'/\ns'.length + items2.size=ms'.length + items.size/\R (.ok (.ret (.bool (lexLt ns' ms')))) ⟨hp,g,d,tk,os⟩) _
    case turn =>
      rintro ⟨y,x⟩ rest b s' ⟨hb',rfl,vs,ws,ns',ms',hz,hvi,hwi,hlen,hR⟩
      cases hvi with
      | nil=>rw [C5] at hz; cases hz
      | cons a t hvi' =>
        cases hwi with
        | nil=>rw [B9] at hz; cases hz
        | cons c u hwi' =>
          rw [kK] at hz
          injection hz with hyx hrest
          injection hyx with hy hx
          subst hy hx
          rw [lexLt_cons] at hR
          simp only [aL] at hlen
          obtain ⟨e,he,hiff⟩:=xo A.in1 ⟨hp,g,d,tk,os⟩ a t c u
          refine ag (he prog w _ _ ?_)
          cases e with
          | true =>
            rw [if_pos (hiff.mp rfl)] at hR
            wp_walk
            exact ⟨rfl,rfl,_,_,_,_,hrest,hvi',hwi',by omega,hR⟩
          | false =>
            rw [if_neg (fun q=>absurd (hiff.mpr q) bE)] at hR
            have hri:=C4 A.in1 ⟨hp,g,d,tk,os⟩ a t c u prog w
            wp_walk using hri
            exact ⟨_,rfl,by simpa using hR⟩
    case fin =>
      rintro ⟨b1,b2⟩ s' ⟨hb',rfl,vs,ws,ns',ms',hz,hvi,hwi,hlen,hR⟩
      simp only at hb'
      subst hb'
      have hv:lexLt ns' ms'=decide (items.size < items2.size):=by
        cases hvi with
        | nil =>
          cases hwi with
          | nil =>
            simp only [cy] at hlen
            rw [px]
            exact (decide_eq_false (by omega)).symm
          | cons c u hw =>
            simp only [cy,aL] at hlen
            rw [nP]
            exact (decide_eq_true (by omega)).symm
        | cons a t hv =>
          cases hwi with
          | nil =>
            simp only [cy,aL] at hlen
            rw [nU]
            exact (decide_eq_false (by omega)).symm
          | cons c u hw =>
            rw [kK] at hz
            cases hz
      rw [hv] at hR
      wp_walk
      exact ⟨_,rfl,by simpa [oM] using hR⟩
    case h =>
      exact ⟨rfl,rfl,items.toList,items2.toList,ns,ms,rfl,hi,hj,by omega,h⟩
end
section
variable {prog:aO} {w:bj} {A:bN} {E:ae->ao->Prop} {s:ao}
theorem lt_tupInts {l b:aa} {items items2:Array ae} {ns ms:List Int} {Q:ae->ao->Prop} (hl:t5 s.heap l items) (hb:t5 s.heap b items2) (hi:fA items.toList ns) (hj:fA items2.toList ms)
    (hu:A.units < dW) (h:Q (.bool (lexLt ns ms)) s):aS (bb prog w) A (fh .Lt (.ref l) (.ref b)) Q E s:=by
  obtain ⟨⟨cls,dd,data,sl⟩,ho,hc,n,hd⟩:=id hl
  obtain ⟨⟨cls2,dd2,data2,sl2⟩,ho2,hc2,n2,hd2⟩:=id hb
  simp only at hc hd hc2 hd2
  subst hc hd hc2 hd2
  exact C6 (op:=.Lt) ⟨_,ho,rfl⟩ ⟨_,ho2,rfl⟩ PySem.F.slot_tuple_lt PySem.F.entry_tuple_lt (PySem.F.args_tuple_lt_2 _ _) (ue l b items items2 n n2 dd dd2 sl sl2 ns ms hi hj)
    ⟨ho,ho2,show Value.bool (lexLt ns ms)≠Value.notImplemented/\Q (.bool (lexLt ns ms)) s from ⟨(fun x=>nomatch x),h⟩⟩ hu
theorem cat_tup {t b:aa} {vs ws:List ae} {Q:ae->ao->Prop} (ht:t5 s.heap t vs.toArray) (hb:t5 s.heap b ws.toArray) (hv:vs≠[])
    (h1:ws=[]->Q (.ref t) s) (h2:ws≠[]->Q (.ref s.heap.objs.size) {s with heap:=s.heap.push {cls:=.type "tuple",data:=.seq (vs++ws).toArray}})
    (hsz:vs.length + ws.length<=az):aS (bb prog w) A (hV .Add (.ref t) (.ref b)) Q E s:=by
  obtain ⟨⟨cls,dd,data,sl⟩,ho,hc,n,hd⟩:=id ht
  obtain ⟨⟨cls2,dd2,data2,sl2⟩,ho2,hc2,n2,hd2⟩:=id hb
  simp only at hc hd hc2 hd2
  subst hc hd hc2 hd2
  have e:vs.toArray++ws.toArray=(vs++ws).toArray:=by simp
  by_cases hw:ws=[]
  · exact concat_meets ⟨_,ho,rfl⟩ ⟨_,ho2,rfl⟩ noFill_tuple_add seq_tuple_add vS uO (uf _ _)
      (tuple_addW1 t b vs.toArray ws.toArray n n2 dd dd2 sl sl2 (by simpa using hv) (by simp [hw])) ⟨ho,ho2,h1 hw⟩
  · refine concat_meets ⟨_,ho,rfl⟩ ⟨_,ho2,rfl⟩ noFill_tuple_add seq_tuple_add vS uO (uf _ _)
      (tuple_addW2 t b vs.toArray ws.toArray n n2 dd dd2 sl sl2 (by simpa using hv) (by simpa using hw) (by rw [aA,aA]; exact hsz)) ⟨ho,ho2,?_⟩
    rw [e]
    exact h2 hw
def sIx (n d:Nat):Option Int->Nat
  | none=>d
  | some v=>if v < 0 then (v + (n:Int)).toNat else min v.toNat n
theorem Jd (n d:Nat) (hd:d<=n) (o:Option Int):sIx n d o<=n:=by
  cases o with
  | none=>exact hd
  | some v =>
    show (if v < 0 then (v + (n:Int)).toNat else min v.toNat n)<=n
    by_cases hv:v < 0
    · rw [if_pos hv]; omega
    · rw [if_neg hv]; exact Nat.min_le_right _ _
theorem z8 (v:Int) (n d:Nat):(if v < 0 then max (v + (n:Int)) 0 else min v (n:Int))=((sIx n d (some v):Nat):Int):=by
  show (if v < 0 then max (v + (n:Int)) 0 else min v (n:Int))=(((if v < 0 then (v + (n:Int)).toNat else min v.toNat n):Nat):Int)
  by_cases hv:v < 0
  · simp only [if_pos hv]; omega
  · simp only [if_neg hv]; omega
theorem y9 (lo hi:Option Int) (n:Nat):jA lo hi 1 (n:Int)=(((sIx n 0 lo:Nat):Int),((sIx n n hi:Nat):Int)):=by
  have h1:¬ ((1:Int) < 0):=by omega
  unfold jA
  simp only [h1,if_false]
  refine Prod.ext ?_ ?_
  · cases lo with
    | none=>rfl
    | some v=>exact z8 v n 0
  · cases hi with
    | none=>rfl
    | some v=>exact z8 v n n
theorem za (i j:Nat):gS (i:Int) (j:Int) 1=j - i:=by
  unfold gS
  have h1:(1:Int) > 0:=by omega
  simp only [h1,if_true,Int.ediv_one]
  split <;> omega
theorem sQ {v:ae} {o:Option Int} {Q:Option Int->ao->Prop} (p:vT v o) (h:Q o s):aS (bb prog w) A (Builtin.Slice.slicePartIndex v) Q E s:=by
  cases p with
  | none=>exact slicePart_none h
  | int i t=>exact slicePart_int h
theorem qP {sl:aa} {vl vu:ae} {lo hi:Option Int} {n:Nat} {Q:Int×Int×Nat->ao->Prop} (hs:s.heap.IsSliceOf sl vl vu .none) (pl:vT vl lo) (pu:vT vu hi)
    (h:Q (((sIx n 0 lo:Nat):Int),1,sIx n n hi - sIx n 0 lo) s):aS (bb prog w) A (p6 (.ref sl) (pure (n:Int))) Q E s:=by
  obtain ⟨os,hos,hcs,hds⟩:=id hs
  unfold p6 Builtin.Slice.sliceFields
  refine ag (ag (kx hos hds (x:=vl) rfl (ag (kx hos hds (x:=vu) rfl (ag (kx hos hds (x:=.none) rfl (aK ?_)))))))
  refine ag (slicePart_none ?_)
  show aS _ _ (if ((1:Int) == 0)=true then _ else _) _ _ s
  rw [if_neg (by decide)]
  refine ag (sQ pl (ag (sQ pu (ag (aK ?_)))))
  show aS _ _ (match jA lo hi 1 (n:Int) with | (lo,hi)=>pure (lo,(1:Int),gS lo hi 1)) _ _ s
  rw [y9 lo hi n]
  show aS _ _ (pure (((sIx n 0 lo:Nat):Int),(1:Int),gS ((sIx n 0 lo:Nat):Int) ((sIx n n hi:Nat):Int) 1)) _ _ s
  rw [za]
  exact aK h
theorem C7 (xs:Array ae) (i k:Nat):((kF k).filterMap fun (m:Nat)=>xs[((i:Int) + (m:Int) * 1).toNat]?).toArray=((xs.toList.drop i).take k).toArray:=by
  have e:(fun (m:Nat)=>xs[((i:Int) + (m:Int) * 1).toNat]?)=fun m=>xs[i + m]?:=by
    funext m
    have:((i:Int) + (m:Int) * 1).toNat=i + m:=by omega
    rw [this]
  rw [e]
  have:=pick_run xs i k
  rw [List.filterMap_map] at this
  have e2:((fun x=>xs[x]?) ∘ fun x=>i + x)=fun m=>xs[i + m]?:=rfl
  rw [e2] at this
  rw [this]
theorem getItem_tuple_cut {t sl:aa} {items:Array ae} {vl vu:ae} {lo hi:Option Int} {Q:ae->ao->Prop} (ht:t5 s.heap t items) (hs:s.heap.IsSliceOf sl vl vu .none) (pl:vT vl lo) (pu:vT vu hi)
    (hw:¬ (sIx items.size 0 lo=0/\sIx items.size items.size hi=items.size))
    (h:Q (.ref s.heap.objs.size) {s with heap:=s.heap.push {cls:=.type "tuple",data:=.seq ((items.toList.drop (sIx items.size 0 lo)).take (sIx items.size items.size hi - sIx items.size 0 lo)).toArray}})
    (hsz:items.size<=az):aS (bb prog w) A (rm (.ref t) (.ref sl)) Q E s:=by
  have htake:sizeOk (.seq ((items.toList.drop (sIx items.size 0 lo)).take (sIx items.size items.size hi - sIx items.size 0 lo)).toArray):=by
    show ((items.toList.drop (sIx items.size 0 lo)).take (sIx items.size items.size hi - sIx items.size 0 lo)).toArray.size<=az
    rw [aA,cN,jw,gC]
    omega
  have hj:sIx items.size items.size hi<=items.size:=Jd _ _ (aE _) hi
  obtain ⟨os,hos,hcs,hds⟩:=id hs
  have hTs:s.TypeIs (.ref sl) "slice":=⟨os,hos,hcs⟩
  unfold rm
  try with_reducible refine d7 ?_
  first | refine ag (aK ?_) | skip
  refine ag (wpAny_sequenceKey ht.typeIs (by decide) ?_)
  refine ag (Ca (name:=iX "__getitem__") ht.typeIs iD
    (jW iD ht.typeIs entry_tuple_getitem ?_ (args_tuple_getitem _ _)))
  show aS _ _ (Builtin.Tuple.tupleItemsOf (.ref t) >>= _) _ _ s
  refine ag (tupleItemsOf_ ht ?_)
  refine ag (C8 hTs ?_)
  rw [if_pos (by decide)]
  refine ag (qP hs pl pu ?_)
  have hno:¬ ((((sIx items.size 0 lo:Nat):Int) == 0 && (1:Int) == 1 && (sIx items.size items.size hi - sIx items.size 0 lo) == items.size)=true):=by
    intro q
    rw [fY,fY] at q
    have q1:((sIx items.size 0 lo:Nat):Int)=0:=eq_of_beq q.1.1
    have q2:sIx items.size items.size hi - sIx items.size 0 lo=items.size:=eq_of_beq q.2
    exact hw ⟨by omega,by omega⟩
  show aS _ _ (if (((sIx items.size 0 lo:Nat):Int) == 0 && (1:Int) == 1 && (sIx items.size items.size hi - sIx items.size 0 lo) == items.size)=true then _ else _) _ _ s
  rw [if_neg hno,C7]
  first
    | exact ag (m:=gX _) (gD (aK ⟨_,rfl,aK h⟩) htake)
    | exact ag (m:=gX _) (gD (ag (aK (aK ⟨_,rfl,aK h⟩))) htake)
    | exact ag (ag (m:=gX _) (gD (aK (aK ⟨_,rfl,aK h⟩)) htake))
    | exact ag (ag (m:=gX _) (gD (aK ⟨_,rfl,aK h⟩) htake))
end
end HT
namespace L2
open PySem PySem.Spec PyProof.Rows
abbrev TO:=St->Hp->(Option Int->Hp->Prop)->Prop
def PO (X:Cx) (e:Option cA) (t:TO):Prop:=
  ∀ (pins:List (aa×Obj)) (s:ao) (σ:St) (H:Hp) (Q:Option Int->Hp->Prop),Inv X pins σ H s->t σ H Q ->
    aS (bb X.prog X.w) X.A (evalPart e X.env) (fun u s'=>∃ o H',Inv X pins σ H' s'/\vT u o/\Q o H') X.xe s
def FW:TO:=fun _ H Q=>Q none H
def tPart (t:TE):TO:=fun σ H Q=>t σ H fun x H1=>∃ i,x=.int i/\Q (some i) H1
theorem intsAre_of {ns:List Int}:∀ {us:List ae},cY (ns.map V.int) us->fA us ns:=by
  induction ns with
  | nil=>intro us r; rw [rn] at r; cases r; exact .nil
  | cons n ns ih =>
    intro us r
    rw [cC] at r
    cases r with
    | cons r1 r2 =>
      obtain ⟨t,e⟩:=r1
      subst e
      exact .cons n t (ih r2)
section
variable {X:Cx} {e:cA} {te:TE} {lo hi:Option cA} {tl th:TO} {pos p2:Pos}
theorem z9:PO X none FW:=by
  intro pins s σ H Q I h
  rw [evalPart_none]
  exact aK ⟨none,H,I,.none,h⟩
theorem Aa (h:PE X e te):PO X (some e) (tPart te):=by
  intro pins s σ H Q I hw
  rw [evalPart_some]
  refine thn (h pins s σ H _ I hw) fun u s1 ⟨x,H1,I1,r1,q1⟩=>?_
  obtain ⟨i,rfl,q⟩:=q1
  obtain ⟨t,rfl⟩:=r1
  exact ⟨some i,H1,I1,.int i t,q⟩
def SlR (X:Cx) (r:V->Option Int->Option Int->Hp->VK->Prop):Prop:=
  ∀ (pins:List (aa×Obj)) (s:ao) (σ:St) (H:Hp) (x:V) (v vl vu:ae) (lo hi:Option Int) (sl:aa) (Q:VK),Inv X pins σ H s->RelV x v->s.heap.IsSliceOf sl vl vu .none->vT vl lo->vT vu hi->r x lo hi H Q ->
    ∃ T id,Je (.type T) "__getitem__"=pure (some (.builtin id))/\s.TypeIs v T/\aS (bb X.prog X.w) X.A (rm v (.ref sl)) (EP X pins σ Q) X.xe s
def tSl (r:V->Option Int->Option Int->Hp->VK->Prop) (te:TE) (tl th:TO):TE:=fun σ H Q=>te σ H fun x H1=>tl σ H1 fun l H2=>th σ H2 fun u H3=>r x l u H3 Q
theorem xp {r:V->Option Int->Option Int->Hp->VK->Prop} (hr:SlR X r) (he:PE X e te) (hl:PO X lo tl) (hu:PO X hi th):PE X (.Subscript e (.Slice lo hi none p2) pos) (tSl r te tl th):=by
  intro pins s σ H Q I h
  refine Jf (thn (he pins s σ H _ I h) fun v s1 ⟨x,H1,I1,r1,q1⟩=>?_)
  refine wpAny_Slice (thn (hl pins s1 σ H1 _ I1 q1) fun vl s2 ⟨l,H2,I2,pl,q2⟩=>thn (hu pins s2 σ H2 _ I2 q2) fun vu s3 ⟨u,H3,I3,pu,q3⟩=>?_)
  rw [evalPart_none]
  refine aK ?_
  have I4:Inv X pins σ H3 {s3 with heap:=s3.heap.push {cls:=.type "slice",data:=.fields #[vl,vu,.none]}}:=I3.kept (t':=s3.toks) fun b ob q=>aI _ q
  obtain ⟨T,id,hT,ht,hg⟩:=hr pins {s3 with heap:=s3.heap.push {cls:=.type "slice",data:=.fields #[vl,vu,.none]}} σ H3 x v vl vu l u s3.heap.objs.size Q I4 r1 (Ky ..) pl pu q3
  show aS (bb X.prog X.w) X.A (Bm e (.Slice lo hi none p2) v (.ref s3.heap.objs.size)) (EP X pins σ Q) X.xe {s3 with heap:=s3.heap.push {cls:=.type "slice",data:=.fields #[vl,vu,.none]}}
  exact tail_any (ops:=[.ref s3.heap.objs.size,v]) ht hT hg (by with_unfolding_all rfl)
def p7 (xs:List V) (lo hi:Option Int):List V:=(xs.drop (HT.sIx xs.length 0 lo)).take (HT.sIx xs.length xs.length hi - HT.sIx xs.length 0 lo)
theorem nV (xs:List V) (lo hi:Option Int):(p7 xs lo hi).length<=xs.length:=by
  unfold p7
  rw [cN,jw]
  omega
def rSlT (K:af):V->Option Int->Option Int->Hp->VK->Prop:=fun x lo hi H Q=>∃ a xs,x=.ref a/\SqT K H a xs /\
  ¬ (HT.sIx xs.length 0 lo=0/\HT.sIx xs.length xs.length hi=xs.length)/\∀ p,H p=none->Q (.ref p) (upd H p (.tup (p7 xs lo hi)))
theorem Jg:SlR X (rSlT X.K):=by
  intro pins s σ H x v vl vu lo hi sl Q I rx hs pl pu h
  obtain ⟨a,xs,rfl,hx,hw,q⟩:=h
  cases rx
  obtain ⟨its,r,ht,hz⟩:=I.tuple hx
  have hlen:its.toArray.size=xs.length:=by rw [aA]; exact r.length.symm
  refine ⟨"tuple",_,iD.lookup,ht.typeIs,?_⟩
  refine HT.getItem_tuple_cut ht hs pl pu (by rw [hlen]; exact hw) ?_ (by rw [hlen]; exact hz)
  rw [hlen]
  refine ⟨.ref s.heap.objs.size,_,I.laid (t':=s.toks) (o:=.tup (p7 xs lo hi)) (fun b ob q=>aI _ q) (aE _) ?_,rfl,q _ (I.hok.fresh (aE _))⟩
  exact ⟨cv (nV xs lo hi) hz,_,(r.drop (HT.sIx xs.length 0 lo)).take (HT.sIx xs.length xs.length hi - HT.sIx xs.length 0 lo),C9 _ _⟩
def rCatT (K:af):R2:=fun x y H Q=>∃ a b xs ys,x=.ref a/\y=.ref b/\SqT K H a xs/\SqT K H b ys/\xs≠[]/\xs.length + ys.length<=az /\
  (ys=[]->Q (.ref a) H)/\(ys≠[]->∀ p,H p=none->Q (.ref p) (upd H p (.tup (xs++ys))))
theorem cY.nil_iff {xs:List V} {us:List ae} (r:cY xs us):us=[]↔xs=[]:=by
  cases r with
  | nil=>simp
  | cons _ _=>simp
theorem Ab:OpR X (hV .Add) (rCatT X.K):=by
  intro pins s σ H x y v u Q I rx ry h
  obtain ⟨a,b,xs,ys,rfl,rfl,ha,hb,hx,hz,q1,q2⟩:=h
  cases rx
  cases ry
  obtain ⟨its,r1,p1,_⟩:=I.tuple ha
  obtain ⟨its2,r2,p2,_⟩:=I.tuple hb
  refine HT.cat_tup p1 p2 (fun z=>hx (r1.nil_iff.mp z)) (fun z=>⟨.ref a,H,I,rfl,q1 (r2.nil_iff.mp z)⟩) (fun z=>?_) (by rw [<- r1.length,<- r2.length]; exact hz)
  refine ⟨.ref s.heap.objs.size,_,I.laid (t':=s.toks) (o:=.tup (xs++ys)) (fun b ob q=>aI _ q) (aE _) ?_,rfl,q2 (fun w=>z (r2.nil_iff.mpr w)) _ (I.hok.fresh (aE _))⟩
  exact ⟨by rw [aB]; exact hz,_,r1.append r2,C9 _ _⟩
end
end L2
namespace L2
open PySem PySem.Spec PyProof.Rows
def ixN (n:Nat) (i:Int):Option Nat:=if 0<=i then (if i < n then some i.toNat else none) else if -(n:Int)<=i then some (i + n).toNat else none
def atI {α:Type} (xs:List α) (i:Int):Option α:=(ixN xs.length i).bind fun j=>xs[j]?
theorem vU {n:Nat} {i:Int} {j:Nat} (h:ixN n i=some j):vV i n=some j/\j < n/\-(n:Int)<=i/\i < n:=by
  unfold ixN at h
  by_cases h0:0<=i
  · rw [if_pos h0] at h
    by_cases h1:i < n
    · rw [if_pos h1] at h
      have e:i.toNat=j:=b5 h
      exact ⟨by rw [qQ h0 h1,e],by omega,by omega,h1⟩
    · rw [if_neg h1] at h; cases h
  · rw [if_neg h0] at h
    by_cases h1:-(n:Int)<=i
    · rw [if_pos h1] at h
      have e:(i + n).toNat=j:=b5 h
      exact ⟨by rw [Da (by omega) h1,e],by omega,h1,by omega⟩
    · rw [if_neg h1] at h; cases h
theorem Ac {α:Type} {xs:List α} {i:Int} {v:α} (h:atI xs i=some v):∃ j,vV i xs.length=some j/\xs[j]?=some v/\j < xs.length/\-(xs.length:Int)<=i/\i < xs.length:=by
  unfold atI at h
  cases e:ixN xs.length i with
  | none=>rw [e] at h; cases h
  | some j =>
    rw [e] at h
    obtain ⟨h1,h2,h3,h4⟩:=vU e
    exact ⟨j,h1,h,h2,h3,h4⟩
theorem jG {α:Type} {xs:List α} {j:Nat} {v:α} (h:xs[j]?=some v):atI xs (j:Int)=some v:=by
  have hj:j < xs.length:=(aw.mp h).1
  have e:ixN xs.length (j:Int)=some j:=by
    unfold ixN
    rw [if_pos (by omega),if_pos (by omega)]; simp
  unfold atI; rw [e]; exact h
theorem xq {α:Type} (xs:List α) (v:α):atI (xs++[v]) (-1)=some v:=by
  have hl:(xs++[v]).length=xs.length + 1:=by simp
  have e:ixN (xs++[v]).length (-1)=some xs.length:=by
    unfold ixN
    rw [hl,if_neg (by decide),if_pos (by omega)]
    congr 1
    omega
  unfold atI
  rw [e]
  show (xs++[v])[xs.length]?=some v
  simp
def FX (b:cA):Prop:=∀ o i,xc b false o i=operate [o,i] (rm o i)
def IxR (X:Cx) (r:R2):Prop:=
  ∀ (value slice:cA) (pins:List (aa×Obj)) (s:ao) (σ:St) (H:Hp) (x y:V) (v u:ae) (Q:VK),Inv X pins σ H s->RelV x v->RelV y u->r x y H Q ->
    xc slice false v u=operate [v,u] (rm v u)->aS (bb X.prog X.w) X.A (Bm value slice v u) (EP X pins σ Q) X.xe s
def MtR (X:Cx) (id:String) (r:V->List V->Hp->VK->Prop):Prop:=
  ∀ (pins:List (aa×Obj)) (s:ao) (σ:St) (H:Hp) (x:V) (xs:List V) (v:ae) (us:List ae) (Q:VK),Inv X pins σ H s->RelV x v->cY xs us->r x xs H Q ->
    aS (bb X.prog X.w) X.A (vN (.builtin id) (v :: us)) (EP X pins σ Q) X.xe s
section
variable {X:Cx} {a b:cA} {ta tb:TE} {pos:Pos}
theorem bP {r:R2} (hr:IxR X r) (ha:PE X a ta) (hb:PE X b tb) (hs:FX b):PE X (.Subscript a b pos) (tOp r ta tb):=by
  intro pins s σ H Q I h
  exact Jf (binT ha hb I h fun v u s2 x y H2 I2 rx ry q=>hr a b pins s2 σ H2 x y v u Q I2 rx ry q (hs _ _))
def rIxL (K:af):R2:=fun x y H Q=>∃ p xs i v,x=.ref p/\y=.int i/\SqL K H p xs/\atI xs i=some v/\Q v H
def rIxT (K:af):R2:=fun x y H Q=>∃ p xs i v,x=.ref p/\y=.int i/\SqT K H p xs/\atI xs i=some v/\Q v H
theorem eY:IxR X (rIxL X.K):=by
  intro value slice pins s σ H x y v u Q I rx ry h hs
  obtain ⟨p,xs,i,z,rfl,rfl,hq,he,q⟩:=h
  cases rx
  obtain ⟨t,rfl⟩:=ry
  obtain ⟨its,r,pl,hz⟩:=I.list hq
  obtain ⟨j,h1,h2,h3,h4,h5⟩:=Ac he
  obtain ⟨w,ew,rw'⟩:=r.get h2
  have hl:=r.length
  have hn:=sL
  have fin:EP X pins σ Q w s:=⟨z,H,I,rw',q⟩
  by_cases h0:0<=i
  · have hj:i.toNat=j:=by
      rw [qQ h0 h5] at h1
      exact b5 h1
    exact item_listR pl.isList h0 (by omega) (by rw [hj]; simpa using ew) fin hs
  · have hj:(i + (its.toArray.size:Int)).toNat=j:=by
      rw [Da (by omega) h4] at h1
      rw [aA,<- hl]
      exact b5 h1
    exact Dc (x:=w) pl.isList.typeIs Kz.lookup
      (wpAny_getItem_list_neg (Q:=fun r s'=>r=w/\EP X pins σ Q r s') pl.isList (by omega) (by rw [aA] <;> omega) (by omega) (by rw [hj]; simpa using ew) ⟨rfl,fin⟩) hs
theorem b8:IxR X (rIxT X.K):=by
  intro value slice pins s σ H x y v u Q I rx ry h hs
  obtain ⟨p,xs,i,z,rfl,rfl,hq,he,q⟩:=h
  cases rx
  obtain ⟨t,rfl⟩:=ry
  obtain ⟨its,r,pl,hz⟩:=I.tuple hq
  obtain ⟨j,h1,h2,h3,h4,h5⟩:=Ac he
  obtain ⟨w,ew,rw'⟩:=r.get h2
  have hl:=r.length
  have hn:=sL
  have fin:EP X pins σ Q w s:=⟨z,H,I,rw',q⟩
  exact Dc (x:=w) pl.typeIs slot_tuple_getitem.lookup
    (getItem_tuple (j:=j) (Q:=fun r s'=>r=w/\EP X pins σ Q r s') pl (by omega) (by omega) (by rw [aA,<- hl]; exact h1) (by simpa using ew) ⟨rfl,fin⟩) hs
theorem zb (its:List ae) (n j:Nat) (u:ae):lz (·.setIfInBounds j u) {cls:=.type "list",data:=.seq its.toArray n}={cls:=.type "list",data:=.seq (its.set j u).toArray n}:=by
  simp [lz]
theorem Inv.lst {pins:List (aa×Obj)} {σ:St} {H:Hp} {s:ao} {p:aa} {xs:List V} (I:Inv X pins σ H s) (h:H p=some (.lst xs)) :
    ∃ (its:List ae) (n:Nat),cY xs its/\s.heap.get? p=some {cls:=.type "list",data:=.seq its.toArray n}/\xs.length<=az:=by
  obtain ⟨z,its,n,r,e⟩:=I.hok p _ h
  exact ⟨its,n,r,e,z⟩
theorem Inv.lstUpd {pins:List (aa×Obj)} {σ:St} {H:Hp} {s:ao} {p:aa} {xs ys:List V} {its its':List ae} {n n':Nat} {f:Obj->Obj} (I:Inv X pins σ H s) (h:H p=some (.lst xs))
    (ho:s.heap.get? p=some {cls:=.type "list",data:=.seq its.toArray n}) (hf:f {cls:=.type "list",data:=.seq its.toArray n}={cls:=.type "list",data:=.seq its'.toArray n'}) (r:cY ys its') (hz:ys.length<=az) (t:Nat) :
    Inv X pins σ (upd H p (.lst ys)) {s with heap:=s.heap.update p f,toks:=t}:=by
  have e:(s.heap.update p f).get? p=some {cls:=.type "list",data:=.seq its'.toArray n'}:=by
    rw [gi f ho (by rw [hf] <;> rfl),hf]
  refine I.write (x:=p) (e:=p) (by rw [h]; trivial) (.inl rfl) (fun b u hb q=>(b9 _ _ (cj hb)).trans q) ⟨_,e⟩ ?_
  exact ⟨hz,its',n',r,e⟩
def rSetL:V->V->V->Hp->(Hp->Prop)->Prop:=fun o i v H Q=>∃ p xs k j,o=.ref p/\i=.int k/\H p=some (.lst xs)/\ixN xs.length k=some j/\Q (upd H p (.lst (xs.set j v)))
theorem sR:PSet X rSetL:=by
  intro pins s σ H o i v ov iv u Q I ro ri rv h
  obtain ⟨p,xs,k,j,rfl,rfl,hp,hj,q⟩:=h
  cases ro
  obtain ⟨t,rfl⟩:=ri
  obtain ⟨its,n,r,ho,hz⟩:=I.lst hp
  obtain ⟨h1,h2,h3,h4⟩:=vU hj
  have hl:=r.length
  have hn:=sL
  have I':Inv X pins σ (upd H p (.lst (xs.set j v))) {s with heap:=s.heap.update p (lz (·.setIfInBounds j u))}:=
    I.lstUpd hp ho (zb its n j u) (r.set rv j) (by rw [FY]; exact hz) s.toks
  by_cases h0:0<=k
  · have hk:k.toNat=j:=by
      rw [qQ h0 h4] at h1
      exact b5 h1
    exact PySem.W.ki_setAt ho h0 (by omega) (by rw [aA,<- hl]; exact h4) (by rw [hk]; exact ⟨_,I',q⟩)
  · have hk:(k + (its.toArray.size:Int)).toNat=j:=by
      rw [Da (by omega) h3] at h1
      rw [aA,<- hl]
      exact b5 h1
    exact PySem.W.ki_setBack ho (by omega) (by rw [aA,<- hl]; exact h3) (by omega) (by rw [hk]; exact ⟨_,I',q⟩)
theorem vW (lo hi:Option Int) (n:Nat):(kA lo hi none n).1=((HT.sIx n 0 lo:Nat):Int)/\(kA lo hi none n).2.1=((HT.sIx n n hi:Nat):Int)/\(kA lo hi none n).2.2=1:=by
  refine ⟨?_,?_,rfl⟩
  · cases lo with
    | none=>simp [kA,HT.sIx]
    | some i =>
      simp only [kA,HT.sIx,Cb,show (1:Int) > 0 by decide,if_true]
      by_cases h:i < 0
      · simp only [h,if_true] <;> omega
      · simp only [h,if_false] <;> omega
  · cases hi with
    | none=>simp [kA,HT.sIx]
    | some i =>
      simp only [kA,HT.sIx,Cb,show (1:Int) > 0 by decide,if_true]
      by_cases h:i < 0
      · simp only [h,if_true] <;> omega
      · simp only [h,if_false] <;> omega
theorem ug (its:List ae) (lo hi:Option Int):slicePick its.toArray lo hi none=((its.drop (HT.sIx its.length 0 lo)).take (HT.sIx its.length its.length hi - HT.sIx its.length 0 lo)).toArray:=by
  obtain ⟨h1,h2,h3⟩:=vW lo hi its.toArray.size
  unfold slicePick
  rw [h1,h2,h3]
  simp only [sliceRange_one,pick_run,aA] <;> rfl
def rSlL (K:af):V->Option Int->Option Int->Hp->VK->Prop:=fun x lo hi H Q=>∃ a xs,x=.ref a/\SqL K H a xs/\∀ p,H p=none->Q (.ref p) (upd H p (.lst (p7 xs lo hi)))
theorem FZ:SlR X (rSlL X.K):=by
  intro pins s σ H x v vl vu lo hi sl Q I rx hs pl pu h
  obtain ⟨a,xs,rfl,hx,q⟩:=h
  cases rx
  obtain ⟨its,r,ht,hz⟩:=I.list hx
  have hlen:=r.length
  refine ⟨"list",_,Kz.lookup,ht.isList.typeIs,?_⟩
  refine wpAny_getItem_list_slice ht.isList hs pl pu .none (by simp) ?_ (by rw [aA] <;> omega)
  rw [ug,<- hlen]
  refine ⟨.ref s.heap.objs.size,_,I.laid (t':=s.toks) (o:=.lst (p7 xs lo hi)) (fun b ob q=>aI _ q) (aE _) ?_,rfl,q _ (I.hok.fresh (aE _))⟩
  exact ⟨cv (nV xs lo hi) hz,_,0,(r.drop (HT.sIx xs.length 0 lo)).take (HT.sIx xs.length xs.length hi - HT.sIx xs.length 0 lo),bX _ rfl⟩
theorem gH:kG X (.builtin "len") (fun xs H Q=>∃ p ys,xs=[.ref p]/\(SqL X.K H p ys\/SqT X.K H p ys)/\Q (.int ys.length) H):=by
  intro pins s σ H xs us Q I r h
  obtain ⟨p,ys,rfl,hq,q⟩:=h
  obtain ⟨u,rfl,rx⟩:=vals1 r
  cases rx
  have hn:=sL
  rcases hq with hq | hq
  · obtain ⟨its,r',pl,hz⟩:=I.list hq
    have hlen:=r'.length
    exact Calls.call_len_list pl.isList (by simp only [aA] <;> omega) ⟨.int ys.length,H,I.tok _,⟨s.toks + 1,by rw [aA,hlen]⟩,q⟩
  · obtain ⟨its,r',pl,hz⟩:=I.tuple hq
    have hlen:=r'.length
    exact len_tuple pl (by simp only [aA] <;> omega) ⟨.int ys.length,H,I.tok _,⟨s.toks + 1,by rw [aA,hlen]⟩,q⟩
theorem p8:kG X (.type "list") (fun xs H Q=>∃ p ys,xs=[.ref p]/\(SqL X.K H p ys\/SqT X.K H p ys)/\∀ l,H l=none->Q (.ref l) (upd H l (.lst ys))):=by
  intro pins s σ H xs us Q I r h
  obtain ⟨p,ys,rfl,hq,q⟩:=h
  obtain ⟨u,rfl,rx⟩:=vals1 r
  cases rx
  have fin:∀ (its:List ae),cY ys its->ys.length<=az->∀ (h':cb) (c':Nat),(∀ b o',s.heap.get? b=some o'->h'.get? b=some o') ->
      h'.get? s.heap.objs.size=some {cls:=.type "list",dict:=none,data:=.seq its.toArray c',slots:=#[]}->EP X pins σ Q (.ref s.heap.objs.size) {s with heap:=h'}:=fun its r' hz h' c' kp e =>
    ⟨.ref s.heap.objs.size,_,I.laid (t':=s.toks) kp (aE _) (show dI X.prog X.w _ h' _ (.lst ys) from ⟨hz,its,c',r',e⟩),rfl,q _ (I.hok.fresh (aE _))⟩
  rcases hq with hq | hq
  · obtain ⟨its,r',pl,hz⟩:=I.list hq
    have hlen:=r'.length
    obtain ⟨o,ho,hc,n,hd⟩:=pl.isList
    exact call_list_seq p (.inl rfl) ho hc hd (fun h' c' kp e=>fin its r' hz h' c' kp e) (by simp only [aA] <;> omega)
  · obtain ⟨its,r',pl,hz⟩:=I.tuple hq
    have hlen:=r'.length
    obtain ⟨o,ho,hc,n,hd⟩:=pl
    exact call_list_seq p (.inr rfl) ho hc hd (fun h' c' kp e=>fin its r' hz h' c' kp e) (by simp only [aA] <;> omega)
theorem uh:kG X (.type "tuple") (fun xs H Q=>∃ p ys,xs=[.ref p]/\((SqL X.K H p ys/\∀ l,H l=none->Q (.ref l) (upd H l (.tup ys)))\/(SqT X.K H p ys/\Q (.ref p) H))):=by
  intro pins s σ H xs us Q I r h
  obtain ⟨p,ys,rfl,h⟩:=h
  obtain ⟨u,rfl,rx⟩:=vals1 r
  cases rx
  rcases h with ⟨hq,q⟩ | ⟨hq,q⟩
  · obtain ⟨its,r',pl,hz⟩:=I.list hq
    have hlen:=r'.length
    refine call_tuple_list pl.isList (fun h' kp=>?_) (by simp only [aA] <;> omega)
    have I1:Inv X pins σ H {s with heap:=h'}:=I.kept (t':=s.toks) kp
    have I2:Inv X pins σ (upd H h'.objs.size (.tup ys)) {s with heap:=h'.push {cls:=.type "tuple",data:=.seq its.toArray}}:=
      I1.laid (t':=s.toks) (fun b o e=>aI _ e) (aE _) (show dI X.prog X.w _ _ _ (.tup ys) from ⟨hz,its,r',C9 _ _⟩)
    exact ⟨.ref h'.objs.size,_,I2,rfl,q _ (I1.hok.fresh (aE _))⟩
  · obtain ⟨its,r',pl,hz⟩:=I.tuple hq
    exact call_tuple_same pl ⟨.ref p,H,I,rfl,q⟩
def tyV (K:af) (T:String) (x:V) (H:Hp):Prop:=match x with
  | .str _=>T="str"
  | .int _=>T="int"
  | .ref p=>(T="list"/\∃ xs,SqL K H p xs)\/(T="tuple"/\∃ o,K.lookup p=some o/\o.cls=.type "tuple"/\o.dict=none) \/
      (T="dict"/\((∃ kvs,H p=some (.dK kvs))\/∃ kvs,H p=some (.dT kvs)))\/(T="set"/\∃ S n,H p=some (.set S n))
  | _=>False
theorem Jh {pins:List (aa×Obj)} {σ:St} {H:Hp} {s:ao} {T:String} {x:V} {v:ae} (I:Inv X pins σ H s) (r:RelV x v) (ty:tyV X.K T x H) :
    s.TypeIs v T/\∀ a,v=.ref a->∃ ob,s.heap.get? a=some ob/\ob.dict=none:=by
  cases x with
  | str z =>
    obtain ⟨t,rfl⟩:=r
    cases (show T="str" from ty)
    exact ⟨typeIs_str s z t,fun _ e=>nomatch e⟩
  | int i =>
    obtain ⟨t,rfl⟩:=r
    cases (show T="int" from ty)
    exact ⟨typeIs_int s i t,fun _ e=>nomatch e⟩
  | ref p =>
    cases r
    rcases ty with ⟨rfl,xs,hq⟩ | ⟨rfl,o,hk,hc,hd⟩ | ⟨rfl,hk⟩ | ⟨rfl,S,n,hk⟩
    · obtain ⟨its,_,pl,_⟩:=I.list hq
      refine ⟨pl.isList.typeIs,fun a e=>?_⟩
      cases e
      obtain ⟨o,n,e,c,hd,_⟩:=pl
      exact ⟨o,e,hd⟩
    · refine ⟨⟨o,I.kIn p o hk,hc⟩,fun a e=>?_⟩
      cases e
      exact ⟨o,I.kIn _ o hk,hd⟩
    · have z:∃ o,s.heap.get? p=some o/\o.ExactDict:=by
        rcases hk with ⟨kvs,hk⟩ | ⟨kvs,hk⟩
        · obtain ⟨_,_,_,_,o,_,_,e,ex,_⟩:=I.hok p _ hk
          exact ⟨o,e,ex⟩
        · obtain ⟨_,_,_,_,o,_,_,e,ex,_⟩:=I.hok p _ hk
          exact ⟨o,e,ex⟩
      obtain ⟨o,e,ex⟩:=z
      refine ⟨⟨o,e,ex.1⟩,fun a e2=>?_⟩
      cases e2
      exact ⟨o,e,ex.2.1⟩
    · obtain ⟨o,_,_,_,e,ex,_⟩:=I.hok p _ hk
      refine ⟨⟨o,e,ex.1⟩,fun a e2=>?_⟩
      cases e2
      exact ⟨o,e,ex.2.1⟩
  | _=>exact cV ty
def tBM (K:af) (T:String) (r:V->List V->Hp->VK->Prop) (to:TE) (t:TA):TE:=fun σ H Q=>to σ H fun x H1=>tyV K T x H1/\t σ H1 fun xs H2=>r x xs H2 Q
variable {o e:cA} {es:List cA} {to:TE} {t:TA} {name:Str} {apos cpos:Pos} {T id:String} {r:V->List V->Hp->VK->Prop}
theorem jX (pa:PlainAttrs T) (slot:Slot T name id) (hty:typeOf (.builtin id)=pure (.type "method_descriptor")) (hm:MtR X id r) (ho:PE X o to) (ha:PA X (e :: es) t)
    (hbase:kj o name X.env (eP o X.env)=eP o X.env:=by rfl)
    (hfew:((gP cpos (bU (e :: es) X.env)).all (fun x=>!x.1) && (oX cpos (iZ [] X.env)).all (fun x=>x.1.isSome)
      && decide ((e :: es).length + ([]:List yG).length + (if ([]:List yG).isEmpty then 0 else 1) < 30))=true:=by rfl)
    (hline:(apos.endLine == cpos.line)=true:=by rfl) (hs:bU (e :: es) X.env=(false,eP e X.env) :: bU es X.env:=by rfl) (hplain:(gP cpos (bU es X.env)).any (·.1)=false:=by rfl) :
    PE X (.Call (.Attribute o name apos) (e :: es) [] cpos) (tBM X.K T r to t):=by
  intro pins s σ H Q I h
  refine wpAny_Call_method_late hbase hfew hline rfl (thn (ho pins s σ H _ I h) fun v s1 ⟨x,H1,I1,r1,ty,q1⟩=>?_)
  obtain ⟨h1,h2⟩:=Jh I1 r1 ty
  refine ⟨T,id,pa,slot,hty,h1,h2,?_⟩
  have hA:=ha cpos pins s1 σ H1 _ I1 q1
  rw [hs] at hA |-
  refine m6 (by show (false || (gP cpos (bU es X.env)).any (·.1))=false; rw [hplain] <;> rfl) (oZ ?_)
  exact thn hA fun us s2 ⟨vs,H2,I2,r2,q2⟩=>hm pins s2 σ H2 x vs v us Q I2 r1 r2 q2
end
end L2
namespace L2
open PySem PySem.Spec PyProof.Rows
def MtM (X:Cx) (id:String) (r:V->List V->Hp->VK->Prop):Prop:=
  ∀ (pins:List (aa×Obj)) (s:ao) (σ:St) (H:Hp) (x:V) (xs:List V) (v:ae) (us:List ae) (Q:VK),Inv X pins σ H s->RelV x v->cY xs us->r x xs H Q ->
    aS (bb X.prog X.w) X.A (vN (.builtin id) (v :: us)) (EP X pins σ Q) X.xe s
theorem cY.one:∀ {x:V} {us:List ae},cY [x] us->∃ u,us=[u]/\RelV x u
  | _,_,.cons r .nil=>⟨_,rfl,r⟩
theorem cY.two:∀ {x y:V} {us:List ae},cY [x,y] us->∃ u v,us=[u,v]/\RelV x u/\RelV y v
  | _,_,_,.cons r (.cons q .nil)=>⟨_,_,rfl,r,q⟩
theorem cY.eraseIdx:∀ {xs:List V} {us:List ae} (i:Nat),cY xs us->cY (xs.eraseIdx i) (us.eraseIdx i)
  | _,_,_,.nil=>.nil
  | _,_,0,.cons _ t=>t
  | _,_,i + 1,.cons r t=>.cons r (cY.eraseIdx i t)
theorem uP {α:Type}:∀ (l:List α) (i:Nat),(l.eraseIdx i).length<=l.length
  | [],_=>aE _
  | _ :: _,0=>lY _
  | _ :: r,i + 1=>dM (uP r i)
section
variable {X:Cx} {pins:List (aa×Obj)} {σ:St} {H:Hp} {s:ao} {l b:aa} {xs ys zs:List V}
theorem Inv.lset {its its':List ae} {n:Nat} {f:Array ae->Array ae} {t':Nat} (I:Inv X pins σ H s) (hH:H l=some (.lst xs))
    (e:s.heap.get? l=some {cls:=.type "list",data:=.seq its.toArray n}) (hf:f its.toArray=its'.toArray) (hv:cY ys its') (hz:ys.length<=az) :
    Inv X pins σ (upd H l (.lst ys)) {s with heap:=s.heap.update l (lz f),toks:=t'}:=by
  have q:=PySem.IsL.update e f
  rw [hf] at q
  refine I.write (x:=l) (e:=l) (by rw [hH]; exact trivial) (.inl rfl) (fun b' u hb hu=>(b9 s.heap (lz f) (cj hb)).trans hu) ⟨_,q⟩ ?_
  exact ⟨hz,its',_,hv,q⟩
theorem Inv.lnew {its:List ae} {t':Nat} (I:Inv X pins σ H s) (hv:cY ys its) (hz:ys.length<=az) :
    Inv X pins σ (upd H s.heap.objs.size (.lst ys)) {s with heap:=s.heap.push {cls:=.type "list",data:=.seq its.toArray},toks:=t'}:=
  I.laid (fun _ _ q=>aI _ q) (aE _) ⟨hz,its,0,hv,bX _ rfl⟩
theorem Inv.fresh (I:Inv X pins σ H s):H s.heap.objs.size=none:=I.hok.fresh (aE _)
theorem Inv.lstM (I:Inv X pins σ H s) (hH:H l=some (.lst xs)):xs.length<=az/\∃ (its:List ae) (n:Nat),cY xs its/\xs.length=its.length/\s.heap.get? l=some {cls:=.type "list",data:=.seq its.toArray n}:=by
  obtain ⟨z,its,n,r,e⟩:=I.hok l _ hH
  exact ⟨z,its,n,r,r.length,e⟩
theorem De {n:Nat} (h:n<=az):jM n=false:=by
  unfold jM
  exact decide_eq_false (by omega)
end
section
variable {X:Cx}
def F0:V->List V->Hp->VK->Prop:=fun x vs H Q=>∃ l xs y,x=.ref l/\vs=[y]/\H l=some (.lst xs)/\xs.length < az/\Q .non (upd H l (.lst (xs++[y])))
theorem gN:MtM X "list.append" F0:=by
  intro pins s σ H x vs v us Q I rx rv h
  obtain ⟨l,xs,y,rfl,rfl,hH,hz,q⟩:=h
  cases rx
  obtain ⟨u,rfl,ru⟩:=rv.one
  obtain ⟨z,its,n,r,hl,e⟩:=I.lstM hH
  refine pI F.slot_list_append ⟨_,e,rfl⟩ F.entry_list_append (F.args_list_append_2 _ _) (PySem.list_append l its.toArray n u (by rw [aA]; omega)) ⟨e,?_⟩
  refine ⟨.non,_,I.lset (its':=its++[u]) hH e (by simp) (r.append (.cons ru .nil)) ?_,rfl,q⟩
  rw [aB,gT]
  omega
def F3:V->List V->Hp->VK->Prop:=fun x vs H Q=>∃ l b xs zs,x=.ref l/\vs=[.ref b]/\H l=some (.lst xs)/\H b=some (.lst zs)/\xs.length + zs.length<=az/\Q .non (upd H l (.lst (xs++zs)))
theorem mt_extend:MtM X "list.extend" F3:=by
  intro pins s σ H x vs v us Q I rx rv h
  obtain ⟨l,b,xs,zs,rfl,rfl,hH,hB,hz,q⟩:=h
  cases rx
  obtain ⟨u,rfl,ru⟩:=rv.one
  cases ru
  obtain ⟨z,its,n,r,hl,e⟩:=I.lstM hH
  obtain ⟨z2,its2,n2,r2,hl2,e2⟩:=I.lstM hB
  have hsz:its.toArray.size + its2.toArray.size<=az:=by rw [aA,aA]; omega
  have hlong:¬ (!its.toArray.isEmpty && jM (its.toArray.size + its2.toArray.size))=true:=by
    rw [De hsz,Bool.and_false]
    exact bE
  refine pI F.slot_list_extend ⟨_,e,rfl⟩ F.entry_list_extend (F.args_list_extend_2 _ _)
    (AutoSeq1.list_extend_list_list_0 l its.toArray n b its2.toArray n2 hlong (by rw [aA]; omega) (by omega)) ⟨e,e2,?_⟩
  refine ⟨.non,_,I.lset (its':=its++its2) hH e (by simp) (r.append r2) ?_,rfl,q⟩
  rw [aB]
  omega
def Ji:V->List V->Hp->VK->Prop:=fun x vs H Q=>∃ l xs i k y,x=.ref l/\vs=[.int i]/\H l=some (.lst xs)/\-(2 ^ 63)<=i/\i < 2 ^ 63/\vV i xs.length=some k/\xs[k]?=some y/\Q y (upd H l (.lst (xs.eraseIdx k)))
theorem sS:MtM X "list.pop" Ji:=by
  intro pins s σ H x vs v us Q I rx rv h
  obtain ⟨l,xs,i,k,y,rfl,rfl,hH,h1,h2,hk,hy,q⟩:=h
  cases rx
  obtain ⟨u,rfl,ru⟩:=rv.one
  obtain ⟨t,rfl⟩:=ru
  obtain ⟨z,its,n,r,hl,e⟩:=I.lstM hH
  obtain ⟨w,hw,rw'⟩:=r.get hy
  refine pI F.slot_list_pop ⟨_,e,rfl⟩ F.entry_list_pop (F.args_list_pop_2 _ _)
    (MeetsSeq.list_pop_at l its.toArray n i t k w (fitsIndex_both h1 h2) (by rw [aA,<- hl]; exact hk) (by rw [<- Array.getElem?_toList]; exact hw) (by rw [aA]; omega)) ⟨e,?_⟩
  refine ⟨y,_,I.lset (its':=its.eraseIdx k) hH e ?_ (r.eraseIdx k) ?_,rw',q⟩
  · show its.toArray.eraseIdxIfInBounds k=(its.eraseIdx k).toArray
    rw [List.eraseIdxIfInBounds_toArray]
  · have:=uP xs k
    omega
def rCat:R2:=fun x y H Q=>∃ l b xs zs,x=.ref l/\y=.ref b/\H l=some (.lst xs)/\H b=some (.lst zs)/\xs.length + zs.length<=az/\∀ p,H p=none->Q (.ref p) (upd H p (.lst (xs++zs)))
theorem zc:OpR X (hV .Add) rCat:=by
  intro pins s σ H x y v u Q I rx ry h
  obtain ⟨l,b,xs,zs,rfl,rfl,hH,hB,hz,q⟩:=h
  cases rx
  cases ry
  obtain ⟨z,its,n,r,hl,e⟩:=I.lstM hH
  obtain ⟨z2,its2,n2,r2,hl2,e2⟩:=I.lstM hB
  refine PySem.P.add_list e e2 ?_ (by rw [aA,aA]; omega)
  have ea:its.toArray++its2.toArray=(its++its2).toArray:=by simp
  rw [ea]
  exact ⟨.ref _,_,I.lnew (t':=s.toks) (r.append r2) (by rw [aB]; omega),rfl,q _ I.fresh⟩
end
section
variable {prog:aO} {w:bj} {A:bN} {E:ae->ao->Prop} {s:ao}
end
section
variable {X:Cx}
end
end L2
namespace Att
open PySem PySem.W PySem.Calls PyProof.Rows
theorem ints_of_wellAll {P:Params} {h:cb}:∀ (ns:List Int) (vs:List ae),WellAll P h vs (ns.map WData.int)->fA vs ns:=by
  intro ns
  induction ns with
  | nil =>
    intro vs w
    rw [rn] at w
    cases w
    exact .nil
  | cons n ns ih =>
    intro vs w
    rw [cC] at w
    cases w with
    | cons a b =>
      cases a
      exact .cons _ _ (ih _ b)
theorem script_of {l:OpenLaw} {n:Nat} (hn:l.most=some n) {P:Params} {h:cb} {args:List WData} {vals:List ae}
    (hpre:l.row.toRowW.claim.pre args=true) (hwl:WellAll P h vals args) :
    ∃ a vs ns,vals=[Value.ref a]/\args=[WData.list (ns.map WData.int)]/\h.get? a=some {cls:=.type "list",data:=.seq vs.toArray}/\fA vs ns/\ns.length<=n:=by
  have hsh:WShape.hasAll [] args [.list .int]=true:=(pre_splitW hpre).1
  have hc:l.pre.holds [] {args:=args}=true:=(pre_splitW hpre).2
  obtain ⟨d,r,rfl,h1,h2⟩:=hasAllW_cons hsh
  obtain rfl:=hasAllW_nil h2
  obtain ⟨xs,rfl,h3⟩:=hasW_list h1
  obtain ⟨ns,rfl⟩:=items_int h3
  have hlen:ns.length<=n:=by
    unfold OpenLaw.pre at hc
    have h4:(WTm.not (.lt (.lit (.int (n:Int))) (.len (.arg 0)))).holds [] {args:=[.list (ns.map .int)]}=true:=by
      have h4:=(holds_andW hc).1
      rw [hn] at h4
      exact h4
    have h5:=condW_of h4 (w_not (w_lt w_lit (w_len_list (w_arg rfl))))
    rw [av] at h5
    refine Nat.le_of_not_lt fun q=>?_
    have q':(n:Int) < ((ns.length:Nat):Int):=by omega
    first
      | (rw [decide_eq_true q'] at h5; exact absurd h5 (by decide))
      | (simp at h5; omega)
  cases hwl with
  | cons w1 w2 =>
    cases w2
    cases w1 with
    | list ho hall=>exact ⟨_,_,ns,rfl,rfl,ho,ints_of_wellAll ns _ hall,hlen⟩
theorem post_true (l:OpenLaw) (args:List WData):l.row.toRowW.claim.post args (.bool true) args=true:=
  postW_of (r:=l.row.toRowW) (X:=(true == true))
    (show KA [] (.bool true) .bool=true by first | rfl | decide | simp [KA,WShape.arms,WShape.armsAll])
    (show (WTm.eq .res (.lit (.bool true))).value [] {args:=args,res:=some (.bool true),after:=args}=some (.bool (true == true)) from w_eq_bool (w_res rfl) w_lit) rfl
section
variable {prog:aO} {w:bj} {A:bN} {E:ae->ao->Prop} {s:ao} {K:Frag}
end
end Att
namespace L2
open PySem PySem.Spec PyProof.Rows
theorem uQ:∀ {vs:List ae} {ns:List Int},fA vs ns->cY (ns.map V.int) vs
  | _,_,.nil=>.nil
  | _,_,.cons n t h=>.cons ⟨t,rfl⟩ (uQ h)
def Only (H:Hp):Prop:=∀ b,H b=none\/∃ o xs,H b=some (.frz o (.lst xs))
theorem Dh {P:aO} {w:bj} {K:af} {mg mb:Str->Option ae} {CX:CXT} {k:Nat} {fa a:aa} {fd:bG} {x:Str} {sp:Sp} {s₁:ao} {vs:List ae} {ns:List Int}
    (KX:K.In s₁.heap) (hns:s₁.heap.Ns bc mg) (hb:s₁.heap.Ns IR mb) (hbb:∀ x:Str,x≠"__name__"->mb x=eE x) (hlim:s₁.heap.NoLimit) (hg:s₁.gens=#[])
    (ha:s₁.heap.get? a=some {cls:=.type "list",data:=.seq vs.toArray}) (hi:fA vs ns) (hl:ns.length<=az) (hr:dN k uj)
    (F:∀ base:cb,K.In base->base.Ns bc mg->bg P w K mg base CX k fa fd [x] sp) (hbind:∀ (s:ao) (u:ae),rj s fd ⟨[u],[]⟩ [(x,u)])
    (hsp:∀ H:Hp,Only H->SqL K H a (ns.map V.int)->sp [.ref a] H (fun v _=>v=.bl true) fun _ _ _=>False)
    (hCX:∀ H e s',CX [] H s₁ (fun _ _ _=>False) e s'->False) :
    ki (bb P w) uj (.call (.ref fa) ⟨[.ref a],[]⟩) (fun r s'=>r=.ok (.ret (.bool true))/\OldK s₁.heap s'.heap/\s'.os=s₁.os/\m9 s'.gens) s₁:=by
  have rv:=uQ hi
  have lenV:=hi.length
  -- from an abstract heap in which nothing but the script may be tracked
  have core:∀ H:Hp,Only H->SqL K H a (ns.map V.int)->HOk P w H s₁.heap->(∀ b,H b≠none->b=a)->(H a≠none->K.lookup a=none) ->
      ki (bb P w) uj (.call (.ref fa) ⟨[.ref a],[]⟩) (fun r s'=>r=.ok (.ret (.bool true))/\OldK s₁.heap s'.heap/\s'.os=s₁.os/\m9 s'.gens) s₁:=by
    intro H hO hS hok hA hK
    have base_of:∀ {b:aa} {o:Obj},s₁.heap.get? b=some o->H b=none->(vG s₁.heap H).get? b=some o:=fun e n=>Co e n
    have noA:∀ {b:aa} {o:Obj} {es:Array lZ} {ep:Nat},s₁.heap.get? b=some o->o.data=.dict es ep->H b=none:=fun {b o es ep} e d=>by
      cases q:H b with
      | none=>rfl
      | some u =>
        have e':b=a:=hA b (by rw [q]; simp)
        subst e'
        rw [ha] at e; cases e
        have d':Data.seq vs.toArray _=Data.dict es ep:=d
        cases d'
    have nsK:∀ {b:aa} {m:Str->Option ae},s₁.heap.Ns b m->(vG s₁.heap H).Ns b m:=fun {b m} ⟨o,es,ep,e,d,r⟩=>⟨o,es,ep,base_of e (noA e d),d,r⟩
    have hKb:K.In (vG s₁.heap H):=fun b o e=>base_of (KX b o e) (by
      cases q:H b with
      | none=>rfl
      | some u =>
        have e':b=a:=hA b (by rw [q]; simp)
        subst e'
        rw [hK (by rw [q]; simp)] at e; cases e)
    have hM:Mod K mg (vG s₁.heap H):=⟨hKb,nsK hns,⟨mb,nsK hb,hbb⟩,let ⟨mc,h1,h2⟩:=hlim; ⟨mc,nsK h1,h2⟩⟩
    have e0:vP P w K mg (vG s₁.heap H) uj [] s₁ H:=⟨rfl,hM,fun b o e=>FD e,Nat.le_of_eq (A8 _ _),trivial,fun b hb=>absurd (show b∈([]:List aa) from hb) (by simp),hok,.of_eq hg⟩
    refine lI ((F _ hKb (nsK hns)).run uj [] s₁ H ⟨[.ref a],[]⟩ [.ref a] [.ref a] _ _ hr e0 (hbind s₁ (.ref a)) (.cons rfl .nil) (hsp H hO hS)) fun r s' h=>?_
    cases r with
    | error e=>exact (hCX H e s' h).elim
    | ok fl =>
      cases fl with
      | next=>exact cV h
      | brk=>exact cV h
      | cont=>exact cV h
      | ret u =>
        obtain ⟨v,H',os,bare,un,hok',r',q⟩:=h
        have q':v=.bl true:=q
        subst q'
        obtain rfl:u=Value.bool true:=r'
        refine ⟨rfl,OldK.of_keep fun b o e=>?_,os,bare⟩
        cases q:H b with
        | none=>exact un.keep b o e q (by intro z; exact absurd (show b∈([]:List aa) from z) (by simp)) (by simp)
        | some u =>
          rcases hO b with z | ⟨ob,xs,z⟩
          · rw [q] at z; cases z
          · have z2:=un.frzs b ob _ z
            obtain ⟨e1,_⟩:=hok b _ z
            obtain ⟨e2,_⟩:=hok' b _ z2
            rw [e] at e1; cases e1
            exact e2
  cases hk:K.lookup a with
  | some o =>
    -- the script is one of the module's own objects
    have e:=KX a o hk
    rw [ha] at e
    cases e
    refine core (fun _=>none) (fun _=>.inl rfl) (.inr ⟨_,vs.toArray,_,hk,rfl,rfl,rfl,by rw [aA,lenV]; exact hl,by simpa using rv⟩) (fun b u z=>by have z':(none:Option HO)=some u:=z; cases z') (fun b z=>absurd rfl z) fun z=>absurd rfl z
  | none =>
    refine core (fun b=>if b=a then some (.frz {cls:=.type "list",data:=.seq vs.toArray} (.lst (ns.map V.int))) else none) (fun b=>?_) (.inl (.inr ⟨{cls:=.type "list",data:=.seq vs.toArray},if_pos rfl⟩)) (fun b u z=>?_) (fun b z=>?_) fun _=>hk
    · by_cases hb:b=a
      · exact .inr ⟨_,_,if_pos hb⟩
      · exact .inl (if_neg hb)
    · by_cases hb:b=a
      · have z':=(if_pos hb).symm.trans z
        cases z'
        subst hb
        exact ⟨ha,by rw [av]; exact hl,vs,_,rv,ha⟩
      · have z':=(if_neg hb).symm.trans z
        cases z'
    · by_cases hb:b=a
      · exact hb
      · exact absurd (if_neg hb) z
end L2
namespace L2
open PySem PySem.Spec PyProof.Rows
end L2
namespace L2
open PySem PySem.Spec PyProof.Rows
def dA (s:cR) (j:Nat):cR:=match s with
  | .ClassDef _ _ _ body _ _ _ _ _ _ _=>body.getD j (.Pass ⟨0,0,0,0⟩)
  | _=>.Pass ⟨0,0,0,0⟩
def jH (s:cR):Arguments:=match s with
  | .FunctionDef _ a _ _ _ _ _ _ _ _=>a
  | _=>{posonlyargs:=[],args:=[],vararg:=none,kwonlyargs:=[],kw_defaults:=[],kwarg:=none,defaults:=[]}
def iA (s:cR):List cR:=match s with
  | .FunctionDef _ _ b _ _ _ _ _ _ _=>b
  | _=>[]
def aP (s:cR):kl:=match s with
  | .FunctionDef _ _ _ _ _ _ sc _ _ _=>sc
  | _=>{kind:=.function,names:=[],isGenerator:=false,isCoroutine:=false}
abbrev CX0:CXT:=fun _ _ _ _ _ _=>False
abbrev E0:XK:=fun _ _ _=>False
theorem cL {X:Cx}:jy CX0 X E0:=fun _ _ _ _ _ _ _ h=>h.elim
structure Fun (K:af) (x qual:Str) (st:cR) (f:aa) (fd:bG):Prop where
  ex:∃ (oc:ae) (od:Option aa) (kV doc pm:ae) (an:Option aa) (cdv ct:ae) (osl:Array (Option ae)),
    fd=eJ x qual (jH st) (iA st) (aP st) .none kV doc pm an cdv ct/\K.lookup f=some ⟨oc,od,.func fd,osl⟩/\iM K cdv qual=true
  kp:e7 K (.ref f)=true
section
variable {P:aO} {w:bj} {K:af} {mg:Str->Option ae} {base:cb}
theorem Fun.ok {x qual:Str} {st:cR} {f:aa} {fd:bG} {N ps:List Str} {k:Nat} {sp:Sp} (F:Fun K x qual st f fd) (S:bD N ps (aP st)) (len:∀ vs H Q E,sp vs H Q E->vs.length=ps.length)
    (hbody:∀ (cdv:ae) (A:bN) (outer:List Env) (s:ao) (H:Hp) (vs:List V) (Q:VK) (E:XK),dN k (A.deeper (qN qual (aP st) s.heap.objs.size f cdv))->sp vs H Q E ->
      ∃ t,PSs (qM CX0 P w K mg base N qual (aP st) f cdv A outer s H E).nox (iA st) t/\t {nx:=fun _ H'=>Q .non H',rt:=Q} (start N vs) H):bg P w K mg base CX0 (k + 1) f fd ps sp:=by
  obtain ⟨oc,od,kV,doc,pm,an,cdv,ct,osl,rfl,lk,hcd⟩:=F.ex
  refine HY lk hcd S len fun A outer s H vs Q E hr hsp=>?_
  obtain ⟨t,h,q⟩:=hbody cdv A outer s H vs Q E hr hsp
  exact ⟨t,h.nox,q⟩
theorem Fun.binds {x qual:Str} {st:cR} {f:aa} {fd:bG} {ps:List Str} (F:Fun K x qual st f fd)
    (h:∀ (kV doc pm:ae) (an:Option aa) (cdv ct:ae) (us:List ae),us.length=ps.length->yX (eJ x qual (jH st) (iA st) (aP st) .none kV doc pm an cdv ct) ⟨us,[]⟩=pure (ps.zip us)):Binds K fd ps []:=by
  obtain ⟨oc,od,kV,doc,pm,an,cdv,ct,osl,rfl,lk,hcd⟩:=F.ex
  exact .all (h kV doc pm an cdv ct)
theorem Di {x qual:Str} {st:cR} {f:aa} {oc:ae} {od an:Option aa} {osl:Array (Option ae)} {kV doc pm cdv ct:ae} (l:K.lookup f=some ⟨oc,od,.func (eJ x qual (jH st) (iA st) (aP st) .none kV doc pm an cdv ct),osl⟩)
    (c:iM K cdv qual=true) (k:e7 K (.ref f)=true):Fun K x qual st f (eJ x qual (jH st) (iA st) (aP st) .none kV doc pm an cdv ct):=⟨⟨oc,od,kV,doc,pm,an,cdv,ct,osl,rfl,l,c⟩,k⟩
end
theorem ji {A:bN} {k:Nat} (hr:dN k A):A.units + 1 < dW:=bz (p9 (by decide:1<=64) _) hr.units
section
variable {X:Cx}
theorem pv (i:Nat) {x:Str} {pos:Pos} (hN:X.N[i]?=some x:=by rfl) (hv:Vis X.env.scope x:=by first | exact Or.inl rfl | exact Or.inr (Or.inl rfl) | exact Or.inr (Or.inr rfl)) (hd:(x == ("__debug__":Str))=false:=by decide)
    (hcd:(x == ("__classdict__":Str))=false:=by decide):PE X (.Name x pos) (t7 i):=IS hN hv hd hcd
end
theorem fG {A B:Prop} (h:B):if false=true then A else B:=by
  rw [if_neg bE]
  exact h
theorem gJ {A B:Prop} (h:A):if true=true then A else B:=by
  rw [if_pos rfl]
  exact h
theorem jj {c A B:Prop} [Decidable c] (h1:c->A) (h2:¬ c->B):if c then A else B:=by
  by_cases h:c
  · rw [if_pos h]
    exact h1 h
  · rw [if_neg h]
    exact h2 h
def bF (H H':Hp):Prop:=∀ b o,H b=some o->H' b=some o
theorem bF.refl (H:Hp):bF H H:=fun _ _ h=>h
theorem bF.trans {H H1 H2:Hp} (a:bF H H1) (b:bF H1 H2):bF H H2:=fun c o h=>b c o (a c o h)
theorem bF.free {H H':Hp} (e:bF H H') {l:aa} (h:H' l=Option.none):H l=Option.none:=by
  cases q:H l with
  | none=>rfl
  | some o =>
    rw [e l o q] at h
    cases h
end L2
namespace L2
open PySem PySem.Spec PyProof.Rows
section
variable {κ:Type} [DecidableEq κ]
def fZ (kvs:List (κ×V)) (k:κ):Option V:=(kvs.find? fun kv=>decide (kv.1=k)).map (·.2)
def fH (kvs:List (κ×V)) (k:κ) (v:V):List (κ×V):=
  if (kvs.any fun kv=>decide (kv.1=k))=true then kvs.map (fun kv=>if kv.1=k then (kv.1,v) else kv) else kvs++[(k,v)]
def gf (kvs:List (κ×V)) (k:κ):List (κ×V):=kvs.filter fun kv=>decide (kv.1≠k)
theorem iN {p:κ×V} {r:List (κ×V)} {k:κ} (e:p.1=k):fZ (p :: r) k=some p.2:=by simp [fZ,iH,e]
theorem iw {p:κ×V} {r:List (κ×V)} {k:κ} (e:¬ p.1=k):fZ (p :: r) k=fZ r k:=by simp [fZ,iH,e]
theorem jk (k:κ):∀ kvs:List (κ×V),(kvs.any fun kv=>decide (kv.1=k))=(fZ kvs k).isSome
  | []=>rfl
  | p :: r=>by
    rw [xf]
    by_cases e:p.1=k
    · simp only [iN e,decide_eq_true e,Bool.true_or,Option.isSome_some]
    · rw [iw e,decide_eq_false e,Bool.false_or]; exact jk k r
theorem kM (kvs:List (κ×V)) (k:κ) (v:V):(fH kvs k v).length<=kvs.length + 1:=by
  unfold fH
  split
  · rw [av]; omega
  · rw [aB,aL,cy]; omega
theorem lK {kvs:List (κ×V)} {k:κ} (v:V) (h:fZ kvs k=none):fH kvs k v=kvs++[(k,v)]:=by
  unfold fH
  rw [jk,h]
  exact if_neg (by decide)
theorem nC.isSome_eq {o:Option V} {u:Option ae} (r:nC o u):o.isSome=u.isSome:=by
  cases o with
  | none=>cases u with
    | none=>rfl
    | some _=>exact (show False from r).elim
  | some _=>cases u with
    | none=>exact (show False from r).elim
    | some _=>rfl
theorem KV.val {kvs:List (κ×V)} {vs:List (κ×ae)} (r:KV kvs vs) (k:κ):nC (fZ kvs k) (ny vs k):=by
  unfold KV at r
  induction r with
  | nil=>exact True.intro
  | @cons p q ps qs h t ih =>
    obtain ⟨h1,h2⟩:=h
    by_cases e:p.1=k
    · have e':q.1=k:=h1.symm.trans e
      have b:ny (q :: qs) k=some q.2:=by simp [ny,iH,e']
      rw [iN e,b]; exact h2
    · have e':¬ q.1=k:=fun z=>e (h1.trans z)
      have b:ny (q :: qs) k=ny qs k:=by simp [ny,iH,e']
      rw [iw e,b]; exact ih
theorem KV.any {kvs:List (κ×V)} {vs:List (κ×ae)} (r:KV kvs vs) (k:κ):(kvs.any fun kv=>decide (kv.1=k))=vs.any fun kv=>decide (kv.1=k):=by
  unfold KV at r
  induction r with
  | nil=>rfl
  | cons h t ih=>rw [xf,xf,ih,h.1]
theorem KV.repl {kvs:List (κ×V)} {vs:List (κ×ae)} (r:KV kvs vs) (k:κ) {y:V} {u:ae} (ry:RelV y u) :
    KV (kvs.map fun kv=>if kv.1=k then (kv.1,y) else kv) (vs.map fun kv=>if kv.1=k then (kv.1,u) else kv):=by
  unfold KV at r |-
  induction r with
  | nil=>exact .nil
  | @cons p q ps qs h t ih =>
    rw [cC,cC]
    refine .cons ?_ ih
    obtain ⟨h1,h2⟩:=h
    by_cases e:p.1=k
    · rw [if_pos e,if_pos (h1.symm.trans e)]; exact ⟨h1,ry⟩
    · rw [if_neg e,if_neg (fun z=>e (h1.trans z))]; exact ⟨h1,h2⟩
theorem KV.put {kvs:List (κ×V)} {vs:List (κ×ae)} (r:KV kvs vs) (k:κ) {y:V} {u:ae} (ry:RelV y u):KV (fH kvs k y) (sT vs k u):=by
  unfold fH sT
  rw [r.any k]
  by_cases e:(vs.any fun kv=>decide (kv.1=k))=true
  · rw [if_pos e,if_pos e]; exact r.repl k ry
  · rw [if_neg e,if_neg e]; exact fb r ⟨rfl,ry⟩
theorem KV.length {kvs:List (κ×V)} {vs:List (κ×ae)} (r:KV kvs vs):kvs.length=vs.length:=bJ r
theorem Dj (kvs:List (κ×V)) (k:κ):(gf kvs k).length<=kvs.length:=jm _ _
end
theorem sU {P:aO} {w:bj} {k:Key} {u:ae} (r:RelV (kV k) u):(eU P w).is k u=true:=by
  cases k with
  | inl i=>obtain ⟨t,e⟩:=(show ∃ t,u=Value.int i t from r); subst e; exact xh P w i t
  | inr x=>obtain ⟨t,e⟩:=(show ∃ t,u=Value.str x t from r); subst e; exact xi P w x t
theorem uR {P:aO} {w:bj}:∀ {ks:List Key} {us:List ae},cY (ks.map kV) us->ItemsAre (eU P w) ks us
  | [],_,r=>by rw [rn] at r; cases r; exact .nil
  | k :: ks,_,r=>by
    rw [cC] at r
    cases r with
    | cons h t=>exact .cons (sU h) (uR t)
abbrev KT (H:Hp):List (List Key×V)->List (List Key×aa×ae)->Prop:=aW fun p q=>p.1=q.1/\H q.2.1=some (.tup (p.1.map kV))/\RelV p.2 q.2.2
theorem KT.val {H:Hp} {kvs:List (List Key×V)} {xs:List (List Key×aa×ae)} (r:KT H kvs xs) (k:List Key):nC (fZ kvs k) ((uk xs k).map (·.2)):=by
  induction r with
  | nil=>exact True.intro
  | @cons p q ps qs h t ih =>
    obtain ⟨h1,_,h2⟩:=h
    by_cases e:p.1=k
    · have e':q.1=k:=h1.symm.trans e
      have b:uk (q :: qs) k=some q.2:=by simp [uk,iH,e']
      rw [iN e,b]; exact h2
    · have e':¬ q.1=k:=fun z=>e (h1.trans z)
      have b:uk (q :: qs) k=uk qs k:=by simp [uk,iH,e']
      rw [iw e,b]; exact ih
theorem KT.repl {H:Hp} {kvs:List (List Key×V)} {xs:List (List Key×aa×ae)} (r:KT H kvs xs) (k:List Key) {y:V} {u:ae} (ry:RelV y u) :
    KT H (kvs.map fun kv=>if kv.1=k then (kv.1,y) else kv) (xs.map (putAt k u)):=by
  induction r with
  | nil=>exact .nil
  | @cons p q ps qs h t ih =>
    rw [cC,cC]
    refine .cons ?_ ih
    obtain ⟨h1,h2,h3⟩:=h
    unfold putAt
    by_cases e:p.1=k
    · rw [if_pos e,if_pos (h1.symm.trans e)]; exact ⟨h1,h2,ry⟩
    · rw [if_neg e,if_neg (fun z=>e (h1.trans z))]; exact ⟨h1,h2,h3⟩
theorem KT.put {H:Hp} {kvs:List (List Key×V)} {xs:List (List Key×aa×ae)} (r:KT H kvs xs) (k:List Key) {b:aa} {y:V} {u:ae} (hb:H b=some (.tup (k.map kV))) (ry:RelV y u) :
    KT H (fH kvs k y) (storedH xs k b u):=by
  have e:(kvs.any fun kv=>decide (kv.1=k))=(uk xs k).isSome:=by
    rw [jk,(r.val k).isSome_eq,lA]
  unfold fH storedH
  rw [e]
  by_cases q:(uk xs k).isSome=true
  · rw [if_pos q,if_pos q]; exact r.repl k ry
  · rw [if_neg q,if_neg q]; exact fb r ⟨rfl,hb,ry⟩
theorem KT.keeps {H H':Hp} {kvs:List (List Key×V)} {xs:List (List Key×aa×ae)} (r:KT H kvs xs) (ht:∀ b ys,H b=some (.tup ys)->H' b=some (.tup ys)):KT H' kvs xs:=
  Paired.mapP r fun _ _ z=>⟨z.1,ht _ _ z.2.1,z.2.2⟩
section
variable {P:aO} {w:bj} {H:Hp} {h:cb} {a:aa}
theorem HZ {u:HO} (ok:HOk P w H h) (e:Rd H a u):dI P w H h a u:=e.ok ok
theorem uS {kvs:List (Key×V)} (ok:HOk P w H h) (e:Rd H a (.dK kvs)):kvs.length<=az/\(a == cU)=false/\∃ vs,KV kvs vs/\h.DictOf (eU P w) a vs:=
  show dI P w H h a (.dK kvs) from HZ ok e
theorem H9 {kvs:List (Key×V)} (ok:HOk P w H h) (e:H a=some (.dK kvs)):kvs.length<=az/\(a == cU)=false/\∃ vs,KV kvs vs/\h.DictOf (eU P w) a vs:=uS ok (.inl e)
theorem qR {ks:List Key} (ok:HOk P w H h) (e:H a=some (.tup (ks.map kV))):(vF (eU P w)).is h ks a:=by
  obtain ⟨_,its,r,o,h1,h2,n,h3⟩:=(show dI P w H h a (.tup (ks.map kV)) from ok a _ e)
  exact ⟨o,its.toArray,n,h1,h2,h3,by simpa using uR r⟩
theorem uT {kvs:List (List Key×V)} (ok:HOk P w H h) (e:Rd H a (.dT kvs)):kvs.length<=az/\(a == cU)=false /\
    ∃ xs,KT H kvs xs/\h.DictOfH (vF (eU P w)) a xs:=by
  obtain ⟨z,y,xs,r,o,es,ep,h1,h2,h3,h4,h5⟩:=(show dI P w H h a (.dT kvs) from HZ ok e)
  refine ⟨z,y,xs,r,o,es,ep,h1,h2,h3,h4,fun x hx=>?_,h5⟩
  have all:∀ {l:List (List Key×V)} {m:List (List Key×aa×ae)},KT H l m->∀ x∈m,(vF (eU P w)).is h x.1 x.2.1:=by
    intro l m q
    induction q with
    | nil=>intro x hx; exact nomatch hx
    | @cons p q ps qs hq t ih =>
      intro x hx
      rcases ak.mp hx with e | hx
      · subst e
        exact qR ok (by rw [<- hq.1]; exact hq.2.1)
      · exact ih x hx
  exact all r x hx
theorem Ia {kvs:List (List Key×V)} (ok:HOk P w H h) (e:H a=some (.dT kvs)):kvs.length<=az/\(a == cU)=false /\
    ∃ xs,KT H kvs xs/\h.DictOfH (vF (eU P w)) a xs:=uT ok (.inl e)
end
def hZ (H:Hp) (a:aa) (y:V) (r:Option V):Prop:=
  (∃ kvs k,Rd H a (.dK kvs)/\y=kV k/\r=fZ kvs k)\/∃ kvs k b,Rd H a (.dT kvs)/\y=.ref b/\H b=some (.tup (k.map kV))/\r=fZ kvs k
def o7 (H:Hp) (a:aa) (y v:V) (H':Hp):Prop:=
  (∃ kvs k,H a=some (.dK kvs)/\y=kV k/\kvs.length < az/\H'=upd H a (.dK (fH kvs k v))) \/
  ∃ kvs k b,H a=some (.dT kvs)/\y=.ref b/\H b=some (.tup (k.map kV))/\kvs.length < az/\H'=upd H a (.dT (fH kvs k v))
theorem hZ.k {H:Hp} {a:aa} {kvs:List (Key×V)} {k:Key} (e:H a=some (.dK kvs)):hZ H a (kV k) (fZ kvs k):=.inl ⟨kvs,k,.inl e,rfl,rfl⟩
theorem hZ.t {H:Hp} {a b:aa} {kvs:List (List Key×V)} {k:List Key} (e:H a=some (.dT kvs)) (eb:H b=some (.tup (k.map kV))):hZ H a (.ref b) (fZ kvs k):=.inr ⟨kvs,k,b,.inl e,rfl,eb,rfl⟩
theorem o7.k {H:Hp} {a:aa} {kvs:List (Key×V)} {k:Key} {v:V} (e:H a=some (.dK kvs)) (hl:kvs.length < az):o7 H a (kV k) v (upd H a (.dK (fH kvs k v))):=.inl ⟨kvs,k,e,rfl,hl,rfl⟩
theorem o7.t {H:Hp} {a b:aa} {kvs:List (List Key×V)} {k:List Key} {v:V} (e:H a=some (.dT kvs)) (eb:H b=some (.tup (k.map kV))) (hl:kvs.length < az) :
    o7 H a (.ref b) v (upd H a (.dT (fH kvs k v))):=.inr ⟨kvs,k,b,e,rfl,eb,hl,rfl⟩
section
variable {X:Cx} {pins:List (aa×Obj)} {σ:St} {H:Hp} {s:ao} {a:aa} {y v:V} {u r:ae} {o:Option V} {A:bN} {E:ae->ao->Prop}
theorem Inv.big (I:Inv X pins σ H s):cU < s.heap.objs.size:=by
  have h:bc < s.heap.objs.size:=(I.mod.glob.keeps I.bk).lt
  exact nX (by decide) h
theorem Bn {Q:ae->ao->Prop} (hu:A.units + 1 < dW) (I:Inv X pins σ H s) (g:hZ H a y (some v)) (ry:RelV y u) (h:∀ w' s',Inv X pins σ H s'->RelV v w'->Q w' s') :
    aS (bb X.prog X.w) A (rm (.ref a) u) Q E s:=by
  rcases g with ⟨kvs,k,e,ey,l⟩ | ⟨kvs,k,b,e,ey,eb,l⟩
  · subst ey
    obtain ⟨z,hd,vs,rel,dd⟩:=uS I.hok e
    obtain ⟨w',hw,rw'⟩:=nC.some_of (v:=v) (o:=ny vs k) (by rw [l]; exact rel.val k)
    exact wpAny_getItem_of (sU ry) dd.mapOf hw (h w' _ (I.tok _) rw')
  · subst ey
    cases (show u=Value.ref b from ry)
    obtain ⟨z,hd,xs,rel,dd⟩:=uT I.hok e
    obtain ⟨w',hw,rw'⟩:=nC.some_of (v:=v) (o:=(uk xs k).map (·.2)) (by rw [l]; exact rel.val k)
    obtain ⟨p,hp,hp2⟩:=gI.mp hw
    refine wpAny_getItem_heap (iY hu) (qR I.hok eb) dd hp ?_
    rw [hp2]
    exact h w' _ (I.tok _) rw'
theorem d_in {Q:ae->ao->Prop} (hu:A.units + 1 < dW) (I:Inv X pins σ H s) (g:hZ H a y o) (ry:RelV y u) (h:∀ s',Inv X pins σ H s'->Q (.bool o.isSome) s') :
    aS (bb X.prog X.w) A (fh .In u (.ref a)) Q E s:=by
  rcases g with ⟨kvs,k,e,ey,l⟩ | ⟨kvs,k,b,e,ey,eb,l⟩
  · subst ey
    obtain ⟨z,hd,vs,rel,dd⟩:=uS I.hok e
    refine wpAny_in_of (sU ry) hd dd.mapOf ?_
    rw [<- (rel.val k).isSome_eq,<- l]
    exact h _ (I.tok _)
  · subst ey
    cases (show u=Value.ref b from ry)
    obtain ⟨z,hd,xs,rel,dd⟩:=uT I.hok e
    refine wpAny_in_heap (iY hu) (qR I.hok eb) hd dd ?_
    have q:=(rel.val k).isSome_eq
    rw [lA] at q
    rw [<- q,<- l]
    exact h _ (I.tok _)
theorem F4 {Q:ae->ao->Prop} (hu:A.units + 1 < dW) (I:Inv X pins σ H s) (g:hZ H a y o) (ry:RelV y u) (h:∀ s',Inv X pins σ H s'->Q (.bool (!o.isSome)) s') :
    aS (bb X.prog X.w) A (fh .NotIn u (.ref a)) Q E s:=by
  rcases g with ⟨kvs,k,e,ey,l⟩ | ⟨kvs,k,b,e,ey,eb,l⟩
  · subst ey
    obtain ⟨z,hd,vs,rel,dd⟩:=uS I.hok e
    refine wpAny_notIn_of (sU ry) hd dd.mapOf ?_
    rw [<- (rel.val k).isSome_eq,<- l]
    exact h _ (I.tok _)
  · subst ey
    cases (show u=Value.ref b from ry)
    obtain ⟨z,hd,xs,rel,dd⟩:=uT I.hok e
    refine wpAny_notIn_heap (iY hu) (qR I.hok eb) hd dd ?_
    have q:=(rel.val k).isSome_eq
    rw [lA] at q
    rw [<- q,<- l]
    exact h _ (I.tok _)
theorem rR {h':cb} {t':Nat} {ob:HO} (I:Inv X pins σ H s) (mu:Mut (H a)) (hs:ng a s.heap h') (he:∃ q,h'.get? a=some q) (new:dI X.prog X.w (upd H a ob) h' a ob) :
    Inv X pins σ (upd H a ob) {s with heap:=h',toks:=t'}:=
  I.write (x:=a) (e:=a) mu (.inl rfl) (fun b q hb z=>(hs.2 b hb).trans z) he new
theorem vX {P:aO} {w:bj} {H':Hp} {h':cb} {kvs:List (Key×V)} {vs:List (Key×ae)} (z:kvs.length<=az) (hd:(a == cU)=false) (rel:KV kvs vs) (dd:h'.DictOf (eU P w) a vs) :
    dI P w H' h' a (.dK kvs):=⟨z,hd,vs,rel,dd⟩
theorem Bo {H':Hp} {Q:Unit->ao->Prop} (hu:A.units + 1 < dW) (I:Inv X pins σ H s) (g:o7 H a y v H') (ry:RelV y u) (rv:RelV v r) (h:∀ s',Inv X pins σ H' s'->Q () s') :
    aS (bb X.prog X.w) A (setItem (.ref a) u r) Q E s:=by
  rcases g with ⟨kvs,k,e,ey,l,eH⟩ | ⟨kvs,k,b,e,ey,eb,l,eH⟩
  · subst ey eH
    obtain ⟨z,hd,vs,rel,dd⟩:=H9 I.hok e
    have hz:vs.length<=az:=by rw [<- rel.length]; exact z
    have hl:(fH kvs k v).length<=az:=by have:=kM kvs k v; omega
    refine wpAny_setItem_pairs (hsz:=hz) (sU ry) dd fun h' dd' hs=>h _ ?_
    have he:∃ q,h'.get? a=some q:=let ⟨q,_,_,hq,_⟩:=dd'; ⟨q,hq⟩
    exact rR I (by rw [e]; exact True.intro) hs he (vX hl hd (rel.put k rv) dd')
  · subst ey eH
    cases (show u=Value.ref b from ry)
    obtain ⟨z,hd,xs,rel,dd⟩:=Ia I.hok e
    have hz:xs.length<=az:=by rw [<- bJ rel]; exact z
    have hl:(fH kvs k v).length<=az:=by have:=kM kvs k v; omega
    refine wpAny_setItem_heap (hsz:=hz) (iY hu) (qR I.hok eb) dd fun h' dd' hs=>h _ ?_
    obtain ⟨q,es,ep,hq,h2,h3,h4,_,h5⟩:=dd'
    refine rR I (by rw [e]; exact True.intro) hs ⟨q,hq⟩ ⟨hl,hd,_,(rel.put k eb rv).keeps fun c ys ec=>?_,q,es,ep,hq,h2,h3,h4,h5⟩
    rw [aG (fc ec e (fun z=>nomatch z))]
    exact ec
end
section
variable {X:Cx} {pins:List (aa×Obj)} {σ:St} {H:Hp} {s:ao} {a:aa} {kvs:List (Key×V)} {k:Key} {u:ae} {A:bN} {E:ae->ao->Prop}
end
def NoSl (i:cA):Prop:=∀ ov iv,xc i false ov iv=operate [ov,iv] (rm ov iv)
theorem F5 {prog:aO} {w:bj} {A:bN} {E:ae->ao->Prop} {s:ao} {env:Env} {value slice:cA} {pos:Pos} {T id:String} {Q:ae->ao->Prop}
    (hl:Je (.type T) "__getitem__"=pure (some (.builtin id))) (hs:NoSl slice)
    (h:aS (bb prog w) A (eP value env) (fun o s₁=>aS (bb prog w) A (eP slice env) (fun i s₂=>s₂.TypeIs o T/\aS (bb prog w) A (rm o i) Q E s₂) E s₁) E s) :
    aS (bb prog w) A (eP (.Subscript value slice pos) env) Q E s:=by
  refine Jf (dv h (fun o s₁ h₁=>dv h₁ (fun i s₂ h₂=>?_) fun _ _ x=>x) fun _ _ x=>x)
  obtain ⟨hT,h₂⟩:=h₂
  unfold Bm
  refine ag ?_
  rw [getitemInPython_of_ne hT.not_modules]
  refine ag (xr hT hl ?_)
  have fin:aS (bb prog w) A (xc slice false o i) (fun r s₃=>aS (bb prog w) A (letTemporaryGo value o r >>= fun _=>pure r) Q E s₃) E s₂:=by
    rw [hs o i]
    exact wpAny_operating (dv h₂ (fun r s₃ h₃=>ag (wpAny_letTemporaryGo (aK h₃))) fun _ _ x=>x)
  first
    | exact aK (ag fin)
    | exact ag (aK (ag fin))
    | exact ag fin
theorem xt {X:Cx} {pins:List (aa×Obj)} {σ:St} {H:Hp} {s:ao} {a:aa} {y:V} {o:Option V} (I:Inv X pins σ H s) (g:hZ H a y o):s.TypeIs (.ref a) "dict":=by
  rcases g with ⟨kvs,k,e,_,_⟩ | ⟨kvs,k,b,e,_,_,_⟩
  · obtain ⟨_,_,vs,_,dd⟩:=uS I.hok e
    exact dd.typeIs
  · obtain ⟨_,_,xs,_,dd⟩:=uT I.hok e
    exact dd.typeIs
def tDGet (td ty:TE):TE:=fun σ H Q=>td σ H fun x H1=>ty σ H1 fun y H2=>∃ a v,x=.ref a/\hZ H2 a y (some v)/\Q v H2
def tDIn (ty td:TE):TE:=fun σ H Q=>ty σ H fun y H1=>td σ H1 fun x H2=>∃ a o,x=.ref a/\hZ H2 a y o/\Q (.bl o.isSome) H2
def F6 (ty td:TE):TE:=fun σ H Q=>ty σ H fun y H1=>td σ H1 fun x H2=>∃ a o,x=.ref a/\hZ H2 a y o/\Q (.bl (!o.isSome)) H2
def sDPut (td ty tv:TE):TS:=fun D σ H=>tv σ H fun v H1=>td σ H1 fun x H2=>ty σ H2 fun y H3=>∃ a H4,x=.ref a/\o7 H3 a y v H4/\D.nx σ H4
section
variable {X:Cx} {o i e value:cA} {pos pos' tpos:Pos} {td ty tv:TE}
theorem mr (hu:X.A.units + 1 < dW) (ho:PE X o td) (hi:PE X i ty) (hs:NoSl i):PE X (.Subscript o i pos) (tDGet td ty):=by
  intro pins s σ H Q I h
  refine F5 PySem.F.slot_dict_getitem.lookup hs (thn (ho pins s σ H _ I h) fun u s1 ⟨x,H1,I1,rx,q1⟩=>thn (hi pins s1 σ H1 _ I1 q1) fun iv s2 ⟨y,H2,I2,ry,a,v,ex,g,q2⟩=>?_)
  subst ex
  obtain rfl:u=Value.ref a:=rx
  exact ⟨xt I2 g,Bn hu I2 g ry fun w' s3 I3 rw'=>⟨v,H2,I3,rw',q2⟩⟩
theorem Dk (hu:X.A.units + 1 < dW) (hi:PE X i ty) (ho:PE X o td):PC X .In i o (tDIn ty td):=by
  intro pins s σ H Q I h
  refine thn (hi pins s σ H _ I h) fun iv s1 ⟨y,H1,I1,ry,q1⟩=>thn (ho pins s1 σ H1 _ I1 q1) fun u s2 ⟨x,H2,I2,rx,a,ov,ex,g,q2⟩=>?_
  subst ex
  obtain rfl:u=Value.ref a:=rx
  exact d_in hu I2 g ry fun s3 I3=>⟨.bl ov.isSome,H2,I3,rfl,q2⟩
theorem uU (hu:X.A.units + 1 < dW) (hi:PE X i ty) (ho:PE X o td):PC X .NotIn i o (F6 ty td):=by
  intro pins s σ H Q I h
  refine thn (hi pins s σ H _ I h) fun iv s1 ⟨y,H1,I1,ry,q1⟩=>thn (ho pins s1 σ H1 _ I1 q1) fun u s2 ⟨x,H2,I2,rx,a,ov,ex,g,q2⟩=>?_
  subst ex
  obtain rfl:u=Value.ref a:=rx
  exact F4 hu I2 g ry fun s3 I3=>⟨.bl (!ov.isSome),H2,I3,rfl,q2⟩
theorem jI (hu:X.A.units + 1 < dW) (ho:PE X o td) (hi:PE X i ty) (hv:PE X value tv) (hs:vJ value (some (.Subscript o i pos')) pos.line X.env=pure false) :
    PS X (.Assign [.Subscript o i pos'] value pos) (sDPut td ty tv):=by
  intro pins s σ H D I h
  refine wpAny_Assign_Subscript (thn (hv pins s σ H _ I h) fun r s1 ⟨v,H1,I1,rv,q1⟩=>thn (ho pins s1 σ H1 _ I1 q1) fun u s2 ⟨x,H2,I2,rx,q2⟩=>thn (hi pins s2 σ H2 _ I2 q2) fun iv s3 ⟨y,H3,I3,ry,a,H4,ex,g,q3⟩=>?_) hs
  subst ex
  obtain rfl:u=Value.ref a:=rx
  exact Bo hu I3 g ry rv fun s4 I4=>⟨σ,H4,I4,q3⟩
end
theorem xu {P:aO} {w:bj} {H:Hp} (h:cb) (hb:cU < h.objs.size):dI P w H (h.push {cls:=.type "dict",data:=.dict #[]}) h.objs.size (.dK []):=
  ⟨bA _,beq_eq_false_iff_ne.mpr (cj (aR hb)),[],.nil,yI h⟩
theorem Dl {P:aO} {w:bj} {H:Hp} (h:cb) (hb:cU < h.objs.size):dI P w H (h.push {cls:=.type "dict",data:=.dict #[]}) h.objs.size (.dT []):=
  ⟨bA _,beq_eq_false_iff_ne.mpr (cj (aR hb)),[],.nil,_,#[],0,bX _ rfl,⟨rfl,rfl,rfl⟩,rfl,rfl,dj⟩
def Jj:TE:=fun _ H Q=>∀ p,H p=none->Q (.ref p) (upd H p (.dK []))
def Jk:TE:=fun _ H Q=>∀ p,H p=none->Q (.ref p) (upd H p (.dT []))
section
variable {X:Cx} {pos:Pos}
theorem qb:PE X (.Dict [] [] pos) Jj:=fun pins s σ H Q I h =>
  wpAny_Dict_empty ⟨.ref s.heap.objs.size,_,I.laid (a:=s.heap.objs.size) (o:=.dK []) (t':=s.toks) (fun _ _ q=>aI _ q) (aE _) (xu s.heap I.big),rfl,h _ (I.hok.fresh (aE _))⟩
theorem Dm:PE X (.Dict [] [] pos) Jk:=fun pins s σ H Q I h =>
  wpAny_Dict_empty ⟨.ref s.heap.objs.size,_,I.laid (a:=s.heap.objs.size) (o:=.dT []) (t':=s.toks) (fun _ _ q=>aI _ q) (aE _) (Dl s.heap I.big),rfl,h _ (I.hok.fresh (aE _))⟩
end
def zd:List (TE×TE)->St->Hp->(List (V×V)->Hp->Prop)->Prop
  | [],_,H,Q=>Q [] H
  | (tk,tv) :: r,σ,H,Q=>tk σ H fun x H1=>tv σ H1 fun y H2=>zd r σ H2 fun ps H3=>Q ((x,y) :: ps) H3
abbrev VV:List (V×V)->List (ae×ae)->Prop:=aW fun p q=>RelV p.1 q.1/\RelV p.2 q.2
def PPs (X:Cx) (pos:Pos) (keys:List (Option cA)) (values:List cA) (trs:List (TE×TE)):Prop:=
  ∀ (pins:List (aa×Obj)) (s:ao) (σ:St) (H:Hp) (Q:List (V×V)->Hp->Prop),Inv X pins σ H s->zd trs σ H Q ->
    aS (bb X.prog X.w) X.A (evalPairs (pairTrees keys values X.env pos)) (fun vs s'=>∃ ps H',Inv X pins σ H' s'/\VV ps vs/\Q ps H') X.xe s
theorem F7 {X:Cx} {pos:Pos}:PPs X pos [] [] []:=fun pins s σ H Q I h=>pairTrees_nil_walk ⟨[],H,I,.nil,h⟩
theorem sV {X:Cx} {pos:Pos} {k v:cA} {ks:List (Option cA)} {vs:List cA} {tk tv:TE} {trs:List (TE×TE)} (hk:PE X k tk) (hv:PE X v tv) (hr:PPs X pos ks vs trs) :
    PPs X pos (some k :: ks) (v :: vs) ((tk,tv) :: trs):=fun pins s σ H Q I h =>
  pairTrees_cons_walk (thn (hk pins s σ H _ I h) fun u s1 ⟨x,H1,I1,rx,q1⟩=>thn (hv pins s1 σ H1 _ I1 q1) fun w2 s2 ⟨y,H2,I2,ry,q2⟩ =>
    thn (hr pins s2 σ H2 _ I2 q2) fun ws s3 ⟨ps,H3,I3,rel,q3⟩=>⟨(x,y) :: ps,H3,I3,.cons ⟨rx,ry⟩ rel,q3⟩)
def qS (kvs more:List (Key×V)):List (Key×V):=more.foldl (fun acc kv=>fH acc kv.1 kv.2) kvs
theorem KV.merge:∀ {more:List (Key×V)} {rs:List (Key×ae)} {kvs:List (Key×V)} {vs:List (Key×ae)},KV more rs->KV kvs vs->KV (qS kvs more) (merged vs rs):=by
  intro more rs kvs vs r
  unfold KV at r
  induction r generalizing kvs vs with
  | nil=>intro q; exact q
  | @cons p q ps qs h t ih =>
    intro r0
    have e:KV (fH kvs p.1 p.2) (sT vs q.1 q.2):=by
      have:=r0.put p.1 h.2
      rw [<- h.1]; exact this
    exact ih e
theorem pz:∀ (more kvs:List (Key×V)),(qS kvs more).length<=kvs.length + more.length
  | [],kvs=>by show kvs.length<=kvs.length + 0; omega
  | p :: r,kvs=>by
    have h1:=pz r (fH kvs p.1 p.2)
    have h2:=kM kvs p.1 p.2
    show (qS (fH kvs p.1 p.2) r).length<=_
    rw [aL]; omega
theorem sW {P:aO} {w:bj}:∀ {kvs:List (Key×V)} {ws:List (ae×ae)},VV (kvs.map fun kv=>(kV kv.1,kv.2)) ws->∃ rs,Carries (eU P w) ws rs/\KV kvs rs
  | [],_,r=>by rw [rn] at r; cases r; exact ⟨[],True.intro,.nil⟩
  | p :: kvs,_,r=>by
    rw [cC] at r
    cases r with
    | @cons a b as bs h t =>
      obtain ⟨rs,c,q⟩:=sW (P:=P) (w:=w) t
      obtain ⟨b1,b2⟩:=b
      exact ⟨(p.1,b2) :: rs,⟨sU h.1,rfl,c⟩,.cons ⟨rfl,h.2⟩ q⟩
def tDisp (trs:List (TE×TE)):TE:=fun σ H Q=>∀ p,H p=none->zd trs σ (upd H p (.dK [])) fun ps H2=>H2 p=some (.dK [])/\∃ kvs:List (Key×V),ps=kvs.map (fun kv=>(kV kv.1,kv.2))/\kvs.length<=15/\Q (.ref p) (upd H2 p (.dK (qS [] kvs)))
theorem Gc {X:Cx} {pos:Pos} {keys:List (Option cA)} {values:List cA} {trs:List (TE×TE)} (h:PPs X pos keys values trs) (hall:keys.all (·.isSome)=true) (hl:keys.length=values.length) (h0:keys≠[])
    (h15:keys.length<=15):PE X (.Dict keys values pos) (tDisp trs):=by
  intro pins s σ H Q I q
  have hn:=I.hok.fresh (aE s.heap.objs.size)
  have I1:=I.laid (a:=s.heap.objs.size) (o:=.dK []) (h':=s.heap.push {cls:=.type "dict",data:=.dict #[]}) (t':=s.toks) (fun _ _ q=>aI _ q) (aE _) (xu s.heap I.big)
  refine wpAny_Dict_walk (knd:=eU X.prog X.w) hall hl h0 h15 (thn (h pins _ σ _ _ I1 (q _ hn)) fun ws s2 ⟨ps,H2,I2,rel,e,kvs,ep,lk,q2⟩=>?_)
  subst ep
  obtain ⟨rs,c,rk⟩:=sW (P:=X.prog) (w:=X.w) rel
  obtain ⟨z,hd,vs0,r0,dd⟩:=H9 I2.hok e
  cases r0
  refine ⟨rs,c,dd,fun h' dd' hs=>⟨.ref s.heap.objs.size,_,?_,rfl,q2⟩⟩
  have hz:(qS [] kvs).length<=az:=by
    have h1:=pz kvs []
    rw [cy] at h1
    rw [kr]; omega
  have he:∃ q,h'.get? s.heap.objs.size=some q:=let ⟨q,_,_,hq,_⟩:=dd'; ⟨q,hq⟩
  exact rR I2 (by rw [e]; exact True.intro) hs he (vX hz hd (rk.merge .nil) dd')
structure M1 (X:Cx) (o:cA) (m:Str) (apos:Pos) (e:cA) (cpos:Pos):Prop where
  base:kj o m X.env (eP o X.env)=eP o X.env
  few:((gP cpos (bU [e] X.env)).all (fun x=>!x.1) && (oX cpos (iZ [] X.env)).all (fun x=>x.1.isSome)
    && decide (([e]:List cA).length + ([]:List yG).length + (if ([]:List yG).isEmpty then 0 else 1) < 30))=true
  line:(apos.endLine == cpos.line)=true
  trees:gP cpos (bU [e] X.env)=[(false,eP e X.env)]
def IsD (H:Hp) (a:aa):Prop:=(∃ kvs,Rd H a (.dK kvs))\/∃ kvs,Rd H a (.dT kvs)
theorem Jl {X:Cx} {pins:List (aa×Obj)} {σ:St} {H:Hp} {s:ao} {a:aa} (I:Inv X pins σ H s) (d:IsD H a) :
    s.TypeIs (.ref a) "dict"/\(∀ b,Value.ref a=.ref b->∃ ob,s.heap.get? b=some ob/\ob.dict=none)/\(a == cU)=false:=by
  rcases d with ⟨kvs,e⟩ | ⟨kvs,e⟩
  · obtain ⟨_,hd,vs,_,dd⟩:=uS I.hok e
    refine ⟨dd.typeIs,fun b q=>?_,hd⟩
    cases q
    obtain ⟨ob,_,_,h1,h2,_⟩:=dd
    exact ⟨ob,h1,h2.2.1⟩
  · obtain ⟨_,hd,xs,_,dd⟩:=uT I.hok e
    refine ⟨dd.typeIs,fun b q=>?_,hd⟩
    cases q
    obtain ⟨ob,_,_,h1,h2,_⟩:=dd
    exact ⟨ob,h1,h2.2.1⟩
section
variable {X:Cx} {pins:List (aa×Obj)} {σ:St} {H:Hp} {s:ao} {a:aa} {y d:V} {u r:ae} {o:Option V} {A:bN} {E:ae->ao->Prop}
end
section
variable {X:Cx} {o e f:cA} {apos cpos:Pos} {td ty tx:TE}
end
section
variable {X:Cx} {pins:List (aa×Obj)} {σ:St} {H:Hp} {s:ao} {a:aa} {kvs:List (Key×V)} {A:bN} {E:ae->ao->Prop}
end
section
variable {X:Cx} {pins:List (aa×Obj)} {σ:St} {H:Hp} {s:ao} {a:aa} {y:V} {u:ae} {A:bN} {E:ae->ao->Prop}
end
end L2
namespace L2
open PySem PySem.Spec PyProof.Rows
section
variable {X:Cx}
end
section
variable {κ:Type} [DecidableEq κ]
theorem qc {kvs:List (κ×V)} {k:κ} (h:fZ kvs k=none):¬ k∈kvs.map (·.1):=by
  intro m
  obtain ⟨p,hp,e⟩:=bH.mp m
  have q:(kvs.any fun kv=>decide (kv.1=k))=true:=Fv.mpr ⟨p,hp,decide_eq_true e⟩
  rw [jk,h] at q
  exact absurd q (by simp)
theorem vY {kvs:List (κ×V)} {k:κ} {v:V} (h:fZ kvs k=some v):k∈kvs.map (·.1):=by
  have q:(kvs.any fun kv=>decide (kv.1=k))=true:=by
    rw [jk,h]
    all_goals rfl
  obtain ⟨p,hp,e⟩:=Fv.mp q
  exact bH.mpr ⟨p,hp,of_decide_eq_true e⟩
theorem rS:∀ {l:List κ} {k:κ},l.Nodup->¬ k∈l->(l++[k]).Nodup
  | [],k,_,_=>by simp
  | a :: r,k,h,hk=>by
    obtain ⟨h1,h2⟩:=bh.mp h
    show (a :: (r++[k])).Nodup
    refine bh.mpr ⟨fun m=>?_,rS h2 fun m=>hk (ak.mpr (Or.inr m))⟩
    rcases aU.mp m with q | q
    · exact h1 q
    · exact hk (ak.mpr (Or.inl (au.mp q).symm))
theorem Ad {kvs:List (κ×V)} {k:κ} (v:V) (hn:(kvs.map (·.1)).Nodup) (h:fZ kvs k=none):((fH kvs k v).map (·.1)).Nodup:=by
  rw [lK v h,ba]
  exact rS hn (qc h)
theorem qT {p:κ×V} {r:List (κ×V)} {k:κ} (e:p.1=k):gf (p :: r) k=gf r k:=by
  unfold gf
  rw [ir,if_neg (by simp [e])]
theorem oN {p:κ×V} {r:List (κ×V)} {k:κ} (e:¬ p.1=k):gf (p :: r) k=p :: gf r k:=by
  unfold gf
  rw [ir,if_pos (by simp [e])]
theorem xw:∀ {kvs:List (κ×V)} {k:κ},¬ k∈kvs.map (·.1)->gf kvs k=kvs
  | [],_,_=>rfl
  | p :: r,k,h=>by
    have h':¬ k∈r.map (·.1):=fun m=>by
      obtain ⟨q,hq,e⟩:=bH.mp m
      exact h (bH.mpr ⟨q,ak.mpr (Or.inr hq),e⟩)
    rw [oN fun e=>h (bH.mpr ⟨p,ak.mpr (Or.inl rfl),e⟩),xw h']
theorem Bp {kvs:List (κ×V)} {k:κ} {p:κ×V} (h:p∈gf kvs k):p∈kvs:=(iG.mp h).1
theorem qe:∀ {kvs:List (κ×V)} {k:κ},(kvs.map (·.1)).Nodup->((gf kvs k).map (·.1)).Nodup
  | [],_,_=>dj
  | p :: r,k,h=>by
    have h:(p.1 :: r.map (·.1)).Nodup:=h
    obtain ⟨h1,h2⟩:=bh.mp h
    by_cases e:p.1=k
    · rw [qT e]
      exact qe h2
    · rw [oN e]
      show (p.1 :: (gf r k).map (·.1)).Nodup
      refine bh.mpr ⟨fun m=>h1 ?_,qe h2⟩
      obtain ⟨q,hq,eq⟩:=bH.mp m
      exact bH.mpr ⟨q,Bp hq,eq⟩
theorem uV:∀ {kvs:List (κ×V)} {k:κ},(kvs.map (·.1)).Nodup->k∈kvs.map (·.1)->(gf kvs k).length + 1=kvs.length
  | [],_,_,m=>by simp at m
  | p :: r,k,h,m=>by
    have h:(p.1 :: r.map (·.1)).Nodup:=h
    have m:k=p.1\/k∈r.map (·.1):=ak.mp m
    obtain ⟨h1,h2⟩:=bh.mp h
    by_cases e:p.1=k
    · subst e
      rw [qT rfl,xw h1]
      all_goals rfl
    · have m':k∈r.map (·.1):=m.resolve_left fun z=>e z.symm
      have q:=uV h2 m'
      rw [oN e,aL,aL]
      omega
end
end L2
set_option maxHeartbeats 4000000
namespace L2
open PySem PySem.Spec PyProof.Rows
theorem dI.has {P:aO} {w:bj} {H:Hp} {h:cb} {a:aa} {o:HO} (x:dI P w H h a o):∃ ob,h.get? a=some ob:=by
  cases o with
  | lst xs=>obtain ⟨_,_,_,_,e⟩:=x; exact ⟨_,e⟩
  | tup xs=>obtain ⟨_,_,_,ob,e,_⟩:=x; exact ⟨_,e⟩
  | dK kvs=>obtain ⟨_,_,_,_,o,_,_,e,_⟩:=x; exact ⟨_,e⟩
  | dT kvs=>obtain ⟨_,_,_,_,o,_,_,e,_⟩:=x; exact ⟨_,e⟩
  | set S n=>obtain ⟨o,_,_,_,e,_⟩:=x; exact ⟨_,e⟩
  | ins C dx fs=>obtain ⟨_,_,_,e,_⟩:=x; exact ⟨_,e⟩
  | own y=>exact x
  | xd fs=>obtain ⟨_,⟨_,_,_,e,_⟩,_⟩:=x; exact ⟨_,e⟩
  | rng lo hi=>obtain ⟨_,_,_,e⟩:=x; exact ⟨_,e⟩
  | frz ob u=>obtain ⟨e,_⟩:=x; exact ⟨_,e⟩
  | tbl ps=>exact ⟨_,(show h.get? a=some _ from x)⟩
  | met f y=>exact ⟨_,(show h.get? a=some _ from x)⟩
  | ext φ=>obtain ⟨_,e,_⟩:=x; exact e
theorem HOk.has {P:aO} {w:bj} {H:Hp} {h:cb} (x:HOk P w H h) {b:aa} (n:H b≠none):∃ ob,h.get? b=some ob:=by
  cases z:H b with
  | none=>exact absurd z n
  | some u=>exact (x b u z).has
def FlD (B:cb) (l:List Env) (e:aa) (cls fl:ae) (h:cb):Prop:=
  B.StaysIn h/\B.get? e=none/\h.FunFrames B l/\∃ oe vs T oT ts,h.get? e=some oe/\oe.cls=cls/\oe.dict=none/\oe.data=.fields vs/\vs[1]?=some (.ref T)/\B.get? T=none/\T≠e/\h.get? T=some oT/\oT.data=.fields ts/\ts[3]?=some fl
theorem Bq (o:Obj) (f:Array ae->Array ae):(o.mapFields f).dict=o.dict:=by
  obtain ⟨c,d,dt,sl⟩:=o
  cases dt <;> rfl
section
variable {M:FE} {A:bN} {E:ae->ao->Prop} {s:ao} {B:cb} {env:Env} {outer l:List Env} {L e:aa} {cls fl:ae} {Q:Unit->ao->Prop}
theorem xx {oe:Obj} {vs:Array ae} {head:ae} {nx:Bool} (hfr:A.frames=some (env :: outer)) (hl:s.heap.FunFrames B (env :: outer)) (hf:env.frame=some L) (he:s.heap.get? e=some oe) (hB:B.StaysIn s.heap) (hn:B.get? e=none)
    (hd:oe.data=.fields vs) (hz:1 < vs.size) (hdc:oe.dict=none) (k:∀ h',FlD B (env :: outer) e oe.cls (pE L) h'->s.heap.UpToSlots h'->Q () {s with heap:=h'}) :
    aS M A (do let a <- frameOf env; let pl <- entryPlaceOf L nx; let b <- vZ head a .none (pE L) .none pl; setField (.ref e) 1 b) Q E s:=by
  have ef:e∉(env :: outer).filterMap (·.frame):=fun hm=>by
    obtain ⟨_,o,ho,q⟩:=hl.mem hm
    rw [he] at ho
    cases ho
    exact q vs hd
  refine ag (wpAny_frameOf_fun hfr hl hf fun h1 g1=>ag (wpAny_entryPlaceOf fun pl hpl=>?_))
  unfold vZ newFields
  refine ag (gD ?_ (hpl.sizeOk5 _ _ _ _ _))
  have e1:h1.get? e=some oe:=(g1.2.1 e ef).trans he
  have b1:B.StaysIn h1:=fun b o z=>(g1.2.1 b fun hm=>by rw [(hl.mem hm).1] at z; cases z).trans (hB b o z)
  have ne:h1.objs.size≠e:=nI (aQ e1)
  generalize hob:({cls:=.type "traceback",dict:=none,data:=.fields ([head,.ref L,.none,pE L,.none]++(if pl.isEmpty then b7 6 Value.none else pl)).toArray}:Obj)=ob
  have e2:(h1.push ob).get? e=some oe:=aI _ e1
  have t2:(h1.push ob).get? h1.objs.size=some ob:=bX h1 (by rw [<- hob]; rfl)
  refine ze e2 hd hz (k _ ?_ ?_)
  · have d3:=qU hd (·.setIfInBounds 1 (Value.ref h1.objs.size))
    have keep:∀ b o,b≠e->h1.get? b=some o->((h1.push ob).update e (qE (·.setIfInBounds 1 (Value.ref h1.objs.size)))).get? b=some o:=fun b o q z=>by
      rw [b9 _ _ (cj q)]
      exact aI _ z
    refine ⟨fun b o z=>keep b o (fun q=>by rw [q,hn] at z; cases z) (b1 b o z),hn,hl.of_keeps fun b o z q=>?_,_,_,h1.objs.size,ob,_,gi _ e2 (Ae d3),Obj.cls_mapFields _ _,(Bq _ _).trans hdc,d3,by simp [hz],b1.fresh,ne,?_,by rw [<- hob],?_⟩
    · obtain ⟨sl,w⟩:=g1.2.2 b o z
      exact ⟨_,keep b _ (fun y=>by rw [y,he] at z; cases z; exact q vs hd) w,rfl⟩
    · rw [b9 _ _ (cj ne)]
      exact t2
    · first | (simp; done) | (rcases hpl with rfl | ⟨_,_,_,_,_,_,_,rfl⟩ <;> simp)
  · intro b o z q
    obtain ⟨sl,w⟩:=g1.2.2 b o z
    refine ⟨sl,?_⟩
    rw [b9 _ _ (fun y=>by rw [<- y,he] at z; cases z; exact q vs hd)]
    exact aI _ w
theorem rT {T:aa} {oT:Obj} {ts:Array ae} {h:cb} (hT:h.get? T=some oT) (hdT:oT.data=.fields ts) {b:aa} {o:Obj} (hb:h.get? b=some o) (q:∀ vs,o.data≠.fields vs):b≠T:=fun y=>by
  rw [y,hT] at hb
  cases hb
  exact q ts hdT
theorem Af (hfr:A.frames=some (env :: outer)) (hf:env.frame=some L) (x:FlD B (env :: outer) e cls .none s.heap) (k:∀ h',FlD B (env :: outer) e cls (pE L) h'->s.heap.UpToSlots h'->Q () {s with heap:=h'}) :
    aS M A (Cc (.ref e) env) Q E s:=by
  obtain ⟨hB,hn,hl,oe,vs,T,oT,ts,he,rfl,hdc,hd,h1,nT,Te,hT,dT,h3⟩:=x
  unfold Cc
  simp only [hf]
  refine ag (kx he hd h1 ?_)
  rw [if_pos (show (Value.ref T != Value.none)=true from by simp)]
  refine ag (kx hT dT h3 ?_)
  rw [if_neg (show ¬ ((Value.none == pE L)=true) from by simp [pE])]
  refine ag (ze hT dT (kB.mp h3).1 ?_)
  have ot:∀ b,b≠T->(s.heap.update T (qE (·.setIfInBounds 3 Value.none))).get? b=s.heap.get? b:=fun b hb=>b9 _ _ (cj hb)
  refine xx (s:={s with heap:=s.heap.update T (qE (·.setIfInBounds 3 Value.none))}) hfr (hl.of_keeps fun b o z q=>⟨o,(ot b (rT hT dT z q)).trans z,rfl⟩) hf ((ot e (cj Te)).trans he)
    (fun b o z=>(ot b fun y=>by rw [y,nT] at z; cases z).trans (hB b o z)) hn hd (kB.mp h1).1 hdc fun h' y1 y2=>k h' y1 fun b o z q=>y2 b o ((ot b (rT hT dT z q)).trans z) q
theorem qf (x:FlD B l e cls fl s.heap) (k:∀ h',FlD B l e cls .none h'->s.heap.UpToSlots h'->Q () {s with heap:=h'}):aS M A (setFlight (.ref e) none) Q E s:=by
  obtain ⟨hB,hn,hl,oe,vs,T,oT,ts,he,hc,hdc,hd,h1,nT,Te,hT,dT,h3⟩:=x
  have z3:3 < ts.size:=(kB.mp h3).1
  have ot:∀ b,b≠T->(s.heap.update T (qE (·.setIfInBounds 3 ((none:Option aa).elim Value.none fun f=>pE f)))).get? b=s.heap.get? b:=fun b hb=>b9 _ _ (cj hb)
  unfold setFlight
  refine ag (kx he hd h1 ?_)
  rw [if_pos (show (Value.ref T != Value.none)=true from by simp)]
  refine ze hT dT z3 (k _ ⟨fun b o z=>(ot b fun y=>by rw [y,nT] at z; cases z).trans (hB b o z),hn,hl.of_keeps fun b o z q=>⟨o,(ot b (rT hT dT z q)).trans z,rfl⟩,oe,vs,T,_,_,(ot e (cj Te)).trans he,hc,hdc,hd,h1,nT,Te,gi _ hT (Ae (qU dT _)),qU dT _,by simp [z3]⟩
    fun b o z q=>⟨o.slots,(ot b (rT hT dT z q)).trans z⟩)
theorem FlD.tail (x:FlD B (env :: outer) e cls fl s.heap):FlD B outer e cls fl s.heap:=by
  obtain ⟨a,b,⟨_,_,c⟩,d⟩:=x
  exact ⟨a,b,c,d⟩
theorem FlD.there {h:cb} (x:FlD B l e cls fl h):∃ ob,h.get? e=some ob/\ob.cls=cls:=by
  obtain ⟨_,_,_,oe,_,_,_,_,he,hc,_⟩:=x
  exact ⟨oe,he,hc⟩
theorem Br (hfr:A.frames=some (env :: outer)) (hf:env.frame=some L) (x:FlD B (env :: outer) e cls .none s.heap) (k:∀ h',FlD B outer e cls .none h'->s.heap.UpToSlots h'->Q () {s with heap:=h'}):aS M A (yH env (.ref e)) Q E s:=by
  unfold yH
  refine ag (Af hfr hf x fun h1 x1 u1=>qf (s:={s with heap:=h1}) x1 fun h2 x2 u2=>k h2 (FlD.tail (s:={s with heap:=h2}) x2) (u1.trans u2))
theorem Gd {h:cb} {args:List ae} (hfr:A.frames=some (env :: outer)) (hf:env.frame=some L) (hB:B.StaysIn h) (hl:h.FunFrames B (env :: outer)) (x:Ib h s.heap e cls args)
    (k:∀ h',FlD B outer e cls .none h'->s.heap.UpToSlots h'->Q () {s with heap:=h'}):aS M A (yH env (.ref e)) Q E s:=by
  obtain ⟨t,he,htn,ht⟩:=x.there
  have en:B.get? e=none:=by
    cases q:B.get? e with
    | none=>rfl
    | some o=>have z:=hB e o q; rw [x.new] at z; cases z
  unfold yH Cc
  simp only [hf]
  refine ag (ag (kx (x:=Value.none) he rfl rfl ?_))
  rw [if_neg (show ¬ ((Value.none != Value.none)=true) by decide)]
  exact xx hfr (hl.of_keeps fun b o z _=>⟨o,x.keeps b o z,rfl⟩) hf he (fun b o z=>x.keeps b o (hB b o z)) en rfl (show 1 < 6 by decide) rfl fun h1 x1 u1=>qf (s:={s with heap:=h1}) x1 fun h2 x2 u2=>k h2 (FlD.tail (s:={s with heap:=h2}) x2) (u1.trans u2)
end
def Fly (B:cb) (stk:List Env) (ea C:aa) (h:cb):Prop:=FlD B stk ea (.ref C) .none h
def CXo (P:aO) (w:bj):CXT:=fun outer H s E e s' =>
  ∃ (ea C:aa) (H':Hp) (B:cb),e=.ref ea/\E (.ref C) none H'/\s'.os=s.os/\m9 s'.gens/\Un (frs outer) [] H H' s.heap s'.heap/\HOk P w H' s'.heap/\Fly B outer ea C s'.heap /\
    ∀ b o,(H' b≠none\/∃ o',s.heap.get? b=some o')->b∉frs outer->s'.heap.get? b=some o->B.get? b=some o
theorem Un.left {fs stk:List aa} {H₀ H:Hp} {h₀ h h' B:cb} (u:Un fs [] H₀ H h₀ h) (hB:B.StaysIn h') (cov:∀ b o,(H b≠none\/∃ o',h₀.get? b=some o')->b∉stk->h.get? b=some o->B.get? b=some o)
    (hst:∀ b o,h₀.get? b=some o->b∈stk->b∈fs) (sl:∀ b∈fs,∀ o,h.get? b=some o->∃ sl,h'.get? b=some {o with slots:=sl}):Un fs [] H₀ H h₀ h' where
  keep:=fun b o e n hb hx=>hB b o (cov b o (.inr ⟨o,e⟩) (fun z=>hb (hst b o e z)) (u.keep b o e n hb hx))
  slot:=fun b o e n hb hx=>by
    obtain ⟨s1,e1⟩:=u.slot b o e n hb hx
    obtain ⟨s2,e2⟩:=sl b hb _ e1
    exact ⟨s2,e2⟩
  free:=u.free
  there:=fun b o e hx=>by
    obtain ⟨o',e'⟩:=u.there b o e hx
    by_cases hb:b∈stk
    · obtain ⟨s2,e2⟩:=sl b (hst b o e hb) _ e'
      exact ⟨_,e2⟩
    · exact ⟨o',hB b o' (cov b o' (.inr ⟨o,e⟩) hb e')⟩
  tups:=u.tups
  frzs:=u.frzs
  tbls:=u.tbls
theorem HOk.left {P:aO} {w:bj} {H:Hp} {h h' B:cb} (ok:HOk P w H h) (hB:B.StaysIn h') (cov:∀ b o,H b≠none->h.get? b=some o->B.get? b=some o):HOk P w H h':=fun a o e =>
  (ok a o e).stay (fun b u hb q=>hB b u (cov b u (by
    rcases hb with z | z
    · rw [z,e]; simp
    · rw [z]; simp) q)) (fun _ q=>q) (fun _ _ q=>q)
section
variable {X:Cx} {pins:List (aa×Obj)} {σ:St} {H:Hp} {s:ao} {E E':XK}
theorem Inv.oldfs (I:Inv X pins σ H s):∀ b o,X.s₀.heap.get? b=some o->b∈frs X.stack->b∈X.fs:=fun b o e hb=>by
  rcases ak.mp (I.stkSub b hb) with z | z
  · exact absurd (aY (aQ e) I.ok.above) (by rw [z]; exact fX _)
  · exact z
theorem Inv.ntr (I:Inv X pins σ H s):∀ b,H b≠none->b∉frs X.stack:=fun b hn z=>hn (I.stkFree b z)
theorem Inv.slotsOf (I:Inv X pins σ H s) {h':cb} (sm:s.heap.UpToSlots h'):∀ b∈X.fs,∀ o,s.heap.get? b=some o->∃ sl,h'.get? b=some {o with slots:=sl}:=fun b hb o e=>by
  obtain ⟨_,o',ho',hd⟩:=I.funs.mem hb
  rw [e] at ho'
  cases ho'
  exact sm b o e hd
structure rp (X:Cx) (E:XK):Prop where
  stk:X.stack=X.env :: X.outer
  fr:X.env.frame=some X.env.locals
  ex:X.ex=[]
  xe:X.xe=fun e s'=>aS (bb X.prog X.w) X.A (yH X.env e) (fun _ s''=>CXo X.prog X.w X.outer X.H₀ X.s₀ E e s'') (fun e' s''=>CXo X.prog X.w X.outer X.H₀ X.s₀ E e' s'') s'
theorem dy {P:aO} {w:bj} {K:af} {mg:Str->Option ae} {base:cb} {N:List Str} {qual:Str} {scope:kl} {f:aa} {cd:ae} {A:bN} {outer:List Env} :
    rp (qM (CXo P w) P w K mg base N qual scope f cd A outer s H E) E:=⟨rfl,rfl,rfl,rfl⟩
theorem rp.raises (hb:rp X E) (I:Inv X pins σ H s) {h':cb} {e C:aa} {vs:List ae} (hx:Ib s.heap h' e (.ref C) vs) (q:E (.ref C) none H):X.xe (.ref e) {s with heap:=h'}:=by
  rw [hb.xe]
  have hfr:X.A.frames=some (X.env :: X.outer):=by rw [I.ok.frames,hb.stk]
  have hin:∀ env∈X.stack,∀ a,env.frame=some a->a∈frs X.stack:=fun env he a ha=>qD.mpr ⟨env,he,ha⟩
  have fl:s.heap.FunFrames (mQ s.heap (frs X.stack)) (X.env :: X.outer):=by
    have z:=PySem.W.funFrames_hide I.stack hin
    rw [hb.stk] at z |-
    exact z
  have ub:Un X.fs [] X.H₀ H X.s₀.heap s.heap:=by
    have z:=I.base
    rw [hb.ex] at z
    exact z
  have keepB:∀ b o,b∉frs X.stack->s.heap.get? b=some o->(mQ s.heap (frs X.stack)).get? b=some o:=fun b o n e=>yE _ e n
  refine Gd (B:=mQ s.heap (frs X.stack)) (h:=s.heap) hfr hb.fr (fun b o z=>yL _ z) fl hx fun h'' x1 x4=>?_
  have sm:s.heap.UpToSlots h'':=(KB hx.keeps).trans x4
  refine ⟨e,C,H,_,rfl,q,I.os,I.bare,ub.left (stk:=frs X.stack) x1.1 (fun b o _ n e=>keepB b o n e) I.oldfs (I.slotsOf sm),I.hok.left x1.1 (fun b o n e=>keepB b o (I.ntr b n) e),x1,?_⟩
  intro b o c n e1
  have nb:b∉frs X.stack:=by
    rcases c with c | ⟨o',c⟩
    · exact I.ntr b c
    · exact fun z=>n (I.oldfs b o' c z)
  obtain ⟨o1,e2⟩:∃ o1,s.heap.get? b=some o1:=by
    rcases c with c | ⟨o',c⟩
    · exact I.hok.has c
    · exact ub.there b o' c (by simp)
  have e3:h''.get? b=some o1:=x1.1 b o1 (keepB b o1 nb e2)
  have e4:h''.get? b=some o:=e1
  rw [e3] at e4
  cases e4
  exact keepB b _ nb e2
theorem rp.passes (hb:rp X E) (hE:∀ c d H,E' c d H->E c d H):jy (CXo X.prog X.w) X E':=fun pins σ H s e s' I h=>by
  obtain ⟨ea,C,H',B,rfl,q,os,bare,un,hok,fl,cov⟩:=h
  have J:Inv X pins σ H' s':=I.call' (ch:=[]) os un hok bare (fun b z=>absurd z (by simp))
  rw [hb.xe]
  have hfr:X.A.frames=some (X.env :: X.outer):=by rw [I.ok.frames,hb.stk]
  have ub:Un X.fs [] X.H₀ H' X.s₀.heap s'.heap:=by
    have z:=J.base
    rw [hb.ex] at z
    exact z
  have ui:Un X.fs [] X.H₀ H X.s₀.heap s.heap:=by
    have z:=I.base
    rw [hb.ex] at z
    exact z
  have cov1:∀ b o,(H' b≠none\/∃ o',X.s₀.heap.get? b=some o')->b∉frs X.stack->s'.heap.get? b=some o->B.get? b=some o:=fun b o c n e =>
    cov b o (c.imp_right fun ⟨o',z⟩=>ui.there b o' z (by simp)) n e
  have fl':FlD B (X.env :: X.outer) ea (.ref C) .none s'.heap:=by
    rw [<- hb.stk]
    exact fl
  refine Br hfr hb.fr fl' fun h'' x1 x2=>?_
  refine ⟨ea,C,H',B,rfl,hE _ _ _ q,J.os,J.bare,ub.left (stk:=frs X.stack) x1.1 cov1 J.oldfs (J.slotsOf x2),J.hok.left x1.1 (fun b o n e=>cov1 b o (.inl n) (J.ntr b n) e),x1,?_⟩
  intro b o c n e1
  have nb:b∉frs X.stack:=by
    rcases c with c | ⟨o',c⟩
    · exact J.ntr b c
    · exact fun z=>n (J.oldfs b o' c z)
  obtain ⟨o1,e2⟩:∃ o1,s'.heap.get? b=some o1:=by
    rcases c with c | ⟨o',c⟩
    · exact J.hok.has c
    · exact ub.there b o' c (by simp)
  have e3:h''.get? b=some o1:=x1.1 b o1 (cov1 b o1 c nb e2)
  have e4:h''.get? b=some o:=e1
  rw [e3] at e4
  cases e4
  exact cov1 b _ c nb e2
end
section
variable {X:Cx} {E:XK} {x:Str} {C:aa} {np cpos pos:Pos} {e₀:cA} {rest:List cA} {ta:TA} {K:af} {h:cb}
theorem Ge {bmB:List ae} {newId:String} (X:K.In h) (q:cX K C bmB newId=true) :
    ∃ bm N nm q bs hdct sn sub ab col dd k0 k1 k2 k3 k5 mN,h.get? C=some (excClassObj nm q C N bs bm hdct sn sub ab col dd k0 k1 k2 k3 k5 newId)/\h.Ns N mN/\mN "__init__"=none/\OwnTail h bmB bm:=by
  unfold cX at q
  split at q
  · rename_i dd cd sl ho
    split at q
    · rename_i C' bm k0 k1 k2 k3 n k5 hm hs
      simp only [fY,beq_iff_eq,Bool.not_eq_true'] at q
      obtain ⟨⟨⟨⟨⟨rfl,rfl⟩,hdel⟩,ht⟩,hok⟩,hni⟩:=q
      obtain ⟨nm,bs,mro,ns,qn,hd,sn,sub,ab,col,del⟩:=cd
      dsimp only at hm hdel hok hni
      subst hm hdel
      have e:sl=#[k0,k1,k2,k3,some (.builtin n),k5]:=by
        obtain ⟨l⟩:=sl
        have hs':l=[k0,k1,k2,k3,some (.builtin n),k5]:=hs
        rw [hs']
      subst e
      exact ⟨bm,ns,nm,qn,bs,hd,sn,sub,ab,col,dd,k0,k1,k2,k3,k5,_,X _ _ ho,.of_isNs (PySem.W.isNs_of_in X hok),PySem.W.nsMap_none_of_in X hok hni,PySem.W.tail_of_in X ht⟩
    · cases q
  · cases q
def pJ:List ae:=[.type "ValueError",.type "Exception",.type "BaseException",.type "object"]
def Jm (C:aa) (E:XK) (ta:TA):TS:=fun _ σ H=>ta σ H fun vs H1=>vs.length<=az/\E (.ref C) none H1
theorem jY (hb:rp X E) (hc:X.calm=true) (hg:Gl X x) (hm:X.mg x=some (.ref C)) (hx:cX X.K C pJ "ValueError.__new__"=true) (ha:PA X (e₀ :: rest) ta)
    (hd:(x == ("__debug__":Str))=false:=by decide) (he:bU (e₀ :: rest) X.env=(false,eP e₀ X.env) :: bU rest X.env:=by rfl) (hpl:(gP cpos (bU rest X.env)).any (·.1)=false:=by rfl) :
    PS X (.Raise (some (.Call (.Name x np) (e₀ :: rest) [] cpos)) none pos) (Jm C E ta):=by
  intro pins s σ H D I h
  obtain ⟨bm,N,nm,q,bs,hdct,sn,sub,ab,col,dd,k0,k1,k2,k3,k5,mN,hC,hN,hni,T⟩:=Ge I.ok.mod.kin hx
  have base:pJ.contains (.type "BaseException")=true:=F.excBase_ValueError.hasBase
  refine wpAny_Raise_call_subT (C:=C) (nm:=nm) (q:=q) (N:=N) (bs:=bs) (bm:=bm) (hdct:=hdct) (sn:=sn) (sub:=sub) (ab:=ab) (col:=col) (dd:=dd) (k0:=k0) (k1:=k1) (k2:=k2) (k3:=k3) (k5:=k5)
    F.excBase_ValueError (mN:=mN) (T.hasType base) (I.ok.hd hc) (by rw [he]; show (false || (gP cpos (bU rest X.env)).any (·.1))=false; rw [hpl]; rfl) hni (md I hg hm ⟨rfl,?_⟩ hd)
  have h1:=ha cpos pins s σ H _ I h
  rw [he] at h1 |-
  refine oZ (dv h1 (fun us s2 z=>?_) fun _ _ y=>y)
  obtain ⟨vs,H1,I1,r,hl,q1⟩:=z
  exact ⟨rfl,by rw [<- r.length]; exact hl,I1.bk _ _ hC,hN.keeps I1.bk,T.keeps I1.bk,fun h' e hm=>hb.raises I1 hm q1⟩
end
section
variable {X:Cx} {pins:List (aa×Obj)} {σ:St} {H:Hp} {s:ao} {T:aa->St->Hp->Prop}
def v5 (X:Cx) (pins:List (aa×Obj)) (H:Hp) (B h:cb):Prop:=
  ∀ b o,(H b≠none\/(b∉X.ex/\∃ o',X.s₀.heap.get? b=some o')\/∃ p∈X.pn++pins,p.1=b)->b∉frs X.stack->h.get? b=some o->B.get? b=some o
def tryW (X:Cx) (pins:List (aa×Obj)) (T:aa->St->Hp->Prop):ae->ao->Prop:=fun e s' =>
  ∃ ea C B σ H,e=.ref ea/\Inv X pins σ H s'/\Fly B X.stack ea C s'.heap/\v5 X pins H B s'.heap/\T C σ H
abbrev Cx.tr (X:Cx) (pins:List (aa×Obj)) (T:aa->St->Hp->Prop):Cx:={X with xe:=tryW X pins T,pn:=X.pn++pins}
theorem Inv.tr (I:Inv X pins σ H s) (T:aa->St->Hp->Prop):Inv (X.tr pins T) [] σ H s:=
  ⟨⟨I.ok.mod,I.ok.kind,I.ok.glob,I.ok.blt,I.ok.above,I.ok.inj,I.ok.has,I.ok.cab,I.ok.hd,I.ok.frames,I.ok.stk,I.ok.exf,I.ok.bs,I.ok.bsz,I.ok.noex,I.ok.exfs,I.ok.funs,I.ok.frf⟩,I.os,I.bare,I.base,I.loc,I.cell,I.free,I.freeC,
    fun p hp=>I.pin p (by simpa using hp),I.hok,I.len⟩
theorem Inv.untr {pins':List (aa×Obj)} (I:Inv (X.tr pins T) pins' σ H s):Inv X pins σ H s:=
  ⟨⟨I.ok.mod,I.ok.kind,I.ok.glob,I.ok.blt,I.ok.above,I.ok.inj,I.ok.has,I.ok.cab,I.ok.hd,I.ok.frames,I.ok.stk,I.ok.exf,I.ok.bs,I.ok.bsz,I.ok.noex,I.ok.exfs,I.ok.funs,I.ok.frf⟩,I.os,I.bare,I.base,I.loc,I.cell,I.free,I.freeC,
    fun p hp=>I.pin p (d9 _ hp),I.hok,I.len⟩
theorem Ag {h h':cb} {c:aa} {v:Option ae} (x:h.IsCell c v) (sm:h.UpToSlots h'):h'.IsCell c v:=by
  obtain ⟨o,ho,hd⟩:=x
  obtain ⟨sl,e⟩:=sm c o ho (fun vs q=>by rw [hd] at q; cases q)
  exact ⟨_,e,hd⟩
theorem Inv.landed {B h':cb} (I:Inv X pins σ H s) (hB:B.StaysIn h') (cov:v5 X pins H B s.heap) (sm:s.heap.UpToSlots h'):Inv X pins σ H {s with heap:=h'}:=by
  refine ⟨I.ok,I.os,I.bare,⟨fun b o e n hb hx=>?_,fun b o e n hb hx=>?_,I.base.free,fun b o e hx=>?_,I.base.tups,I.base.frzs,I.base.tbls⟩,?_,fun x c e=>?_,I.free,I.freeC,fun p hp=>?_,I.hok.left hB (fun b o n e=>cov b o (.inl n) (I.ntr b n) e),I.len⟩
  · exact hB b o (cov b o (.inr (.inl ⟨hx,o,e⟩)) (fun z=>hb (I.oldfs b o e z)) (I.base.keep b o e n hb hx))
  · obtain ⟨s1,e1⟩:=I.base.slot b o e n hb hx
    obtain ⟨s2,e2⟩:=I.slotsOf sm b hb _ e1
    exact ⟨s2,e2⟩
  · obtain ⟨o',e'⟩:=I.base.there b o e hx
    by_cases hb:b∈frs X.stack
    · obtain ⟨s2,e2⟩:=I.slotsOf sm b (I.oldfs b o e hb) _ e'
      exact ⟨_,e2⟩
    · exact ⟨o',hB b o' (cov b o' (.inr (.inl ⟨hx,o,e⟩)) hb e')⟩
  · obtain ⟨m,hn,hl⟩:=I.loc
    refine ⟨m,sm.ns hn,fun i x v e1 e2 e3=>?_⟩
    obtain ⟨u,r,l⟩:=hl i x v e1 e2 e3
    refine ⟨u,r,?_⟩
    rcases l with l | ⟨k,c,e,l⟩
    · exact .inl l
    · exact .inr ⟨k,c,e,Ag l sm⟩
  · obtain ⟨v,q⟩:=I.cell x c e
    exact ⟨v,Ag q sm⟩
  · obtain ⟨e,n,l,f,d⟩:=I.pin p hp
    exact ⟨hB _ _ (cov p.1 p.2 (.inr (.inr ⟨p,hp,rfl⟩)) (fun z=>(ak.mp (I.stkSub _ z)).elim l f) e),n,l,f,d⟩
theorem v5.land {B h':cb} (I:Inv X pins σ H s) (hB:B.StaysIn h') (cov:v5 X pins H B s.heap):v5 X pins H B h':=fun b o c n e=>by
  obtain ⟨o1,e1⟩:∃ o1,s.heap.get? b=some o1:=by
    rcases c with c | ⟨hx,o',c⟩ | ⟨p,hp,rfl⟩
    · exact I.hok.has c
    · exact I.base.there b o' c hx
    · exact ⟨_,(I.pin p hp).1⟩
  have e2:=hB b o1 (cov b o1 c n e1)
  rw [e] at e2
  cases e2
  exact cov b _ c n e1
abbrev Cx.hdl (X:Cx) (ea:aa):Cx:={X with A:=X.A.mark (some (.ref ea)),calm:=false,xe:=fun _ _=>False}
theorem Inv.hdl (I:Inv X pins σ H s) (ea:aa):Inv (X.hdl ea) pins σ H s:=
  ⟨⟨I.ok.mod,I.ok.kind,I.ok.glob,I.ok.blt,I.ok.above,I.ok.inj,I.ok.has,I.ok.cab,fun z=>rV z,I.ok.frames,I.ok.stk,I.ok.exf,I.ok.bs,I.ok.bsz,I.ok.noex,I.ok.exfs,I.ok.funs,I.ok.frf⟩,I.os,I.bare,I.base,I.loc,I.cell,I.free,I.freeC,
    I.pin,I.hok,I.len⟩
theorem Inv.unhdl {ea:aa} (ok:X.Ok) (I:Inv (X.hdl ea) pins σ H s):Inv X pins σ H s:=⟨ok,I.os,I.bare,I.base,I.loc,I.cell,I.free,I.freeC,I.pin,I.hok,I.len⟩
abbrev TH:=aa->TS
def PHs (X:Cx) (hs:List rW) (th:TH):Prop:=
  ∀ (pins:List (aa×Obj)) (s:ao) (σ:St) (H:Hp) (D:jS) (ea C:aa) (B:cb),Inv X pins σ H s->Fly B X.stack ea C s.heap->v5 X pins H B s.heap->th C D σ H ->
    aS (bb X.prog X.w) X.A (handleBy (.ref ea) X.env hs) (SP X pins D) X.xe s
def thNil:TH:=fun _ _ _ _=>False
theorem Gf:PHs X [] thNil:=fun _ _ _ _ _ _ _ _ _ _ _ h=>h.elim
def Ah (CX:CXT) (X:Cx) (E:St->XK):Prop:=∀ (pins:List (aa×Obj)) (σ:St) (H:Hp) (s:ao) (e:ae) (s':ao),Inv X pins σ H s->CX X.stack H s (E σ) e s'->X.xe e s'
def tryE (T:aa->St->Hp->Prop):St->XK:=fun σ c _ H=>∃ C,c=.ref C/\T C σ H
theorem zf:Ah (CXo X.prog X.w) (X.tr pins T) (tryE T):=fun pins' σ H s e s' I h=>by
  obtain ⟨ea,C,H',B,rfl,⟨C',hC,q⟩,os,bare,un,hok,fl,cov⟩:=h
  cases hC
  have J:Inv (X.tr pins T) pins' σ H' s':=I.call' (ch:=[]) os un hok bare (fun b z=>absurd z (by simp))
  refine ⟨ea,C,B,σ,H',rfl,J.untr,fl,fun b o c n e=>cov b o ?_ n e,q⟩
  rcases c with c | ⟨c1,o',c2⟩ | ⟨p,hp,rfl⟩
  · exact .inl c
  · exact .inr (I.base.there b o' c2 c1)
  · exact .inr ⟨_,(I.pin p (d9 _ hp)).1⟩
def Jn (sp:Sp) (E:St->XK) (t:TA):TE:=fun σ H Q=>t σ H fun vs H1=>sp vs H1 Q (E σ)
variable {CX:CXT} {k:Nat} {f:aa} {fd:bG} {ps:List Str} {sp:Sp} {E:St->XK} {x:Str} {p pos:Pos} {e:cA} {es:List cA} {t:TA}
theorem Do (F:bg X.prog X.w X.K X.mg X.base CX k f fd ps sp) (hr:dN k X.A) (hg:Gl X x) (hm:X.mg x=some (.ref f)) (hk:e7 X.K (.ref f)=true) (hb:Binds X.K fd ps []) (hx:Ah CX X E) (ha:PA X (e :: es) t)
    (hdb:(x == ("__debug__":Str))=false:=by decide) (he:bU (e :: es) X.env=(false,eP e X.env) :: bU es X.env:=by rfl) (hpl:(gP pos (bU es X.env)).any (·.1)=false:=by rfl) :
    PE X (.Call (.Name x p) (e :: es) [] pos) (Jn sp E t):=by
  intro pins s σ H Q I h
  refine gU (md I hg hm ?_ hdb)
  refine iC (h₀:=X.base) I.ok.mod.kin hk (thn (ha pos pins s σ H _ I h) fun us s1 z=>?_) he hpl
  obtain ⟨vs,H1,I1,r,q⟩:=z
  refine ⟨I1.kIn,?_⟩
  have hl:(us++[]).length=ps.length:=by
    rw [cW,<- r.length]
    exact F.len _ _ _ _ q
  have hb1:=hb s1 us I1.kIn hl
  rw [cW] at hb1
  refine yY (lI (F.run X.A X.stack s1 H1 ⟨us,[]⟩ us vs Q (E σ) hr I1.env0 hb1 r q) fun r s' hq=>?_)
  cases r with
  | error e=>exact hx pins σ H1 s1 e s' I1 hq
  | ok fl =>
    cases fl with
    | ret u=>exact I1.after hq
    | next=>exact cV hq
    | brk=>exact cV hq
    | cont=>exact cV hq
end
theorem Fun.okX {P:aO} {w:bj} {K:af} {mg:Str->Option ae} {base:cb} {x qual:Str} {st:cR} {f:aa} {fd:bG} {N ps:List Str} {k:Nat} {sp:Sp} (F:Fun K x qual st f fd) (S:bD N ps (aP st)) (len:∀ vs H Q E,sp vs H Q E->vs.length=ps.length)
    (hbody:∀ (cdv:ae) (A:bN) (outer:List Env) (s:ao) (H:Hp) (vs:List V) (Q:VK) (E:XK),dN k (A.deeper (qN qual (aP st) s.heap.objs.size f cdv))->sp vs H Q E ->
      ∃ t,PSs (qM (CXo P w) P w K mg base N qual (aP st) f cdv A outer s H E) (iA st) t/\t {nx:=fun _ H'=>Q .non H',rt:=Q} (start N vs) H):bg P w K mg base (CXo P w) (k + 1) f fd ps sp:=by
  obtain ⟨oc,od,kV,doc,pm,an,cdv,ct,osl,rfl,lk,hcd⟩:=F.ex
  exact HY lk hcd S len fun A outer s H vs Q E hr hsp=>hbody cdv A outer s H vs Q E hr hsp
end L2
namespace L2
open PySem PySem.Spec PyProof.Rows
theorem v7 {prog:aO} {w:bj} {A:bN} {R:Jb->ao->Prop} {s:ao} {elt target iter:cA} {ifs:List cA} {scope:kl} {pos:Pos} {it acc:ae} {env:Env} (J:Nat->ao->Prop)
    (turn:∀ n s,J n s->aS (bb prog w) A (Cw it) (fun r s1=>match r with
      | none=>R (.ok .next) s1
      | some v=>aS (bb prog w) A (pQ target it v) (fun _ s2=>aS (bb prog w) A (vK target env v) (fun _ s3 =>
          aS (bb prog w) A (forIn ifs true fun c r=>if r=true then do let ok <- vH c env (eP c env); pure (ForInStep.yield ok) else pure (ForInStep.yield r)) (fun ok s4 =>
            if ok=true then aS (bb prog w) A (eP elt env) (fun x s5=>aS (bb prog w) A (vN (.builtin "list.append") [acc,x]) (fun _ s6=>∃ m,m < n/\J m s6) (fun _ _=>False) s5) (fun _ _=>False) s4
            else ∃ m,m < n/\J m s4) (fun _ _=>False) s3) (fun _ _=>False) s2) (fun _ _=>False) s1) (fun _ _=>False) s)
    (n:Nat) (h:J n s):ki (bb prog w) A (.compLoop (.ListComp elt [⟨target,iter,ifs,0⟩] scope pos) 0 it acc env) R s:=by
  refine codeAny_loop rfl J (fun n s hI=>?_) n h
  show aS _ A ((compTurn (.ListComp elt [⟨target,iter,ifs,0⟩] scope pos) 0 it acc env).onRaise
    (fun x=>do Cc x env; theTreesLotGoes x)) _ _ s
  refine wpAny_noted ?_
  rw [compTurn_list]
  refine ag (Ba (ag (dv (turn n s hI) (fun r s1 h1=>?_) fun _ _ z=>z.elim)))
  cases r with
  | none=>exact aK h1
  | some v =>
    refine ag (dv h1 (fun _ s2 h2=>?_) fun _ _ z=>z.elim)
    refine ag (dv h2 (fun _ s3 h3=>?_) fun _ _ z=>z.elim)
    refine ag (dv h3 (fun ok s4 h4=>?_) fun _ _ z=>z.elim)
    cases ok with
    | false=>exact aK ⟨rfl,h4⟩
    | true =>
      refine ag (ag (dv h4 (fun x s5 h5=>?_) fun _ _ z=>z.elim))
      exact ag (dv h5 (fun _ s6 h6=>aK (aK ⟨rfl,h6⟩)) fun _ _ z=>z.elim)
theorem xy {env:Env}:∀ {names:List (Str×jz)} {x:Str},
    (names.map fun (n,k)=>if (k == NameKind.free && env.scope.kind == .function && env.kindOf n == some .cell) then (n,NameKind.cell) else (n,k)).lookup x=some .local->names.lookup x=some .local
  | [],_,h=>by simp at h
  | (n,k) :: r,x,h=>by
    have ih:=@xy env r x
    rw [cC] at h
    dsimp only at h
    by_cases hc:(k == NameKind.free && env.scope.kind == .function && env.kindOf n == some .cell)=true
    · rw [if_pos hc] at h
      cases hx:x == n with
      | true=>simp [cg,hx] at h
      | false =>
        simp only [cg,hx] at h |-
        exact ih h
    · rw [if_neg hc] at h
      cases hx:x == n with
      | true =>
        simp only [cg,hx] at h |-
        exact h
      | false =>
        simp only [cg,hx] at h |-
        exact ih h
theorem v9 {env:Env}:∀ {names:List (Str×jz)} {x:Str},
    ((names.map fun (n,k)=>if (k == NameKind.free && env.scope.kind == .function && env.kindOf n == some .cell) then (n,NameKind.cell) else (n,k)).lookup x=some .cell \/
     (names.map fun (n,k)=>if (k == NameKind.free && env.scope.kind == .function && env.kindOf n == some .cell) then (n,NameKind.cell) else (n,k)).lookup x=some .free)->names.lookup x=some .cell\/names.lookup x=some .free
  | [],_,h=>by simp at h
  | (n,k) :: r,x,h=>by
    have ih:=@v9 env r x
    rw [cC] at h
    dsimp only at h
    by_cases hc:(k == NameKind.free && env.scope.kind == .function && env.kindOf n == some .cell)=true
    · rw [if_pos hc] at h
      have hk:k=.free:=by
        have z:=(pA.mp (pA.mp hc).1).1
        exact eq_of_beq z
      cases hx:x == n with
      | true =>
        simp only [cg,hx]
        rw [hk]
        exact .inr rfl
      | false =>
        simp only [cg,hx] at h |-
        exact ih h
    · rw [if_neg hc] at h
      cases hx:x == n with
      | true =>
        simp only [cg,hx] at h |-
        exact h
      | false =>
        simp only [cg,hx] at h |-
        exact ih h
def nY (env:Env):List (Str×jz)->List (Str×aa)->List (Str×aa)
  | [],cs=>cs
  | (n,k) :: r,cs=>nY env r (if k=.free then (match env.cells.lookup n with | some c=>(n,c) :: cs | none=>cs) else cs)
theorem xA {env:Env}:∀ (names:List (Str×jz)) (cs:List (Str×aa)),(∀ y∈names,y.2=.free->∃ c,env.cells.lookup y.1=some c) ->
    (forIn names cs fun x r=>(do
      if (x.2 == NameKind.free)=true then do
        let c <- cellOf env x.1
        pure (ForInStep.yield ((x.1,c) :: r))
      else pure (ForInStep.yield r):Sem (ForInStep (List (Str×aa)))))=(pure (nY env names cs):Sem (List (Str×aa)))
  | [],cs,_=>rfl
  | (n,k) :: r,cs,h=>by
    have ih:=fun cs'=>xA r cs' (fun y hy=>h y (aj _ hy))
    rw [List.forIn_cons]
    by_cases hk:k=.free
    · subst hk
      obtain ⟨c,hc⟩:=h _ aJ rfl
      have e1:cellOf env n=pure c:=by
        unfold cellOf
        rw [show env.cells.lookup n=some c from hc]
      have e2:nY env ((n,.free) :: r) cs=nY env r ((n,c) :: cs):=by
        show nY env r (if NameKind.free=.free then (match env.cells.lookup n with | some c=>(n,c) :: cs | none=>cs) else cs)=_
        rw [if_pos rfl,show env.cells.lookup n=some c from hc]
      rw [e2,<- ih]
      simp [e1]
    · have e2:nY env ((n,k) :: r) cs=nY env r cs:=by
        show nY env r (if k=.free then _ else cs)=_
        rw [if_neg hk]
      rw [e2,<- ih]
      have e3:(k == NameKind.free)=false:=by
        cases k <;> first | rfl | exact absurd rfl hk
      simp [e3]
theorem xB {env:Env}:∀ {names:List (Str×jz)} {cs:List (Str×aa)} {n:Str} {c:aa},(∀ n c,cs.lookup n=some c->env.cells.lookup n=some c)->(nY env names cs).lookup n=some c->env.cells.lookup n=some c
  | [],_,_,_,h,e=>h _ _ e
  | (m,k) :: r,cs,n,c,h,e=>by
    refine xB (names:=r) (fun n' c' e'=>?_) e
    by_cases hk:k=.free
    · rw [if_pos hk] at e'
      cases hm:env.cells.lookup m with
      | none =>
        rw [hm] at e'
        exact h _ _ e'
      | some d =>
        rw [hm] at e'
        dsimp only at e'
        rw [cg] at e'
        split at e'
        · rename_i z
          rw [eq_of_beq z,hm]
          exact e'
        · exact h _ _ e'
    · rw [if_neg hk] at e'
      exact h _ _ e'
theorem uW {env:Env}:∀ (names:List (Str×jz)) (cs:List (Str×aa)) (n:Str),(∃ c,cs.lookup n=some c)->∃ c,(nY env names cs).lookup n=some c
  | [],_,_,h=>h
  | (m,k) :: r,cs,n,h=>by
    refine uW r _ n ?_
    by_cases hk:k=.free
    · rw [if_pos hk]
      cases hm:env.cells.lookup m with
      | none=>exact h
      | some d =>
        dsimp only
        rw [cg]
        split
        · exact ⟨_,rfl⟩
        · exact h
    · rw [if_neg hk]
      exact h
theorem xC {env:Env}:∀ {names:List (Str×jz)} {cs:List (Str×aa)} {n:Str},(n,NameKind.free)∈names->(∃ c,env.cells.lookup n=some c)->∃ c,(nY env names cs).lookup n=some c
  | [],_,_,h,_=>by cases h
  | (m,k) :: r,cs,n,h,hc=>by
    rcases ak.mp h with e | e
    · obtain ⟨e1,e2⟩:=Prod.mk.inj e
      subst e1 e2
      obtain ⟨c,hc⟩:=hc
      refine uW r _ n ⟨c,?_⟩
      rw [if_pos rfl,hc]
      dsimp only
      rw [cg,beq_self_eq_true]
    · exact xC (names:=r) e hc
structure gY (X:Cx) (scope:kl) (NN:List Str):Prop where
  nocell:∀ y∈scope.names,y.2≠.cell
  kind:scope.kind=.function
  names:∀ y∈scope.names,y.2=.local->scope.names.lookup y.1=some .local
  far:∀ y∈scope.names,y.2=.free->X.env.kindOf y.1=some .cell\/X.env.kindOf y.1=some .free
  len:NN.length=X.N.length
  apart:∀ (i:Nat) (n:Str),NN[i]?=some n->scope.names.lookup n≠some .local/\(X.N[i]?=some n\/scope.names.lookup n=none)
theorem gY.closed {X:Cx} {scope:kl} (hf:∀ y∈scope.names,y.2≠.free) (hc:∀ y∈scope.names,y.2≠.cell) (hk:scope.kind=.function) (hn:∀ y∈scope.names,y.2=.local->scope.names.lookup y.1=some .local)
    (ha:∀ n∈X.N,scope.names.lookup n≠some .local):gY X scope X.N where
  nocell:=hc
  kind:=hk
  names:=hn
  far:=fun y hy e=>absurd e (hf y hy)
  len:=rfl
  apart:=fun i n e=>⟨ha n (aM e),.inl e⟩
theorem gY.open {X:Cx} {scope:kl} {NN N:List Str} {sc:kl} (hN:X.N=N) (hsc:X.env.scope=sc) (hc:∀ y∈scope.names,y.2≠.cell) (hk:scope.kind=.function) (hn:∀ y∈scope.names,y.2=.local->scope.names.lookup y.1=some .local)
    (hf:∀ y∈scope.names,y.2=.free->sc.names.lookup y.1=some .cell) (hl:NN.length=N.length) (ha:∀ p∈NN.zip N,scope.names.lookup p.1≠some .local/\(p.2=p.1\/scope.names.lookup p.1=none)):gY X scope NN where
  nocell:=hc
  kind:=hk
  names:=hn
  far:=fun y hy e=>.inl (by have z:=hf y hy e; rw [<- hsc] at z; exact z)
  len:=by rw [hN]; exact hl
  apart:=fun i n e=>by
    have lt:i < N.length:=by rw [<- hl]; exact (aw.mp e).1
    have e2:N[i]?=some N[i]:=aC lt
    have z:=ha (n,N[i]) (aM (i:=i) (by rw [wc]; exact ⟨e,e2⟩))
    refine ⟨z.1,?_⟩
    rcases z.2 with z | z
    · left
      rw [hN,e2]
      exact congrArg some z
    · exact .inr z
abbrev cxC (X:Cx) (scope:kl) (NL:List Str) (fp:List aa) (s₂:ao) (H₂:Hp) (C:aa):Cx:=
  {X with N:=NL,s₀:=s₂,H₀:=H₂,env:=compEnvC scope (nY X.env scope.names []) C X.env,outer:=X.stack,ex:=fp,fn:=fun _=>false,pn:=[],xe:=fun _ _=>False}
def PTs (X:Cx) (ifs:List cA) (t:TT):Prop:=
  ∀ (pins:List (aa×Obj)) (s:ao) (σ:St) (H:Hp) (Q:Bool->Hp->Prop),Inv X pins σ H s->t σ H Q ->
    aS (bb X.prog X.w) X.A (forIn ifs true fun c r=>if r=true then do let ok <- vH c X.env (eP c X.env); pure (ForInStep.yield ok) else pure (ForInStep.yield r)) (TP X pins σ Q) X.xe s
def um:TT:=fun _ H Q=>Q true H
theorem jJ {X:Cx}:PTs X [] um:=fun pins s σ H Q I h=>wpAny_tests_nil ⟨H,I,h⟩
theorem Gg {X:Cx} {c:cA} {t:TT} (h:PT X c t):PTs X [c] t:=fun pins s σ H Q I q=>wpAny_tests_one (h pins s σ H Q I q)
def qg (n:Nat) (wi:TI) (g:TG) (tc:TT) (te:TE):TE:=fun σ H Q=>wi σ H fun J H1=>∃ W:Nat->Nat->List V->Hp->Prop,(∃ m,W 0 m [] H1)/\∀ i m ys H,W i m ys H->ys.length < az /\
  ((J.stop i H/\∀ p,H p=none->Q (.ref p) (upd H p (.lst ys))) \/
   (J.go i H/\∃ N:List V->Hp->Prop,(∀ ys' H',N ys' H'->∃ m',m' < m/\W (i + 1) m' ys' H')/\∀ x H',J.yld i H x H'->g x (b7 n none++σ) H' fun σ2 H2=>σ2.drop n=σ/\tc σ2 H2 fun b H3 =>
      if b=true then te σ2 H3 fun y H4=>N (ys++[y]) H4 else N ys H3))
section
variable {X:Cx}
theorem xE {σ σ2:St} {n:Nat} (h:σ2.drop n=σ) (i:Nat) (v:V) (e:(b7 n none++σ)[i]?=some (some v)):σ2[i]?=some (some v):=by
  by_cases hi:i < n
  · rw [iu (by simpa using hi),mU,if_pos hi] at e
    cases e
  · rw [dD (by simpa using hi),jh] at e
    rw [<- h,Cd] at e
    rw [show n + (i - n)=i by omega] at e
    exact e
theorem xH {elt target iter:cA} {ifs:List cA} {scope:kl} {NN:List Str} {pos pos':Pos} {wi:TI} {g:TG} {tc:TT} {te:TE} {use:Option (ae->Sem Unit)} {Qv:ae->ao->Prop} (own:List Str) (ok:gY X scope NN) (hc:X.calm=true) (hi:PI X target iter wi)
    (hg:∀ fp s₂ H₂ C,PG (cxC X scope (own++NN) fp s₂ H₂ C) target g) (ht:∀ fp s₂ H₂ C,PTs (cxC X scope (own++NN) fp s₂ H₂ C) ifs tc) (he:∀ fp s₂ H₂ C,PE (cxC X scope (own++NN) fp s₂ H₂ C) elt te)
    (hs:∀ x,nj iter X.env x=pure x) {pins:List (aa×Obj)} {s:ao} {σ:St} {H:Hp} {Q:VK} (I:Inv X pins σ H s) (h:qg own.length wi g tc te σ H Q)
    (hfin:∀ (s4:ao) (C D:aa) (H':Hp) (m:Str->Option ae),s4.heap.Ns C m->Inv X pins σ H' s4->H' C=none->C≠X.env.locals->X.s₀.heap.objs.size<=C->(∀ x c,X.env.cells.lookup x=some c->c≠C)->(∀ p∈X.pn++pins,p.1≠C)->Q (.ref D) H' ->
      compPost (bb X.prog X.w) X.A X.xe use Qv (.ref D) C (.ok .next) s4) :
    aS (bb X.prog X.w) X.A (comprehension (.ListComp elt [⟨target,iter,ifs,0⟩] scope pos) scope X.env pos' (newList []) false (eP iter X.env) use) Qv X.xe s:=by
  have hfr:∀ y∈scope.names,y.2=.free->∃ c,X.env.cells.lookup y.1=some c:=fun y hy e=>I.ok.has _ (ok.far y hy e)
  have okclos:closureFor scope X.env=pure (nY X.env scope.names []):=by
    unfold closureFor
    rw [<- xA scope.names [] hfr]
    simp
  have oksub:∀ n c,(nY X.env scope.names []).lookup n=some c->X.env.cells.lookup n=some c:=fun n c e=>xB (fun n c e=>by simp at e) e
  have okfar:∀ n,(scope.names.lookup n=some .cell\/scope.names.lookup n=some .free)->(∃ c,(nY X.env scope.names []).lookup n=some c)/\(X.env.kindOf n=some .cell\/X.env.kindOf n=some .free):=fun n e=>by
    rcases e with e | e
    · exact absurd rfl (ok.nocell _ (fq e))
    · have m:=fq e
      exact ⟨xC m (hfr _ m rfl),ok.far _ m rfl⟩
  refine wpAny_comprehension_free (use:=use) rfl hs okclos ok.kind ok.names (thn (hi pins s σ H _ I h) fun xv s1 h1=>thn h1 fun itv s2 h2=>?_)
  obtain ⟨it,fp,tn,J,H2,e,I2,T,st2,f2,W,⟨m0,w0⟩,turn⟩:=h2
  subst e
  have fpLt:∀ b∈fp,b < s2.heap.objs.size:=fun b hb=>by
    obtain ⟨o,e,_⟩:=T.obj _ _ st2 b hb
    exact aQ e
  refine gD (wpAny_newFunctionEnv ok.nocell (by intro y hy; simp at hy) (fun h1 hns hsb=>?_) ok.kind)
  dsimp only at hns hsb |-
  generalize hP:s2.heap.push {cls:=.type "list",dict:=none,data:=.seq ([]:List ae).toArray}=P at hns hsb |-
  have hC:P.objs.size=s2.heap.objs.size + 1:=by rw [<- hP,kH]
  have hDC:s2.heap.objs.size≠P.objs.size:=by rw [hC]; exact aR (m5 _)
  have leC:s2.heap.objs.size<=P.objs.size:=by rw [hC]; exact lY _
  have old:∀ b o,s2.heap.get? b=some o->h1.get? b=some o:=fun b o e =>
    hsb.extBut b o (by rw [hC]; exact aR (rL (aQ e))) (aI _ (hP ▸ aI _ e))
  have accAt:h1.get? s2.heap.objs.size=some {cls:=.type "list",data:=.seq ([]:List ae).toArray 0}:=hsb.extBut _ _ hDC (aI _ (hP ▸ bX _ rfl))
  -- the block's context is well made
  have okC:(cxC X scope (own++NN) fp s2 H2 P.objs.size).Ok:=by
    refine ⟨I.ok.mod,ok.kind,I.ok.glob,I.ok.blt,by show s2.heap.objs.size<=P.objs.size; omega,fun y z c a b=>I.ok.inj y z c (oksub _ _ a) (oksub _ _ b),fun y hy=>(okfar y (v9 hy)).1,fun y c z _=>rV z,I.ok.hd,I.ok.frames,.inl rfl,
      fun b hb=>⟨fun z=>?_,fun y c e=>(f2 b hb).2.2.2.2.1 y c (oksub _ _ e)⟩,I2.bs,cv I.ok.bsz I2.sz,fun b o e hb=>?_,fun b hb z=>?_,I2.stack,I2.stkFree⟩
    · exact aR (aY (fpLt b hb) leC) z
    · rcases (f2 b hb).2.2.2.1 with q | q
      · exact I.ok.noex b o e q
      · exact absurd (aY (aQ e) (cv I.ok.bsz q)) (fX _)
    · rcases ak.mp (I2.stkSub b z) with q | q
      · exact (f2 b hb).2.1 q
      · exact (f2 b hb).2.2.1 q
  have fpOk:∀ {H':Hp} {o:Obj},(∀ b∈fp,H' b=none)->∀ b∈fp,vM (cxC X scope (own++NN) fp s2 H2 P.objs.size) [(s2.heap.objs.size,o)] H' b:=fun {H' o} hn b hb=>by
    have lt:=fpLt b hb
    refine ⟨hn b hb,fun z=>?_,fun z=>okC.exfs b hb z,.inl hb,fun y c e=>(okC.exf b hb).2 y c e,fun p hp z=>?_⟩
    · exact aR (aY lt leC) z
    · have hp':p=(s2.heap.objs.size,o):=by simpa using hp
      subst hp'
      exact aR lt (Eq.symm z)
  have cellNe:∀ y c,(nY X.env scope.names []).lookup y=some c->c < s2.heap.objs.size:=fun y c e=>by
    obtain ⟨v,q⟩:=I2.cell y c (oksub _ _ e)
    exact q.lt
  have start:Inv (cxC X scope (own++NN) fp s2 H2 P.objs.size) [] (b7 own.length none++σ) H2 {s2 with heap:=h1,toks:=s2.toks + ([]:List (Str×ae)).length}:=by
    refine ⟨okC,rfl,I2.bare,Un.kept old,⟨_,hns,fun i y v e1 e2 e3=>?_⟩,fun y c e=>?_,I2.hok.fresh (by show s2.heap.objs.size<=P.objs.size; omega),fun y c e=>I2.freeC y c (oksub _ _ e),fun p hp=>absurd (show p∈([]:List (aa×Obj)) from by simpa using hp) (by simp),I2.hok.kept old,?_⟩
    · by_cases hi:i < own.length
      · rw [iu (by simpa using hi),mU,if_pos hi] at e2
        cases e2
      · have e1n:NN[i - own.length]?=some y:=by
          have z:(own++NN)[i]?=some y:=e1
          rw [dD (by omega)] at z
          exact z
        rw [dD (by simpa using hi),jh] at e2
        obtain ⟨ap1,ap2⟩:=ok.apart _ y e1n
        rcases e3 with e3 | e3
        · exact absurd (xy e3) ap1
        · obtain ⟨⟨c,hcl⟩,kc⟩:=okfar y (v9 e3)
          have e1':X.N[i - own.length]?=some y:=by
            rcases ap2 with z | z
            · exact z
            · rcases v9 e3 with q | q <;> (rw [z] at q; cases q)
          obtain ⟨m,hn,hl⟩:=I2.loc
          obtain ⟨u,r,l⟩:=hl (i - own.length) y v e1' e2 (.inr kc)
          refine ⟨u,r,.inr ⟨e3,c,hcl,?_⟩⟩
          rcases l with ⟨l,_⟩ | ⟨_,c',e',q⟩
          · rcases kc with kc | kc <;> (rw [l] at kc; cases kc)
          · rw [oksub _ _ hcl] at e'
            cases e'
            exact q.keeps old
    · obtain ⟨v,q⟩:=I2.cell y c (oksub _ _ e)
      exact ⟨v,q.keeps old⟩
    · show (b7 own.length none++σ).length=(own++NN).length
      rw [aB,aB,jh,I2.len,ok.len]
  have nDC:s2.heap.objs.size≠P.objs.size:=hDC
  have nDf:s2.heap.objs.size∉frs X.stack:=fun z=>by
    rcases ak.mp (I2.stkSub _ z) with q | q
    · exact aR I2.lt (Eq.symm q)
    · exact I2.nofs (aE _) q
  have loop:∀ s₃:ao,s₃={s2 with heap:=h1,toks:=s2.toks + ([]:List (Str×ae)).length} ->
      ki (bb X.prog X.w) X.A (.compLoop (.ListComp elt [⟨target,iter,ifs,0⟩] scope pos) 0 (.ref it) (.ref s2.heap.objs.size) (compEnvC scope (nY X.env scope.names []) P.objs.size X.env))
        (compPost (bb X.prog X.w) X.A X.xe use Qv (.ref s2.heap.objs.size) P.objs.size) s₃:=by
    rintro s₃ rfl
    refine v7 (fun n s'=>∃ (i:Nat) (ys:List V) (H':Hp) (its:List ae) (k:Nat),Inv (cxC X scope (own++NN) fp s2 H2 P.objs.size) [] (b7 own.length none++σ) H' s'/\tn i s'.heap/\(∀ b∈fp,H' b=none)/\H' s2.heap.objs.size=none/\cY ys its /\
      s'.heap.get? s2.heap.objs.size=some {cls:=.type "list",data:=.seq its.toArray k}/\W i n ys H') ?_ m0
      ⟨0,[],H2,[],0,start,T.keep _ _ _ st2 (fun b _ o e=>old b o e),fun b hb=>(f2 b hb).1,I2.hok.fresh (aE _),.nil,accAt,w0⟩
    rintro n s3 ⟨i,ys,H3,its,k,I3,st3,fr3,nD,rv,hD,w3⟩
    have Ip:Inv (cxC X scope (own++NN) fp s2 H2 P.objs.size) [(s2.heap.objs.size,{cls:=.type "list",data:=.seq its.toArray k})] (b7 own.length none++σ) H3 s3:=I3.pins_of fun p hp=>by
      have hp':p=(s2.heap.objs.size,{cls:=.type "list",data:=.seq its.toArray k}):=by simpa using hp
      subst hp'
      exact ⟨hD,nD,nDC,nDf,fun v z=>by cases z⟩
    obtain ⟨hl,hw⟩:=turn i n ys H3 w3
    rcases hw with ⟨stop,fin⟩ | ⟨go,N,hN,step⟩
    · refine thn (T.done (cxC X scope (own++NN) fp s2 H2 P.objs.size) rfl rfl rfl hc i _ s3 _ H3 _ Ip (fpOk fr3) st3 stop) fun r s4 z=>?_
      obtain ⟨hr,I4⟩:=z
      subst hr
      obtain ⟨m,hn,_⟩:=I4.loc
      have hD4:s4.heap.get? s2.heap.objs.size=some {cls:=.type "list",data:=.seq its.toArray k}:=(I4.pin _ (aV _ aJ)).1
      obtain ⟨h',eh'⟩:∃ h',h'=s4.heap:=⟨_,rfl⟩
      have sb':∀ b o,b≠P.objs.size->s4.heap.get? b=some o->h'.get? b=some o:=fun b o hb e=>by rw [eh']; exact e
      have oldNe:∀ b o,s2.heap.get? b=some o->b≠P.objs.size/\b≠s2.heap.objs.size:=fun b o e=>by
        have lt:=aQ e
        exact ⟨aR (aY lt leC),aR lt⟩
      have trNe:∀ b u,H3 b=some u->b≠P.objs.size/\b≠s2.heap.objs.size:=fun b u e=>by
        refine ⟨fun z=>?_,fun z=>?_⟩
        · have q:H3 P.objs.size=none:=I4.free
          rw [<- z,e] at q
          cases q
        · rw [z,nD] at e
          cases e
      have un:Un (frs X.stack) fp H2 (upd H3 s2.heap.objs.size (.lst ys)) s2.heap h':=by
        have B:=I4.base
        refine ⟨fun b o e q hb hx=>sb' b o (oldNe b o e).1 (B.keep b o e q hb hx),fun b o e q hb hx=>?_,fun b o e q hx=>?_,fun b o e hx=>?_,fun b xs e=>?_,fun b o u e=>?_,fun b ps e=>?_⟩
        · obtain ⟨sl,e1⟩:=B.slot b o e q hb hx
          exact ⟨sl,sb' _ _ (oldNe b o e).1 e1⟩
        · rw [aG (oldNe b o e).2]
          exact B.free b o e q hx
        · obtain ⟨o',e1⟩:=B.there b o e hx
          exact ⟨o',sb' _ _ (oldNe b o e).1 e1⟩
        · have q:=B.tups b xs e
          rw [aG (trNe _ _ q).2]
          exact q
        · have q:=B.frzs b o u e
          rw [aG (trNe _ _ q).2]
          exact q
        · obtain ⟨more,q⟩:=B.tbls b ps e
          refine ⟨more,?_⟩
          rw [aG (trNe _ _ q).2]
          exact q
      have hok:HOk X.prog X.w (upd H3 s2.heap.objs.size (.lst ys)) h':=fun b u e=>by
        by_cases hb:b=s2.heap.objs.size
        · subst hb
          rw [ah] at e
          cases e
          exact ⟨nF hl,its,k,rv,sb' _ _ nDC hD4⟩
        · rw [aG hb] at e
          refine (I4.hok b u e).stay (fun c v hc q=>sb' c v ?_ q) (fun c q=>?_) fun c xs q=>?_
          · rcases hc with z | z
            · rw [z]
              exact (trNe _ _ e).1
            · exact (trNe _ _ z).1
          · rw [aG (trNe _ _ q).2]
            exact q
          · rw [aG (trNe _ _ q).2]
            exact q
      have J:=I2.call' (s':={s4 with heap:=h'}) (ch:=fp) I4.os un hok I4.bare fun b hb=>⟨(f2 b hb).2.2.2.1,(f2 b hb).2.1,(f2 b hb).2.2.2.2.1,(f2 b hb).2.2.2.2.2⟩
      subst eh'
      refine hfin s4 P.objs.size s2.heap.objs.size (upd H3 s2.heap.objs.size (.lst ys)) m hn J ?_ ?_ ?_ (fun y c e=>?_) (fun q hq=>?_) (fin _ nD)
      · rw [aG nDC.symm]
        exact I4.free
      · exact nI (aY I2.lt leC)
      · exact cv I2.sz leC
      · obtain ⟨v,z⟩:=I2.cell y c e
        exact aR (aY z.lt leC)
      · exact aR (aY (aQ (I2.pin q hq).1) leC)
    · refine thn (T.item (cxC X scope (own++NN) fp s2 H2 P.objs.size) rfl rfl rfl hc i _ s3 _ H3 _ Ip (fpOk fr3) st3 go) fun r s4 z=>?_
      obtain ⟨u,hr,h4⟩:=z
      subst hr
      refine thn h4 fun _ s5 z=>?_
      obtain ⟨x,H5,I5,r5,y5,st5,fr5⟩:=z
      have I5':=I5.pinned (fpOk fr5) (T.obj _ _ st5)
      refine thn (hg fp s2 H2 P.objs.size _ s5 _ H5 x u _ I5' r5 (step x H5 y5)) fun _ s6 z=>?_
      obtain ⟨σ6,H6,I6,hσ,q6⟩:=z
      refine thn (ht fp s2 H2 P.objs.size _ s6 σ6 H6 _ I6 q6) fun okb s7 z=>?_
      obtain ⟨H7,I7,q7⟩:=z
      have pinD:∀ {H8:Hp} {s8:ao},Inv (cxC X scope (own++NN) fp s2 H2 P.objs.size) ([(s2.heap.objs.size,{cls:=.type "list",data:=.seq its.toArray k})]++qI fp s5.heap) σ6 H8 s8 ->
          s8.heap.get? s2.heap.objs.size=some {cls:=.type "list",data:=.seq its.toArray k}/\H8 s2.heap.objs.size=none:=fun I8=>by
        have z:=I8.pin (s2.heap.objs.size,{cls:=.type "list",data:=.seq its.toArray k}) (aV _ (d9 _ aJ))
        exact ⟨z.1,z.2.1⟩
      have pinF:∀ {H8:Hp} {s8:ao},Inv (cxC X scope (own++NN) fp s2 H2 P.objs.size) ([(s2.heap.objs.size,{cls:=.type "list",data:=.seq its.toArray k})]++qI fp s5.heap) σ6 H8 s8 ->
          tn (i + 1) s8.heap/\∀ b∈fp,H8 b=none:=fun {H8 s8} I8=>by
        refine ⟨T.keep _ _ _ st5 fun b hb o e=>(I8.pin (b,o) (aV _ (aV _ (mf hb e)))).1,fun b hb=>?_⟩
        obtain ⟨o,e,_⟩:=T.obj _ _ st5 b hb
        exact (I8.pin (b,o) (aV _ (aV _ (mf hb e)))).2.1
      have len6:(b7 own.length none++σ).length=σ6.length:=by rw [I6.len,start.len]
      cases okb with
      | false =>
        have q7':N ys H7:=q7
        obtain ⟨m',lt,w'⟩:=hN _ _ q7'
        obtain ⟨d1,d2⟩:=pinD I7
        obtain ⟨p1,p2⟩:=pinF I7
        have J7:Inv (cxC X scope (own++NN) fp s2 H2 P.objs.size) [] σ6 H7 s7:=I7.pins_of (fun p hp=>absurd hp (by simp))
        exact ⟨m',lt,i + 1,ys,H7,its,k,J7.weak len6 (xE hσ),p1,p2,d2,rv,d1,w'⟩
      | true =>
        refine thn (he fp s2 H2 P.objs.size _ s7 σ6 H7 _ I7 q7) fun v8 s8 z=>?_
        obtain ⟨y,H8,I8,r8,n8⟩:=z
        obtain ⟨m',lt,w'⟩:=hN _ _ n8
        obtain ⟨d1,d2⟩:=pinD I8
        obtain ⟨p1,p2⟩:=pinF I8
        refine append_at (hsz:=by rw [aA,<- rv.length]; exact nF hl) d1 fun h9 sb hD9=>?_
        have J8:Inv (cxC X scope (own++NN) fp s2 H2 P.objs.size) [] σ6 H8 s8:=I8.pins_of (fun p hp=>absurd hp (by simp))
        have J9:Inv (cxC X scope (own++NN) fp s2 H2 P.objs.size) [] σ6 H8 {s8 with heap:=h9}:=J8.turned (t':=s8.toks) (it:=s2.heap.objs.size) (fun b o hb e=>sb.extBut b o hb e) d2 nDC (.inr (aE _)) (fun y c e=>aR (cellNe y c e)) (fun p hp=>absurd hp (by simp))
        refine ⟨m',lt,i + 1,ys++[y],H8,its++[v8],k + 1,J9.weak len6 (xE hσ),T.keep _ _ _ p1 (fun b hb o e=>sb.extBut b o (aR (fpLt b hb)) e),p2,d2,rv.append (.cons r8 .nil),?_,w'⟩
        show h9.get? _=_
        rw [hD9,List.push_toArray]
  exact codeAny_compStart_list (loop _ rfl) (T.self X.A 0 _ _ _ (T.keep _ _ _ st2 (fun b _ o e=>old b o e)) (loop _ rfl))
theorem kN {elt target iter:cA} {ifs:List cA} {scope:kl} {NN:List Str} {pos:Pos} {wi:TI} {g:TG} {tc:TT} {te:TE} (own:List Str) (ok:gY X scope NN) (hc:X.calm=true) (hi:PI X target iter wi)
    (hg:∀ fp s₂ H₂ C,PG (cxC X scope (own++NN) fp s₂ H₂ C) target g) (ht:∀ fp s₂ H₂ C,PTs (cxC X scope (own++NN) fp s₂ H₂ C) ifs tc) (he:∀ fp s₂ H₂ C,PE (cxC X scope (own++NN) fp s₂ H₂ C) elt te)
    (hs:∀ x,nj iter X.env x=pure x:=by intro _; rfl):PE X (.ListComp elt [⟨target,iter,ifs,0⟩] scope pos) (qg own.length wi g tc te):=by
  intro pins s σ H Q I h
  rw [eval_ListComp]
  refine xH (use:=none) own ok hc hi hg ht he hs I h fun s4 C D H' m hn J n1 n2 n3 n4 n5 q=>?_
  exact ⟨m,hn,fun h' sb=>⟨.ref D,H',J.turned (t':=s4.toks) (it:=C) (fun b o hb e=>sb.extBut b o hb e) n1 n2 (.inr n3) n4 n5,rfl,q⟩⟩
theorem Ai {elt target iter:cA} {ifs:List cA} {scope:kl} {NN:List Str} {pos pos' spos:Pos} {wi:TI} {g:TG} {tc:TT} {te:TE} {i:Nat} {x:Str} (own:List Str) (ok:gY X scope NN) (hc:X.calm=true) (hN:X.N.Nodup) (hx0:X.N[i]?=some x) (hx:Loc X.env.scope x) (hi:PI X target iter wi)
    (hg:∀ fp s₂ H₂ C,PG (cxC X scope (own++NN) fp s₂ H₂ C) target g) (ht:∀ fp s₂ H₂ C,PTs (cxC X scope (own++NN) fp s₂ H₂ C) ifs tc) (he:∀ fp s₂ H₂ C,PE (cxC X scope (own++NN) fp s₂ H₂ C) elt te)
    (hs:∀ x,nj iter X.env x=pure x:=by intro _; rfl) (hf:X.fn x=true\/X.env.scope.names.lookup x=some .local:=by first | exact .inl rfl | exact .inr rfl | assumption)
    (hsw:vJ (.ListComp elt [⟨target,iter,ifs,0⟩] scope pos) (some (.Name x pos')) spos.line X.env=pure true:=by rfl):PS X (.Assign [.Name x pos'] (.ListComp elt [⟨target,iter,ifs,0⟩] scope pos) spos) (FH (qg own.length wi g tc te) (zV i)):=by
  intro pins s σ H D I h
  rw [exec_Assign_Name_used _ _ _ _ hsw]
  refine ag (Ba (ag ?_))
  show aS _ X.A (do let _ <- comprehension (.ListComp elt [⟨target,iter,ifs,0⟩] scope pos) scope X.env _ (newList []) false (eP iter X.env) (some (vK (.Name x pos') X.env))) _ _ s
  refine ag (dv (xH (use:=some (vK (.Name x pos') X.env)) (Qv:=fun _ s'=>SP X pins D .next s') own ok hc hi hg ht he hs I h fun s4 C DD H' m hn J n1 n2 n3 n4 n5 q=>?_) (fun _ s' hq=>aK (aK hq)) fun _ _ e=>e)
  show aS _ X.A (vK (.Name x pos') X.env (.ref DD)) _ _ s4
  refine Kx (uC J hN hx0 hx (show RelV (.ref DD) (.ref DD) from rfl) (fun s' J' z=>?_) hf)
  obtain ⟨a,sb,ha⟩:=z
  have na:C≠a:=by
    rcases ha with ha | ha
    · rw [ha]
      exact n2
    · exact (n4 x a ha).symm
  refine ⟨m,hn.at' fun o e=>sb.extBut C o na e,fun h' sb2=>⟨_,H',J'.turned (t':=s'.toks) (it:=C) (fun b o hb e=>sb2.extBut b o hb e) n1 n2 (.inr n3) n4 n5,q⟩⟩
end
section
variable {K:af} {a:aa} {xs:List V} {n:Nat} {g:TG} {tc:TT} {te:TE} {σ:St} {H:Hp} {Q:VK}
theorem qV (Pv:Nat->List V->Hp->Prop) (h0:Pv 0 [] H) (hl:∀ i ys H,i<=xs.length->Pv i ys H->SqL K H a xs/\ys.length < az)
    (hs:∀ i x ys H,xs[i]?=some x->Pv i ys H->g x (b7 n none++σ) H fun σ2 H2=>σ2.drop n=σ/\tc σ2 H2 fun b H3=>if b=true then te σ2 H3 fun y H4=>Pv (i + 1) (ys++[y]) H4 else Pv (i + 1) ys H3)
    (hd:∀ ys H,Pv xs.length ys H->∀ p,H p=none->Q (.ref p) (upd H p (.lst ys))) :
    ∃ W:Nat->Nat->List V->Hp->Prop,(∃ m,W 0 m [] H)/\∀ i m ys H,W i m ys H->ys.length < az/\(((Itl K a).stop i H/\∀ p,H p=none->Q (.ref p) (upd H p (.lst ys))) \/
      ((Itl K a).go i H/\∃ N:List V->Hp->Prop,(∀ ys' H',N ys' H'->∃ m',m' < m/\W (i + 1) m' ys' H')/\∀ x H',(Itl K a).yld i H x H'->g x (b7 n none++σ) H' fun σ2 H2=>σ2.drop n=σ/\tc σ2 H2 fun b H3 =>
        if b=true then te σ2 H3 fun y H4=>N (ys++[y]) H4 else N ys H3)):=by
  refine ⟨fun i m ys H=>m=xs.length - i/\i<=xs.length/\Pv i ys H,⟨xs.length,by simp,bA _,h0⟩,?_⟩
  rintro i m ys H ⟨rfl,hi,p⟩
  obtain ⟨q,z⟩:=hl i ys H hi p
  refine ⟨z,?_⟩
  by_cases hlt:i < xs.length
  · refine .inr ⟨⟨xs,xs[i],q,by simp [hlt]⟩,Pv (i + 1),fun ys' H' p'=>⟨xs.length - (i + 1),by omega,rfl,hlt,p'⟩,fun x H' y=>?_⟩
    obtain ⟨e,y⟩:=y
    subst e
    exact hs i x ys _ (y xs q) p
  · have e:i=xs.length:=by omega
    subst e
    exact .inl ⟨⟨xs,q,aE _⟩,hd ys H p⟩
theorem Dp (Pv:Nat->List V->Hp->Prop) (h0:Pv 0 [] H) (hl:∀ i ys H,i<=xs.length->Pv i ys H->SqT K H a xs/\ys.length < az)
    (hs:∀ i x ys H,xs[i]?=some x->Pv i ys H->g x (b7 n none++σ) H fun σ2 H2=>σ2.drop n=σ/\tc σ2 H2 fun b H3=>if b=true then te σ2 H3 fun y H4=>Pv (i + 1) (ys++[y]) H4 else Pv (i + 1) ys H3)
    (hd:∀ ys H,Pv xs.length ys H->∀ p,H p=none->Q (.ref p) (upd H p (.lst ys))) :
    ∃ W:Nat->Nat->List V->Hp->Prop,(∃ m,W 0 m [] H)/\∀ i m ys H,W i m ys H->ys.length < az/\(((Itt K a).stop i H/\∀ p,H p=none->Q (.ref p) (upd H p (.lst ys))) \/
      ((Itt K a).go i H/\∃ N:List V->Hp->Prop,(∀ ys' H',N ys' H'->∃ m',m' < m/\W (i + 1) m' ys' H')/\∀ x H',(Itt K a).yld i H x H'->g x (b7 n none++σ) H' fun σ2 H2=>σ2.drop n=σ/\tc σ2 H2 fun b H3 =>
        if b=true then te σ2 H3 fun y H4=>N (ys++[y]) H4 else N ys H3)):=by
  refine ⟨fun i m ys H=>m=xs.length - i/\i<=xs.length/\Pv i ys H,⟨xs.length,by simp,bA _,h0⟩,?_⟩
  rintro i m ys H ⟨rfl,hi,p⟩
  obtain ⟨q,z⟩:=hl i ys H hi p
  refine ⟨z,?_⟩
  by_cases hlt:i < xs.length
  · refine .inr ⟨⟨xs,xs[i],q,by simp [hlt]⟩,Pv (i + 1),fun ys' H' p'=>⟨xs.length - (i + 1),by omega,rfl,hlt,p'⟩,fun x H' y=>?_⟩
    obtain ⟨e,y⟩:=y
    subst e
    exact hs i x ys _ (y xs q) p
  · have e:i=xs.length:=by omega
    subst e
    exact .inl ⟨⟨xs,q,aE _⟩,hd ys H p⟩
end
end L2
namespace PySem
theorem wg:Je (.type "list") "keys"=pure none:=by rw [typeLookup_type,builtinLookup_eq_fast]; kernel_rfl
theorem xI:entryFor table "dict.update.loop"=some gW.«dict.update.loop»:=entryFor_of_tree (by kernel_rfl)
section
variable {prog:aO} {w:bj} {A:bN} {E:ae->ao->Prop} {s:ao}
theorem Gh {a:aa} {xs:Array ae} {k:Nat} {sl:Array (Option ae)} {Q:Option ae->ao->Prop} (hx:s.heap.get? a=some {cls:=.type "list",dict:=none,data:=.seq xs k,slots:=sl}) (hA:A.handled=none)
    (h:∀ h' tk,(∀ b o,s.heap.get? b=some o->h'.get? b=some o)->Q none {s with heap:=h',toks:=tk}):aS (bb prog w) A (getAttr? (.ref a) "keys") Q E s:=by
  obtain ⟨hp,g,d,tk,os⟩:=s
  have hT:∀ tk',(⟨hp,g,d,tk',os⟩:ao).TypeIs (.ref a) "list":=fun _=>⟨_,hx,rfl⟩
  have f1:=sub_AttributeError
  have f3:=F.slot_list_getattribute.lookup
  have f4:=F.slot_list_getattribute.bind (.ref a)
  have f5:=am_list_getattr_none
  unfold getAttr? getAttrBy? getAttrBy
  have go:∀ (u:Tok) (tk:Nat) (Q:ae->ao->Prop) (E:ae->ao->Prop),(∀ h' tk' e,Heap.NewAttrErr hp h' e (.ref a) "keys"->E (.ref e) ⟨h',g,d,tk',os⟩)->aS (bb prog w) A (vN (Value.builtin "list.__getattribute__") [.ref a,.str "keys" u]) Q E ⟨hp,g,d,tk,os⟩:=fun u tk Q E k1 =>
    pI F.slot_list_getattribute (hT _) am_entry_list_getattribute (F.args_list_getattribute_2 _ _) (meets_getattribute_miss_list a xs k sl "keys" _ wg (by decide +kernel)) ⟨hx,hA,fun h' tk' e hx'=>k1 h' tk' e hx'⟩
  repeat (any_goals (first | assumption | exact hT _ | refine go _ _ _ _ (fun h' tk' e hx'=>?_) | wp_step))
  obtain ⟨t',u',he⟩:=hx'.there
  repeat (any_goals (first | assumption | wp_step))
  exact h _ _ hx'.keeps
def zg {prog:aO} {w:bj} {K:Type} [DecidableEq K] (knd:KeyKind prog w K) (h:cb) (p:K×ae) (x:ae):Prop:=
  ∃ (a:aa) (kv:ae) (o:Obj) (n:Nat),x=.ref a/\h.get? a=some o/\o.cls=.type "tuple"/\o.data=.seq #[kv,p.2] n/\knd.is p.1 kv=true
variable {K:Type} [DecidableEq K] {knd:KeyKind prog w K}
theorem Dq {a:aa} {o:Obj} {n:Nat} {k v:ae} {Q:List ae->ao->Prop} (ho:s.heap.get? a=some o) (hc:o.cls=.type "tuple") (hd:o.data=.seq #[k,v] n) (h:Q [k,v] s):aS (bb prog w) A (rX (.ref a)) Q E s:=by
  unfold rX
  have hT:s.TypeIs (.ref a) "tuple":=⟨o,ho,hc⟩
  refine ag (C8 hT ?_)
  rw [if_pos (by decide)]
  refine ag (qW ho hd (aK ?_))
  exact h
theorem Aj {R:Jb->ao->Prop} {it l d:aa} {items:Array ae} {result:ae} (hA:A.handled=none) (hl:l≠d) (hi:it≠d) (hil:it≠l):∀ (ps:List (K×ae)) (i:Nat) (kvs:List (K×ae)) (s:ao) (t:Tok) (z:Int),
    s.heap.IsListIter it l i->s.heap.IsList l items->s.heap.DictOf knd d kvs->aW (fun p x=>zg knd s.heap p x/\x≠.ref d/\x≠.ref it) ps (items.toList.drop i)->kvs.length + ps.length<=az ->
    (∀ h' tk,h'.DictOf knd d (ps.foldl (fun m p=>sT m p.1 p.2) kvs)->(∀ b o,b≠d->b≠it->s.heap.get? b=some o->h'.get? b=some o)->R (.ok (.ret result)) {s with heap:=h',toks:=tk}) ->
    ki (bb prog w) A (.builtin "dict.update.loop" ⟨[.ref d,.ref it,.int z t,result],[]⟩) R s
  | [],i,kvs,s,t,z,hit,hls,hd,hp,hz,h=>by
    have hnil:items.toList.drop i=[]:=by
      have e:=hp.length
      exact eA.mp e.symm
    have hx:items[i]?=none:=by
      have e:=List.drop_eq_nil_iff.mp hnil
      simp only [gC] at e
      exact Array.getElem?_eq_none e
    refine eZ xI ?_
    unfold gW.«dict.update.loop»
    dsimp only
    refine ag (Ft hA hit hls hx fun h' eb=>?_)
    dsimp only
    refine ag ?_
    unfold Builtin.Dict.addKeywords
    refine aK ?_
    refine aK (h h' _ (hd.extBut eb hi.symm) fun b o _ hb e=>eb b o hb e)
  | p :: ps,i,kvs,s,t,z,hit,hls,hd,hp,hz,h=>by
    cases e0:items.toList.drop i with
    | nil =>
      rw [e0] at hp
      cases hp
    | cons x r =>
      rw [e0] at hp
      cases hp with
      | cons h1 h2 =>
        obtain ⟨⟨a,kv,o,n,rfl,ho,hc,hdt,hk⟩,nd,ni⟩:=h1
        have hx:items[i]?=some (.ref a):=by
          have e:=congrArg (fun l=>l[0]?) e0
          simpa using e
        have hr:items.toList.drop (i + 1)=r:=by
          have e:=congrArg List.tail e0
          simpa using e
        refine eZ xI ?_
        unfold gW.«dict.update.loop»
        dsimp only
        refine ag (Cz hit hls hx fun h1' hit' sb=>?_)
        dsimp only
        refine ag (d7 (ag (mw ?_)))
        have nai:a≠it:=fun q=>ni (by rw [q])
        have nad:a≠d:=fun q=>nd (by rw [q])
        refine Dq (s:={s with heap:=h1'}) ((sb.2 a nai).trans ho) hc hdt ?_
        dsimp only
        refine d7 (wpAny_dictSet_pairs (s:={s with heap:=h1'}) hk (hd.extBut sb.extBut hi.symm) (fun h2' hd2 sb2=>?_) (by simp only [aL] at hz; omega))
        refine aK ⟨Ce _ (by decide +kernel),?_⟩
        have keep:∀ b ob,b≠d->b≠it->s.heap.get? b=some ob->h2'.get? b=some ob:=fun b ob nb1 nb2 e=>sb2.extBut b ob nb1 (sb.extBut b ob nb2 e)
        refine Aj (items:=items) hA hl hi hil ps (i + 1) (sT kvs p.1 p.2) {s with heap:=h2',toks:=s.toks + 1} _ _ ?_ ?_ hd2 ?_ ?_ ?_
        · obtain ⟨oi,ei,ci,di⟩:=hit'
          exact ⟨oi,sb2.extBut it oi hi ei,ci,di⟩
        · obtain ⟨ol,el,cl⟩:=hls
          exact ⟨ol,keep l ol hl hil.symm el,cl⟩
        · rw [hr]
          clear e0 hr h hz hd hit hit' hls
          induction h2 with
          | nil=>exact .nil
          | cons q1 q2 ih =>
            refine .cons ?_ ih
            obtain ⟨⟨a',kv',o',n',rfl,ho',hc',hdt',hk'⟩,nd',ni'⟩:=q1
            exact ⟨⟨a',kv',o',n',rfl,keep a' o' (fun q=>nd' (by rw [q])) (fun q=>ni' (by rw [q])) ho',hc',hdt',hk'⟩,nd',ni'⟩
        · have hs:(sT kvs p.1 p.2).length<=kvs.length + 1:=by
            unfold sT
            split
            · rw [av]
              omega
            · simp
          simp only [aL] at hz
          omega
        · intro h' tk hd' k'
          exact h h' tk hd' fun b ob nb1 nb2 e=>k' b ob nb1 nb2 (keep b ob nb1 nb2 e)
theorem Gi {l:aa} {items:Array ae} {k:Nat} {sl:Array (Option ae)} {ps:List (K×ae)} {Q:ae->ao->Prop} (hA:A.handled=none) (hx:s.heap.get? l=some {cls:=.type "list",dict:=none,data:=.seq items k,slots:=sl})
    (hp:aW (zg knd s.heap) ps items.toList) (hz:ps.length<=az)
    (h:∀ h' tk,h'.DictOf knd s.heap.objs.size (ps.foldl (fun m p=>sT m p.1 p.2) [])->(∀ b o,s.heap.get? b=some o->h'.get? b=some o)->Q (.ref s.heap.objs.size) {s with heap:=h',toks:=tk}) :
    aS (bb prog w) A (vN (.type "dict") [.ref l]) Q E s:=by
  refine callType_codes (Q₁:=fun obj s1=>obj=.ref s.heap.objs.size/\s1={s with heap:=s.heap.push {cls:=.type "dict",data:=.dict #[]}}) F.kt_called_dict (F.kt_typeCall_dict_1 _) F.entry_dict_init (kt_code_dict_new _ ⟨rfl,rfl⟩) ?_
  rintro obj s1 ⟨rfl,rfl⟩
  have hnew:(s.heap.push {cls:=.type "dict",data:=.dict #[]}).DictOf knd s.heap.objs.size []:=yI s.heap
  have up:∀ b o,s.heap.get? b=some o->(s.heap.push {cls:=.type "dict",data:=.dict #[]}).get? b=some o:=fun b o e=>aI _ e
  have hlt:=aQ hx
  refine ⟨hnew.typeIs,F.args_dict_init_2 _ _,?_⟩
  unfold gW.«dict.__init__»
  refine ag ?_
  unfold Builtin.Dict.selfAndRest
  refine ag (Fw hnew.typeIs ?_)
  show aS _ _ (pure (s.heap.objs.size,[Value.ref l])) _ _ _
  refine aK ?_
  show aS _ _ (rM "dict.__init__" s.heap.objs.size (.ref l) [] .none) _ _ _
  unfold rM
  have hT:({s with heap:=s.heap.push {cls:=.type "dict",data:=.dict #[]}}:ao).TypeIs (.ref l) "list":=⟨_,up _ _ hx,rfl⟩
  refine ag (C8 hT ?_)
  rw [if_pos (by decide)]
  refine ag (Gh (s:={s with heap:=s.heap.push {cls:=.type "dict",data:=.dict #[]}}) (up _ _ hx) hA fun h1 tk1 k1=>?_)
  rw [if_pos (by rfl)]
  refine ag (wpAny_rule (ag ?_))
  have hl1:h1.IsList l items:=⟨_,k1 _ _ (up _ _ hx),rfl,k,rfl⟩
  refine t9 (s:={s with heap:=h1,toks:=tk1}) hl1 ?_
  have sz1:s.heap.objs.size < h1.objs.size:=by
    obtain ⟨o,_,_,e,_⟩:=hnew
    exact aQ (k1 _ _ e)
  have up2:∀ b o,s.heap.get? b=some o->(h1.push {cls:=.type "list_iterator",data:=.fields #[.ref l,.int 0 0]}).get? b=some o:=fun b o e=>aI _ (k1 _ _ (up _ _ e))
  refine aK ⟨Ce _ (by decide +kernel),?_⟩
  refine Aj (A:=A.in1) (knd:=knd) (items:=items) hA (l:=l) (aR hlt) (nI sz1) (nI (nX hlt sz1)) ps 0 [] _ _ _ ?_ ?_ ?_ ?_ ?_ ?_
  · exact ⟨_,bX _ rfl,rfl,rfl⟩
  · exact hl1.push _
  · obtain ⟨o,es,ep,e,r⟩:=hnew
    exact ⟨o,es,ep,aI _ (k1 _ _ e),r⟩
  · rw [Ic]
    clear h hz
    generalize items.toList=xs at hp
    induction hp with
    | nil=>exact .nil
    | cons q1 q2 ih =>
      refine .cons ?_ ih
      obtain ⟨a,kv,o,n,rfl,ho,hc,hd,hk⟩:=q1
      have la:=aQ ho
      refine ⟨⟨a,kv,o,n,rfl,up2 _ _ ho,hc,hd,hk⟩,fun q=>?_,fun q=>?_⟩
      · injection q with q
        exact aR la q
      · injection q with q
        exact aR (nX la sz1) q
  · simpa using hz
  · intro h' tk hd k'
    refine ⟨rfl,h h' tk hd fun b o e=>k' b o ?_ ?_ (up2 b o e)⟩
    · exact aR (aQ e)
    · exact aR (nX (aQ e) sz1)
end
end PySem
namespace L2
open PySem PySem.Spec PyProof.Rows
section
variable {X:Cx}
theorem uX {n:Nat} (h:n < 2 ^ 64):n.log2 < 9000:=by
  by_cases z:n=0
  · subst z
    decide
  · exact nX ((Nat.log2_lt z).mpr h) (by decide)
def Ie (_ j:Int):Prop:=0 < j/\j < 2 ^ 64
theorem qh:OpR X (hV .FloorDiv) (rI Ie fun i j=>.int (i / j)):=opI fun i j _ _ _ _ _ hc q=>by
  have h1:(0:Int) < j:=hc.1
  have h2:j < 2 ^ 64:=hc.2
  have h3:j.natAbs < 2 ^ 64:=by omega
  exact CI (by omega) (by rw [vO i (by omega)]; exact q) (.inl (uo (uX h3)))
def CDivM (_ j:Int):Prop:=j≠0/\j.natAbs < 2 ^ 64
theorem Dr:OpR X (hV .FloorDiv) (rI CDivM fun i j=>.int (i.fdiv j)):=opI fun _ _ _ _ _ _ _ hc q=>CI hc.1 q (.inl (uo (uX hc.2)))
theorem Gj:OpR X (hV .Mult) (rI IntMulOk fun i j=>.int (i * j)):=opI fun _ _ _ _ _ _ _ hc q=>mul_int q hc
theorem kO:kG X (.builtin "isinstance") (fun xs H Q=>∃ x n t b,xs=[x,.ty n]/\qL X.K H x t/\fE X.K t (.type n)=some b/\Q (.bl b) H):=by
  intro pins s σ H xs us Q I r h
  obtain ⟨x,n,t,b,rfl,ty,e,q⟩:=h
  obtain ⟨u,w',rfl,rx,rt⟩:=vals2 r
  cases (show w'=Value.type n from rt)
  exact Bj I rx ty e fun tk=>⟨.bl b,H,I.tok _,rfl,q⟩
def rY (H:Hp):List (Key×V)->List V->Prop:=aW fun (p:Key×V) x=>∃ a,x=V.ref a/\H a=some (.tup [kV p.1,p.2])
theorem Dt {P:aO} {w:bj} {H:Hp} {h:cb} (ok:HOk P w H h):∀ {ps:List (Key×V)} {vs:List V} {us:List ae},rY H ps vs->cY vs us->∃ qs:List (Key×ae),KV ps qs/\aW (zg (eU P w) h) qs us:=by
  intro ps vs us r
  unfold rY at r
  induction r generalizing us with
  | nil =>
    intro v
    cases v
    exact ⟨[],.nil,.nil⟩
  | @cons p x ps vs q1 q2 ih =>
    intro v
    cases v with
    | cons r1 r2 =>
      obtain ⟨a,rfl,ha⟩:=q1
      obtain ⟨qs,k1,k2⟩:=ih r2
      cases r1
      obtain ⟨_,its,rv,o,ho,hc,n,hd⟩:=(show dI P w H h a (.tup [kV p.1,p.2]) from ok a _ ha)
      obtain ⟨ku,vu,rfl,rk,rw'⟩:=vals2 rv
      exact ⟨(p.1,vu) :: qs,.cons ⟨rfl,rw'⟩ k1,.cons ⟨a,ku,o,n,rfl,ho,hc,hd,sU rk⟩ k2⟩
theorem Gk {ps:List (Key×V)} {qs:List (Key×ae)} (r:KV ps qs):∀ {m:List (Key×V)} {n:List (Key×ae)},KV m n->KV (ps.foldl (fun m p=>fH m p.1 p.2) m) (qs.foldl (fun m p=>sT m p.1 p.2) n):=by
  unfold KV at r
  induction r with
  | nil =>
    intro m n k
    exact k
  | @cons p q ps qs h t ih =>
    intro m n k
    obtain ⟨h1,h2⟩:=h
    rw [tZ,tZ,<- h1]
    exact ih (k.put p.1 h2)
theorem xJ (ps:List (Key×V)):∀ m:List (Key×V),(ps.foldl (fun m p=>fH m p.1 p.2) m).length<=m.length + ps.length:=by
  induction ps with
  | nil =>
    intro m
    exact aE _
  | cons p ps ih =>
    intro m
    rw [tZ,aL]
    have h1:=ih (fH m p.1 p.2)
    have h2:=kM m p.1 p.2
    omega
theorem zh (hc:X.calm=true):kG X (.type "dict") (fun xs H Q=>∃ p vs ps,xs=[V.ref p]/\H p=some (.lst vs)/\rY H ps vs/\ps.length<=az/\∀ d,H d=none->Q (.ref d) (upd H d (.dK (ps.foldl (fun m p=>fH m p.1 p.2) [])))):=by
  intro pins s σ H xs us Q I r h
  obtain ⟨p,vs,ps,rfl,hp,pi,hz,q⟩:=h
  obtain ⟨u,rfl,ru⟩:=vals1 r
  cases ru
  obtain ⟨_,its,n,rv,ho⟩:=(show dI X.prog X.w H s.heap p (.lst vs) from I.hok p _ hp)
  obtain ⟨qs,k1,k2⟩:=Dt I.hok pi rv
  refine Gi (knd:=eU X.prog X.w) (I.ok.hd hc) ho k2 (by rw [<- k1.length]; exact hz) fun h' tk hd kk=>?_
  have hf:=Gk k1 (m:=[]) (n:=[]) .nil
  have hl:=xJ ps []
  refine ⟨.ref s.heap.objs.size,_,I.laid (a:=s.heap.objs.size) (o:=.dK (ps.foldl (fun m p=>fH m p.1 p.2) [])) (t':=tk) kk (aE _) ?_,rfl,q _ (I.hok.fresh (aE _))⟩
  exact vX (by simp only [cy] at hl; omega) (beq_eq_false_iff_ne.mpr (cj (aR I.big))) hf hd
end
end L2
namespace Att
open PySem PySem.W PySem.Calls PyProof.Rows
theorem weight_mem:∀ (xs:List WData) (x:WData),x∈xs->jZ x<=sY xs
  | [],_,h=>by cases h
  | y :: r,x,h=>by
    unfold sY
    rcases ak.mp h with e | e
    · subst e
      omega
    · have:=weight_mem r x e
      omega
theorem bits_of_lay {ns:List Int} (h:WData.layableAll [WData.list (ns.map WData.int)]=true):∀ n∈ns,eB n<=1048576:=fun n hn=>by
  have h1:(WData.list (ns.map WData.int)).layable=true:=(layW_cons h).1
  unfold WData.layable at h1
  have h2:jZ (WData.list (ns.map WData.int))<=2 ^ 20:=of_decide_eq_true (pA.mp h1).2
  have h3:=weight_mem (ns.map WData.int) (WData.int n) (bH.mpr ⟨n,hn,rfl⟩)
  have h4:jZ (WData.list (ns.map WData.int))=sY (ns.map WData.int):=by
    rw [jZ]
  have h5:jZ (WData.int n)=eB n:=by
    rw [jZ]
    rfl
  have e:(2:Nat) ^ 20=1048576:=by decide
  omega
theorem attach_callB {l:OpenLaw} {n:Nat} {q:aO} {loose:List Str} {XP:(Str->Option ae)->cb->Prop} {YP:bj->cb->Prop} {d:DefRec}
    (hn:l.most=some n) (hdf:d.params.defaults=[])
    (vN:∀ (w:bj) (s₀ s₁:ao) (mg mb:Str->Option ae) (fa:aa) (a:aa) (vs:List ae) (ns:List Int),
      Ground q loose [] XP w s₀ mg mb s₁.heap->YP w s₁.heap->mg d.name=some (.ref fa) ->
      s₁.heap.get? a=some {cls:=.type "list",data:=.seq vs.toArray}->fA vs ns->ns.length<=n->(∀ x∈ns,eB x<=1048576)->s₁.gens=#[] ->
      ki (bb l.prog w) uj (.call (.ref fa) ⟨[.ref a],[]⟩) (fun r s'=>r=.ok (.ret (.bool true))/\OldK s₁.heap s'.heap/\s'.os=s₁.os/\m9 s'.gens) s₁) :
    WalkO q loose XP YP l.row.toRowW d [] (fun f vs=>Bs f vs):=by
  intro w s₀ s₁ mg mb G Y fa o pm cd doc dV kV ho hd hcd hD hmg hg args vals as hpre hlay hrd hwl hlo
  obtain rfl:dV=.none:=Dflts.none hD hdf
  obtain rfl:kV=.none:=Dflts.noKw hD
  obtain ⟨a,vs,ns,rfl,rfl,hobj,hints,hlen⟩:=script_of hn hpre hwl
  refine enter_call (lI (vN w s₀ s₁ mg mb fa a vs ns G Y hmg hobj hints hlen (bits_of_lay hlay) hg) fun r s' hq=>?_)
  obtain ⟨rfl,h2,h3,h4⟩:=hq
  exact ⟨.inl ⟨.bool true,.bool true,[],rfl,fun _=>rfl,.bool true,post_true l _,fun _=>⟨List.Pairwise.nil,fun _ hm=>(nomatch hm)⟩⟩,h2,h3,h4⟩
end Att
namespace L2
open PySem PySem.Spec PyProof.Rows
theorem walk_ofB {l:rN} {n k:Nat} {q:aO} {loose:List Str} {XP:(Str->Option ae)->cb->Prop} {YP:bj->cb->Prop} {d:DefRec} {K:Params->af} {CX:bj->CXT} {sp:bj->Sp} {x:Str}
    (hn:l.most=some n) (hn2:n<=az) (hdf:d.params.defaults=[]) (hr:dN k uj)
    (hY:∀ (w:bj) (h:cb),YP w h->(K w.params).In h)
    (F:∀ (w:bj) (mg:Str->Option ae) (fa:aa) (h:cb),(K w.params).In h->h.Ns bc mg->mg d.name=some (.ref fa) ->
      ∃ fd:bG,(∀ (s:ao) (u:ae),rj s fd ⟨[u],[]⟩ [(x,u)]) /\
        ∀ base:cb,(K w.params).In base->base.Ns bc mg->bg l.prog w (K w.params) mg base (CX w) k fa fd [x] (sp w))
    (hsp:∀ (w:bj) (H:Hp) (a:aa) (ns:List Int),ns.length<=n->(∀ x∈ns,eB x<=1048576)->SqL (K w.params) H a (ns.map V.int)->sp w [.ref a] H (fun v _=>v=.bl true) fun _ _ _=>False)
    (hCX:∀ (w:bj) (H:Hp) (s:ao) (e:ae) (s':ao),CX w [] H s (fun _ _ _=>False) e s'->False) :
    Fx q loose XP YP l.row.toRowW d [] (fun f vs=>Bs f vs):=by
  refine Att.attach_callB hn hdf fun w s₀ s₁ mg mb fa a vs ns G Y hmg hobj hints hlen hbits hg=>?_
  have KX:=hY w _ Y
  obtain ⟨fd,hb,hF⟩:=F w mg fa _ KX G.T.g hmg
  exact Dh KX G.T.g G.T.b G.T.builtins G.T.nolimit hg hobj hints (cv hlen hn2) hr hF hb (fun H hO hS=>hsp w H a ns hlen hbits hS) fun H e s'=>hCX w H s₁ e s'
end L2
namespace PySem
open SeqAt MeetsSeq MeetsSeq2 MeetsSeq3 SeqRoads2
open AutoSeq1 (wpAny_loadPart')
def lB (prog:aO) (w:bj) (A:bN) (s:ao) (y x:ae):Prop:=
  ∀ (E:ae->ao->Prop) (Q:Bool->ao->Prop),Q true s->aS (bb prog w) A (eqBool y x) Q E s
def RcIn (prog:aO) (w:bj) (A:bN) (s:ao) (y x:ae):Prop:=
  ∀ (E:ae->ao->Prop) (Q:ae->ao->Prop),Q (.bool true) s->aS (bb prog w) A (qO .Eq y x) Q E s
section
variable {prog:aO} {w:bj} {A:bN} {s:ao}
theorem lB.of_at {y x:ae} (h:EqAt A s y x true):lB prog w A s y x:=fun E Q q=>h prog w E Q q
theorem lB.self (v:ae):lB prog w A s v v:=lB.of_at (EqAt.same v)
theorem lB.refs {l b:aa} (h:RcIn prog w A s (.ref l) (.ref b)):lB prog w A s (.ref l) (.ref b):=by
  by_cases e:l=b
  · rw [e]
    exact lB.self _
  · intro E Q q
    unfold eqBool
    refine d7 (wpAny_ite_split (fun z=>?_) (fun _=>?_))
    · exact absurd (by have z':=eq_of_beq z; injection z') e
    · exact ag (h E _ (iq q))
theorem Gn (l b:aa) (xs ys:Array ae) (n m:Nat) (dd de:Option aa) (sl sm:Array (Option ae)) (hsz:xs.size=ys.size):∀ k i:Nat,xs.size - i=k ->
    KC prog w (gW.«list.__eq__.loop» ⟨[.ref l,.ref b,pE i,pE 2],[]⟩) (fun A R s =>
      s.heap.get? l=some {cls:=.type "list",dict:=dd,data:=.seq xs n,slots:=sl}/\s.heap.get? b=some {cls:=.type "list",dict:=de,data:=.seq ys m,slots:=sm} /\
      (∀ j (h1:j < xs.size) (h2:j < ys.size),lB prog w A.in1 s xs[j] ys[j])/\R (.ok (.ret (.bool true))) s):=by
  intro k
  induction k with
  | zero =>
    intro i hk A R s q
    obtain ⟨hp,g,d,tk,os⟩:=s
    obtain ⟨q1,q2,q3,q4⟩:=q
    have a1:xs[((i:Nat):Int).toNat]?=none:=by simp; omega
    have a2:ys[((i:Nat):Int).toNat]?=none:=by simp; omega
    wp_walk using cP q1,cP q2
    rw [a1,a2]
    wp_walk using cP q1,cP q2
    show R (.ok (.ret (.bool (xs.size == ys.size)))) _
    rw [hsz,beq_self_eq_true]
    exact q4
  | succ k ih =>
    intro i hk A R s q
    obtain ⟨hp,g,d,tk,os⟩:=s
    obtain ⟨q1,q2,q3,q4⟩:=q
    have l1:i < xs.size:=by omega
    have l2:i < ys.size:=by omega
    have a1:xs[((i:Nat):Int).toNat]?=some xs[i]:=by simp [l1]
    have a2:ys[((i:Nat):Int).toNat]?=some ys[i]:=by simp [l2]
    have e1:((i:Int) + 1)=((i + 1:Nat):Int):=by push_cast; rfl
    wp_walk using cP q1,cP q2
    rw [a1,a2]
    refine ag (q3 i l1 l2 _ _ ?_)
    wp_walk
    rw [e1]
    refine ⟨ig plain_eq_loop _,eZ entry_eq_loop ?_⟩
    rw [d6 plain_eq_loop _]
    exact ih (i + 1) (by omega) A R _ ⟨q1,q2,q3,q4⟩
theorem Gp (l b:aa) (xs ys:Array ae) (n m:Nat) (dd de:Option aa) (sl sm:Array (Option ae)) (hsz:xs.size=ys.size) :
    KC prog w (gW.«list.__eq__» ⟨[.ref l,.ref b],[]⟩) (fun A R s =>
      s.heap.get? l=some {cls:=.type "list",dict:=dd,data:=.seq xs n,slots:=sl}/\s.heap.get? b=some {cls:=.type "list",dict:=de,data:=.seq ys m,slots:=sm} /\
      (∀ j (h1:j < xs.size) (h2:j < ys.size),lB prog w A.in1 s xs[j] ys[j])/\R (.ok (.ret (.bool true))) s):=by
  intro A R s q
  obtain ⟨hp,g,d,tk,os⟩:=s
  obtain ⟨q1,q2,q3,q4⟩:=q
  have f1:=AutoSeq1.sub_list_list
  have f2:¬ (xs.size != ys.size)=true:=by simp [hsz]
  wp_walk using cP q1,cP q2
  refine ⟨ig plain_eq_loop _,eZ entry_eq_loop ?_⟩
  rw [d6 plain_eq_loop _]
  exact Gn l b xs ys n m dd de sl sm hsz _ 0 rfl A R _ ⟨q1,q2,q3,q4⟩
theorem RcIn.lists {l b:aa} {xs ys:Array ae} (hl:s.heap.IsList l xs) (hb:s.heap.IsList b ys) (hsz:xs.size=ys.size) (hu:A.units < dW)
    (he:∀ j (h1:j < xs.size) (h2:j < ys.size),lB prog w A.in1 s xs[j] ys[j]):RcIn prog w A s (.ref l) (.ref b):=fun E Q q=>by
  obtain ⟨⟨c1,dd,t1,sl⟩,o1,rfl,n,rfl⟩:=id hl
  obtain ⟨⟨c2,de,t2,sm⟩,o2,rfl,m,rfl⟩:=id hb
  refine yJ (op:=.Eq) ⟨_,o1,rfl⟩ ⟨_,o2,rfl⟩ F.slot_list_eq (uq F.slot_list_eq ⟨_,o1,rfl⟩ F.entry_list_eq (F.args_list_eq_2 _ _) (Gp l b xs ys n m dd de sl sm hsz) ⟨o1,o2,he,?_⟩) hu
  exact ⟨fun z=>(nomatch z),q⟩
variable {K:Type} [DecidableEq K] {knd:KeyKind prog w K}
theorem pairs_at {es:List lZ} {kvs:List (K×ae)} (h:Pairs knd es kvs):∀ {i:Nat} {e:lZ},es[i]?=some e->∃ kv,kvs[i]?=some kv/\knd.is kv.1 e.key=true/\e.val=kv.2:=by
  induction h with
  | nil =>
    intro i e q
    simp at q
  | cons a b _ ih =>
    intro i e q
    cases i with
    | zero =>
      simp at q
      subst q
      exact ⟨_,rfl,a,b⟩
    | succ i =>
      obtain ⟨kv,z⟩:=ih (i:=i) (by simpa using q)
      exact ⟨kv,by simpa using z.1,z.2⟩
theorem Du {nm:String} {d b:aa} {kvs kws:List (K×ae)} {Q:Bool->ao->Prop} {E:ae->ao->Prop} (hd:(d == cU)=false) (hb:(b == cU)=false) (m1:s.heap.DictOf knd d kvs) (m2:s.heap.DictOf knd b kws)
    (hl:kvs.length=kws.length) (he:∀ kv∈kvs,∃ v',ny kws kv.1=some v'/\lB prog w A s kv.2 v') (q:Q true s):aS (bb prog w) A (rZ nm d b) Q E s:=by
  obtain ⟨o1,es,ep,h1,x1,t1,k1,p1,n1⟩:=id m1
  obtain ⟨o2,fs,fp,h2,x2,t2,k2,p2,n2⟩:=id m2
  have z1:es.size=kvs.length:=by rw [<- p1.length,gC]
  have z2:fs.size=kws.length:=by rw [<- p2.length,gC]
  unfold rZ
  unfold Builtin.Dict.showsAll
  rw [if_neg (by rw [hd]; exact bE),if_neg (by rw [hb]; exact bE)]
  refine ag (aK (ag (aK ?_)))
  refine ag (gE h1 t1 (ag (gE h2 t2 ?_)))
  rw [if_neg (by rw [z1,z2,hl]; simp)]
  refine ag (wpAny_dictEpoch h1 t1 (ag ?_))
  rw [Ig]
  simp only [Ih,Nat.sub_zero,qX,Nat.div_one]
  refine vR _ (fun rest r s'=>s'=s/\r.1=none/\∃ i,rest=List.range' i (es.size - i)/\i<=es.size) _ ?_ ?_ _ _ ⟨rfl,rfl,0,by simp,bA _⟩
  · rintro x rest ⟨r1,r2⟩ s' ⟨rfl,e1,i,hr,hi⟩
    have lt:i < es.size:=by
      rcases nZ i es.size with z | z
      · exact z
      · rw [Nat.sub_eq_zero_of_le z] at hr
        simp at hr
    obtain ⟨rfl,hrest⟩:x=i/\rest=List.range' (i + 1) (es.size - (i + 1)):=by
      rw [show es.size - i=(es.size - (i + 1)) + 1 by omega,List.range'_succ] at hr
      injection hr with a1 a2
      exact ⟨a1,a2⟩
    obtain ⟨kv,y1,y2,y3⟩:=pairs_at p1 (i:=x) (e:=es[x]) (by simp [lt])
    obtain ⟨kk,y4,y5⟩:=k1 es[x] (Array.getElem_mem lt)
    have y6:kk=kv.1:=knd.inj _ _ _ y4 y2
    subst y6
    obtain ⟨v',g1,g2⟩:=he kv (aM y1)
    obtain ⟨o3,fs',fp',a1,_,a2,a3,hf⟩:=m2.mapOf
    rw [h2] at a1
    cases a1
    rw [t2] at a2
    cases a2
    rw [<- hf kv.1,findBy_of_findIdx?] at g1
    refine ag (gE h1 t1 ?_)
    rw [Array.getElem?_eq_getElem lt]
    dsimp only
    refine ag (d7 (ag ?_))
    rw [y5]
    refine wpAny_dictFind_of y2 h2 t2 k2 ?_
    cases hj:fs.findIdx? fun e=>knd.is kv.1 e.key with
    | none =>
      rw [hj] at g1
      cases g1
    | some j =>
      rw [hj] at g1
      dsimp only at g1 |-
      refine ag (gE h2 t2 ?_)
      cases hx:fs[j]? with
      | none =>
        simp [hx] at g1
      | some fe =>
        have g3:fe.val=v':=by simpa [hx] using g1
        dsimp only
        refine d7 ?_
        rw [y3,g3]
        refine g2 _ _ ?_
        rw [if_neg (by decide)]
        refine ag (wpAny_dictEpoch h1 t1 ?_)
        rw [if_neg (by simp)]
        exact aK ⟨rfl,rfl,x + 1,hrest,lt⟩
  · rintro ⟨r1,r2⟩ s' ⟨rfl,e1,_⟩
    have e1:r1=none:=e1
    subst e1
    exact aK q
theorem Bt (d b:aa) (hd:(d == cU)=false) (hb:(b == cU)=false) :
    KC prog w (gW.«dict.__eq__» ⟨[.ref d,.ref b],[]⟩) (fun A R s=>∃ kvs kws,s.heap.DictOf knd d kvs/\s.heap.DictOf knd b kws/\kvs.length=kws.length /\
      (∀ kv∈kvs,∃ v',ny kws kv.1=some v'/\lB prog w A.in1 s kv.2 v')/\R (.ok (.ret (.bool true))) s):=
  .of_wp fun A R s h=>by
    obtain ⟨kvs,kws,m1,m2,hl,he,q⟩:=h
    unfold gW.«dict.__eq__»
    show aS _ _ (qY "__eq__" ⟨[.ref d,.ref b],[]⟩ >>= _) _ _ s
    refine ag ?_
    unfold qY
    unfold Builtin.Dict.notOrdered
    rw [if_neg (by decide)]
    refine ag (aK ?_)
    show aS _ _ (pure (Value.ref d,Value.ref b)) _ _ s
    refine aK ?_
    dsimp only
    refine ag (wpAny_isInstance m2.typeIs isSubtype_dict_dict ?_)
    rw [if_neg (by decide)]
    refine ag (aK (ag (aK (ag (Du hd hb m1 m2 hl he ?_)))))
    exact aK ⟨_,rfl,q⟩
theorem RcIn.dicts {d b:aa} {kvs kws:List (K×ae)} (hd:(d == cU)=false) (hb:(b == cU)=false) (m1:s.heap.DictOf knd d kvs) (m2:s.heap.DictOf knd b kws) (hl:kvs.length=kws.length) (hu:A.units < dW)
    (he:∀ kv∈kvs,∃ v',ny kws kv.1=some v'/\lB prog w A.in1 s kv.2 v'):RcIn prog w A s (.ref d) (.ref b):=fun E Q q =>
  yJ (op:=.Eq) m1.typeIs m2.typeIs F.slot_dict_eq (uq F.slot_dict_eq m1.typeIs F.entry_dict_eq (F.args_dict_eq_2 _ _) (Bt (knd:=knd) d b hd hb) ⟨kvs,kws,m1,m2,hl,he,⟨fun z=>(nomatch z),q⟩⟩) hu
end
end PySem
namespace L2
open PySem PySem.Spec PyProof.Rows PySem.SeqAt
def sc0:V->Prop
  | .int _=>True
  | .str _=>True
  | .bl _=>True
  | .non=>True
  | _=>False
def TEq (H:Hp):Nat->V->V->Prop
  | 0,x,y=>sc0 x/\x=y
  | n + 1,x,y=>(sc0 x/\x=y)\/(∃ p q xs ys,x=.ref p/\y=.ref q/\H p=some (.lst xs)/\H q=some (.lst ys)/\aW (TEq H n) xs ys) \/
      ∃ p q xs ys,x=.ref p/\y=.ref q/\H p=some (.tup xs)/\H q=some (.tup ys)/\aW (TEq H n) xs ys
def DEq (H:Hp):Nat->V->V->Prop
  | 0,x,y=>∃ n,n<=20/\TEq H n x y
  | n + 1,x,y=>(∃ n,n<=20/\TEq H n x y)\/(∃ p q xs ys,x=.ref p/\y=.ref q/\H p=some (.lst xs)/\H q=some (.lst ys)/\aW (DEq H n) xs ys) \/
      ∃ p q kvs kws,x=.ref p/\y=.ref q/\H p=some (.dK kvs)/\H q=some (.dK kws)/\aW (fun (a b:Key×V)=>a.1=b.1/\DEq H n a.2 b.2) kvs kws
section
variable {P:aO} {w:bj} {H:Hp} {s:ao}
theorem lL {R:V->V->Prop}:∀ {xs ys:List V} {us vs:List ae},aW R xs ys->cY xs us->cY ys vs->us.length=vs.length/\∀ j (h1:j < us.length) (h2:j < vs.length),∃ x y,R x y/\RelV x us[j]/\RelV y vs[j]:=by
  intro xs ys us vs p
  induction p generalizing us vs with
  | nil =>
    intro a b
    cases a
    cases b
    exact ⟨rfl,fun j h1=>absurd h1 (iJ _)⟩
  | cons r rs ih =>
    intro a b
    cases a with
    | cons a as =>
    cases b with
    | cons b bs =>
    obtain ⟨e,z⟩:=ih as bs
    refine ⟨by rw [aL,aL,e],fun j h1 h2=>?_⟩
    cases j with
    | zero=>exact ⟨_,_,r,a,b⟩
    | succ j=>exact z j (zi h1) (zi h2)
theorem Ak {A:bN} {x:V} {u v:ae} (h:sc0 x) (ru:RelV x u) (rv:RelV x v):EqAt A s u v true:=by
  cases x with
  | non=>cases ru; cases rv; exact EqAt.same _
  | bl b=>cases ru; cases rv; exact EqAt.same _
  | int i =>
    obtain ⟨t,rfl⟩:=ru
    obtain ⟨t',rfl⟩:=rv
    have z:=EqAt.int_int (A:=A) (s:=s) i t i t'
    rw [beq_self_eq_true] at z
    exact z
  | str i =>
    obtain ⟨t,rfl⟩:=ru
    obtain ⟨t',rfl⟩:=rv
    have z:=EqAt.str_str (A:=A) (s:=s) i t i t'
    rw [beq_self_eq_true] at z
    exact z
  | byt b=>exact h.elim
  | flt b=>exact h.elim
  | ref a=>exact h.elim
  | ty a=>exact h.elim
theorem gO (ok:HOk P w H s.heap) {p:aa} {xs:List V} (h:H p=some (.lst xs)):∃ us:List ae,cY xs us/\s.heap.IsList p us.toArray:=by
  obtain ⟨_,us,n,r,e⟩:=(show dI P w H s.heap p (.lst xs) from ok p _ h)
  exact ⟨us,r,_,e,rfl,n,rfl⟩
theorem jn (ok:HOk P w H s.heap) {p:aa} {xs:List V} (h:H p=some (.tup xs)):∃ us:List ae,cY xs us/\s.heap.IsTuple p us.toArray:=by
  obtain ⟨_,us,r,o,e,c,n,d⟩:=(show dI P w H s.heap p (.tup xs) from ok p _ h)
  exact ⟨us,r,o,e,c,n,d⟩
theorem qi (n:Nat):((kF n).all fun _=>true)=true:=by simp
theorem xK (ok:HOk P w H s.heap) {R:V->V->Prop} {A:bN} {p q:aa} {xs ys:List V} (hu:A.units < dW) (h1:H p=some (.lst xs)) (h2:H q=some (.lst ys)) (r:aW R xs ys)
    (he:∀ x y u v,R x y->RelV x u->RelV y v->EqAt A.in1 s u v true):RcAt A s (.ref p) (.ref q) true:=by
  obtain ⟨us,r1,i1⟩:=gO ok h1
  obtain ⟨vs,r2,i2⟩:=gO ok h2
  obtain ⟨e,z⟩:=lL r r1 r2
  have k:=RcAt.lists (e:=fun _=>true) i1 i2 (by simpa using e) hu (fun j a b=>by
    obtain ⟨x,y,rr,rx,ry⟩:=z j (by simpa using a) (by simpa using b)
    simpa using he _ _ _ _ rr rx ry)
  rw [qi] at k
  exact k
theorem Al (ok:HOk P w H s.heap) {R:V->V->Prop} {A:bN} {p q:aa} {xs ys:List V} (hu:A.units < dW) (h1:H p=some (.tup xs)) (h2:H q=some (.tup ys)) (r:aW R xs ys)
    (he:∀ x y u v,R x y->RelV x u->RelV y v->EqAt A.in1 s u v true):RcAt A s (.ref p) (.ref q) true:=by
  obtain ⟨us,r1,i1⟩:=jn ok h1
  obtain ⟨vs,r2,i2⟩:=jn ok h2
  obtain ⟨e,z⟩:=lL r r1 r2
  have k:=RcAt.tuples (e:=fun _=>true) i1 i2 hu (fun j a b=>by
    obtain ⟨x,y,rr,rx,ry⟩:=z j (by simpa using a) (by simpa using b)
    simpa using he _ _ _ _ rr rx ry)
  rw [qi,Jo,aA,aA,e,beq_self_eq_true] at k
  exact k
theorem EqAt.of_rc {A:bN} {l b:aa} (h:RcAt A s (.ref l) (.ref b) true):EqAt A s (.ref l) (.ref b) true:=by
  by_cases e:l=b
  · rw [e]
    exact EqAt.same _
  · exact EqAt.of_refs e h
theorem n6 (ok:HOk P w H s.heap):∀ {n:Nat} {A:bN} {x y:V} {u v:ae},A.units + n < dW->TEq H n x y->RelV x u->RelV y v->EqAt A s u v true
  | 0,A,x,y,u,v,hu,h,ru,rv=>by
    obtain ⟨h1,rfl⟩:=h
    exact Ak h1 ru rv
  | n + 1,A,x,y,u,v,hu,h,ru,rv=>by
    have hin:A.in1.units + n < dW:=by
      show A.units + 1 + n < dW
      omega
    rcases h with ⟨h1,rfl⟩ | ⟨p,q,xs,ys,rfl,rfl,h1,h2,r⟩ | ⟨p,q,xs,ys,rfl,rfl,h1,h2,r⟩
    · exact Ak h1 ru rv
    · cases ru
      cases rv
      exact EqAt.of_rc (xK ok (by omega) h1 h2 r fun _ _ _ _ z a b=>n6 ok hin z a b)
    · cases ru
      cases rv
      exact EqAt.of_rc (Al ok (by omega) h1 h2 r fun _ _ _ _ z a b=>n6 ok hin z a b)
theorem sZ (ok:HOk P w H s.heap) {R:V->V->Prop} {A:bN} {p q:aa} {xs ys:List V} (hu:A.units < dW) (h1:H p=some (.lst xs)) (h2:H q=some (.lst ys)) (r:aW R xs ys)
    (he:∀ x y u v,R x y->RelV x u->RelV y v->lB P w A.in1 s u v):RcIn P w A s (.ref p) (.ref q):=by
  obtain ⟨us,r1,i1⟩:=gO ok h1
  obtain ⟨vs,r2,i2⟩:=gO ok h2
  obtain ⟨e,z⟩:=lL r r1 r2
  exact RcIn.lists i1 i2 (by simpa using e) hu (fun j a b=>by
    obtain ⟨x,y,rr,rx,ry⟩:=z j (by simpa using a) (by simpa using b)
    simpa using he _ _ _ _ rr rx ry)
theorem Gq {κ:Type} {R:κ×V->κ×V->Prop}:∀ {kvs kws:List (κ×V)} {us vs:List (κ×ae)},aW R kvs kws->KV kvs us->KV kws vs->us.length=vs.length/\∀ (i:Nat) (q:κ×ae),us[i]?=some q->∃ q' a b,vs[i]?=some q'/\R a b/\a.1=q.1/\b.1=q'.1/\RelV a.2 q.2/\RelV b.2 q'.2:=by
  intro kvs kws us vs p
  induction p generalizing us vs with
  | nil =>
    intro a b
    cases a
    cases b
    exact ⟨rfl,fun i q h=>by simp at h⟩
  | cons r rs ih =>
    intro a b
    cases a with
    | cons a as =>
    cases b with
    | cons b bs =>
    obtain ⟨e,z⟩:=ih as bs
    refine ⟨by rw [aL,aL,e],fun i q h=>?_⟩
    cases i with
    | zero =>
      simp at h
      subst h
      exact ⟨_,_,_,rfl,r,a.1,b.1,a.2,b.2⟩
    | succ i =>
      obtain ⟨q',x,y,h1,h2⟩:=z i q (by simpa using h)
      exact ⟨q',x,y,by simpa using h1,h2⟩
theorem tf (ok:HOk P w H s.heap) {R:V->V->Prop} {A:bN} {p q:aa} {kvs kws:List (Key×V)} (hu:A.units < dW) (h1:H p=some (.dK kvs)) (h2:H q=some (.dK kws)) (r:aW (fun (a b:Key×V)=>a.1=b.1/\R a.2 b.2) kvs kws)
    (he:∀ x y u v,R x y->RelV x u->RelV y v->lB P w A.in1 s u v):RcIn P w A s (.ref p) (.ref q):=by
  obtain ⟨_,n1,us,k1,m1⟩:=(show dI P w H s.heap p (.dK kvs) from ok p _ h1)
  obtain ⟨_,n2,vs,k2,m2⟩:=(show dI P w H s.heap q (.dK kws) from ok q _ h2)
  obtain ⟨e,z⟩:=Gq r k1 k2
  refine RcIn.dicts n1 n2 m1 m2 e hu fun kv hkv=>?_
  obtain ⟨i,hi⟩:=bY hkv
  obtain ⟨q',a,b,g1,⟨g2,g3⟩,g4,g5,g6,g7⟩:=z i kv hi
  obtain ⟨_,_,_,_,_,_,_,_,nd⟩:=id m2
  have g8:vs[i]?=some (kv.1,q'.2):=by
    rw [g1,<- g4,g2,g5]
  exact ⟨q'.2,valueAt_of_get nd g8,he _ _ _ _ g3 g6 g7⟩
theorem wj (ok:HOk P w H s.heap):∀ {n:Nat} {A:bN} {x y:V} {u v:ae},A.units + n + 20 < dW->DEq H n x y->RelV x u->RelV y v->lB P w A s u v
  | 0,A,x,y,u,v,hu,h,ru,rv=>by
    obtain ⟨m,h0,h1⟩:=h
    exact lB.of_at (n6 ok (by omega) h1 ru rv)
  | n + 1,A,x,y,u,v,hu,h,ru,rv=>by
    have hin:A.in1.units + n + 20 < dW:=by
      show A.units + 1 + n + 20 < dW
      omega
    rcases h with ⟨m,h0,h1⟩ | ⟨p,q,xs,ys,rfl,rfl,h1,h2,r⟩ | ⟨p,q,kvs,kws,rfl,rfl,h1,h2,r⟩
    · exact lB.of_at (n6 ok (by omega) h1 ru rv)
    · cases ru
      cases rv
      exact lB.refs (sZ ok (by omega) h1 h2 r fun _ _ _ _ z a b=>wj ok hin z a b)
    · cases ru
      cases rv
      exact lB.refs (tf ok (by omega) h1 h2 r fun _ _ _ _ z a b=>wj ok hin z a b)
end
section
variable {X:Cx}
theorem op_eqD (hu:X.A.units + 50 < dW):OpR X (fh .Eq) (fun x y H Q=>∃ n p q,n<=20/\x=.ref p/\y=.ref q/\DEq H n x y/\Q (.bl true) H):=by
  intro pins s σ H x y v u Q I rx ry h
  obtain ⟨n,p,q,hn,rfl,rfl,d,k⟩:=h
  cases rx
  cases ry
  have fin:EP X pins σ Q (.bool true) s:=⟨.bl true,H,I,rfl,k⟩
  have hu1:X.A.units < dW:=by omega
  have main:RcIn X.prog X.w X.A s (.ref p) (.ref q):=by
    have hin:∀ m,m<=20->X.A.in1.units + m < dW:=fun m hm=>by
      show X.A.units + 1 + m < dW
      omega
    have tq:∀ m,m<=20->TEq H m (.ref p) (.ref q)->RcIn X.prog X.w X.A s (.ref p) (.ref q):=fun m hm t=>by
      cases m with
      | zero=>exact t.1.elim
      | succ m =>
        rcases t with ⟨h1,_⟩ | ⟨p',q',xs,ys,e1,e2,h1,h2,r⟩ | ⟨p',q',xs,ys,e1,e2,h1,h2,r⟩
        · exact h1.elim
        · cases e1
          cases e2
          intro E Q' k'
          exact xK I.hok hu1 h1 h2 r (fun _ _ _ _ z a b=>n6 I.hok (hin m (by omega)) z a b) X.prog X.w E Q' k'
        · cases e1
          cases e2
          intro E Q' k'
          exact Al I.hok hu1 h1 h2 r (fun _ _ _ _ z a b=>n6 I.hok (hin m (by omega)) z a b) X.prog X.w E Q' k'
    cases n with
    | zero =>
      obtain ⟨m,hm,t⟩:=d
      exact tq m hm t
    | succ n =>
      have hin2:X.A.in1.units + n + 20 < dW:=by
        show X.A.units + 1 + n + 20 < dW
        omega
      rcases d with ⟨m,hm,t⟩ | ⟨p',q',xs,ys,e1,e2,h1,h2,r⟩ | ⟨p',q',kvs,kws,e1,e2,h1,h2,r⟩
      · exact tq m hm t
      · cases e1
        cases e2
        exact sZ I.hok hu1 h1 h2 r fun _ _ _ _ z a b=>wj I.hok hin2 z a b
      · cases e1
        cases e2
        exact tf I.hok hu1 h1 h2 r fun _ _ _ _ z a b=>wj I.hok hin2 z a b
  exact main _ _ fin
theorem Dv (hu:X.A.units + 50 < dW):OpR X (fh .NotEq) (fun x y H Q=>∃ n p q,n<=20/\x=.ref p/\y=.ref q/\TEq H n x y/\Q (.bl false) H):=by
  intro pins s σ H x y v u Q I rx ry h
  obtain ⟨n,p,q,hn,rfl,rfl,d,k⟩:=h
  cases rx
  cases ry
  have fin:EP X pins σ Q (.bool false) s:=⟨.bl false,H,I,rfl,k⟩
  have hu1:X.A.units < dW:=by omega
  cases n with
  | zero=>exact d.1.elim
  | succ m =>
    have hin:X.A.in1.units + m < dW:=by
      show X.A.units + 1 + m < dW
      omega
    rcases d with ⟨h1,_⟩ | ⟨p',q',xs,ys,e1,e2,h1,h2,r⟩ | ⟨p',q',xs,ys,e1,e2,h1,h2,r⟩
    · exact h1.elim
    · cases e1
      cases e2
      obtain ⟨us,r1,i1⟩:=gO I.hok h1
      obtain ⟨vs,r2,i2⟩:=gO I.hok h2
      obtain ⟨e,z⟩:=lL r r1 r2
      have k:=RcNeAt.lists (A:=X.A) (e:=fun _=>true) i1 i2 (by simpa using e) hu1 (fun j a b=>by
        obtain ⟨x,y,rr,rx,ry⟩:=z j (by simpa using a) (by simpa using b)
        simpa using n6 I.hok hin rr rx ry)
      rw [qi] at k
      exact k X.prog X.w _ _ fin
    · cases e1
      cases e2
      obtain ⟨us,r1,i1⟩:=jn I.hok h1
      obtain ⟨vs,r2,i2⟩:=jn I.hok h2
      obtain ⟨e,z⟩:=lL r r1 r2
      have k:=RcNeAt.tuples (A:=X.A) (e:=fun _=>true) i1 i2 hu1 (fun j a b=>by
        obtain ⟨x,y,rr,rx,ry⟩:=z j (by simpa using a) (by simpa using b)
        simpa using n6 I.hok hin rr rx ry)
      rw [qi,Jo,aA,aA,e,beq_self_eq_true] at k
      exact k X.prog X.w _ _ fin
theorem Jp {A:bN} {k:Nat} (hr:dN k A):A.units + 50 < dW:=by
  have:=hr.un
  omega
end
end L2
namespace L2
open PySem PySem.Spec PyProof.Rows
section
variable {prog:aO} {w:bj} {A:bN} {E:ae->ao->Prop} {s:ao}
end
section
variable {X:Cx}
end
end L2
namespace L2
open PySem PySem.Spec PyProof.Rows
structure ur (K:af) (C:aa):Prop where
  ga:aT K (.ref C) "__getattribute__"=some (some (.builtin "BaseException.__getattribute__"))
  gh:aT K (.ref C) "__getattr__"=some none
  cl:aT K (.ref C) "__class__"=some (some (.builtin "object.__class__"))
  cn:kJ K (.builtin "object.__class__") "__get__"=some (some (.builtin "getset_descriptor.__get__"))
  ck:B3 K (.builtin "object.__class__")=some true
  ob:uc K C (.type "object")=some true
  be:uc K C (.type "BaseException")=some true
theorem zj:Manifest.canonical "BaseException.__getattribute__"="object.__getattribute__":=by decide +kernel
section
variable {prog:aO} {w:bj} {A:bN} {E:ae->ao->Prop} {s:ao} {K:af} {x C:aa} {ox:Obj}
theorem Dw {f:aa} {name:Str} {pl:Sem Bool} {Q:ae×List ae->ao->Prop} (X:K.In s.heap) (I:sM s.heap x ox C none) (c:ur K C) (hf:aT K (.ref C) name=some (some (.ref f))) (ht:CV K (.ref f)=some (.type "function"))
    (h:Q (.ref f,[.ref x]) s):aS (bb prog w) A (jV (.ref x) name pl) Q E s:=by
  unfold jV specialOf
  refine ag (ag (I.type.here ((jf X c.ga).here ?_)))
  dsimp only
  rw [zj,if_neg (by decide)]
  refine ag (ag (I.type.here ((jf X c.gh).here ?_)))
  refine ag (ag (I.type.here ((jf X hf).here (ag ((PySem.W.looks_typeIn X ht).here ?_)))))
  rw [if_neg (by decide +kernel)]
  refine ag (wpAny_loadPart I.at_ ?_)
  have hd:=I.dict
  cases e:ox.dict with
  | none=>exact ag (wpAny_rule (aK h))
  | some dx=>rw [e] at hd; exact hd.elim
end
def XOk (a C:aa) (h:cb):Prop:=∃ ob,h.get? a=some ob/\ob.cls=.ref C/\ob.dict=none/\Dx ob=true
def XO (a C:aa):HO:=.ext (XOk a C)
theorem XOk.obj {P:aO} {w:bj} {H:Hp} {h:cb} {a C:aa} (x:XOk a C h):dI P w H h a (XO a C):=by
  obtain ⟨ob,e,r⟩:=x
  refine ⟨⟨ob,e,r⟩,⟨ob,e⟩,fun h1 h2 y k=>?_⟩
  obtain ⟨o,e1,r1⟩:=y
  exact ⟨o,k o e1,r1⟩
theorem XOk.inst {h:cb} {a C:aa} (x:XOk a C h):∃ ox,sM h a ox C none:=by
  obtain ⟨ob,e,c,d,n⟩:=x
  exact ⟨ob,e,c,n,by rw [d]; trivial⟩
theorem Jq {P:aO} {w:bj} {H:Hp} {h:cb} {a C:aa} (ok:HOk P w H h) (e:H a=some (XO a C)):XOk a C h:=(ok a _ e).1
section
variable {X:Cx} {pins:List (aa×Obj)} {σ:St} {H:Hp} {s:ao}
end
section
variable {P:aO} {w:bj} {H:Hp} {h h':cb} {a:aa} {o:HO} {fs ex:List aa}
end
section
variable {X:Cx} {pins:List (aa×Obj)} {σ:St} {H:Hp} {s:ao} {C:aa} {x:Str} {p pos:Pos} {e:cA} {es:List cA} {t:TA}
end
section
variable {X:Cx} {CX:CXT} {k:Nat} {f C:aa} {fd:bG} {ps:List Str} {sp:Sp} {E:XK} {m:Str} {pos apos:Pos} {o:cA} {ta:TE}
end
section
variable {X:Cx} {pins:List (aa×Obj)} {σ:St} {H:Hp} {s:ao}
theorem Inv.adopt {B:cb} {ea C:aa} {fl:ae} (I:Inv X pins σ H s) (f:FlD B X.stack ea (.ref C) fl s.heap) (cov:v5 X pins H B s.heap):H ea=none/\Inv X pins σ (upd H ea (XO ea C)) s:=by
  obtain ⟨hB,hn,hl,oe,vs,T,oT,ts,he,hc,hdc,hd,_⟩:=f
  have nf:ea∉frs X.stack:=fun z=>by
    obtain ⟨_,o,ho,q⟩:=hl.mem z
    rw [he] at ho
    cases ho
    exact q vs hd
  have nb:∀ o,B.get? ea≠some o:=fun o z=>by rw [hn] at z; cases z
  have hz:H ea=none:=by
    cases z:H ea with
    | none=>rfl
    | some u=>exact absurd (cov ea oe (.inl (by rw [z]; simp)) nf he) (nb oe)
  have ne:∀ {b:aa} {o:HO},H b=some o->b≠ea:=fun {b o} z=>aN z hz
  refine ⟨hz,I.ok,I.os,I.bare,⟨I.base.keep,I.base.slot,fun b o e n hx=>?_,I.base.there,fun b xs e=>?_,fun b o u e=>?_,fun b ps e=>?_⟩,I.loc,I.cell,?_,fun x c e=>?_,fun p hp=>?_,fun b u e=>?_,I.len⟩
  · rw [aG]
    · exact I.base.free b o e n hx
    · rintro rfl
      exact nb oe (cov _ oe (.inr (.inl ⟨hx,o,e⟩)) nf he)
  · have z:=I.base.tups b xs e
    rw [aG (ne z)]
    exact z
  · have z:=I.base.frzs b o u e
    rw [aG (ne z)]
    exact z
  · obtain ⟨more,z⟩:=I.base.tbls b ps e
    exact ⟨more,by rw [aG (ne z)]; exact z⟩
  · rw [aG]
    · exact I.free
    · intro z
      obtain ⟨m,⟨o,es,ep,ho,hdd,_⟩,_⟩:=I.loc
      rw [z,he] at ho
      cases ho
      rw [hd] at hdd
      cases hdd
  · rw [aG]
    · exact I.freeC x c e
    · intro z
      obtain ⟨v,o,ho,hdd⟩:=I.cell x c e
      rw [z,he] at ho
      cases ho
      rw [hd] at hdd
      cases hdd
  · obtain ⟨e1,e2,e3,e4,e5⟩:=I.pin p hp
    refine ⟨e1,?_,e3,e4,e5⟩
    rw [aG]
    · exact e2
    · intro z
      have e6:s.heap.get? ea=some p.2:=by rw [<- z]; exact e1
      rw [he] at e6
      cases e6
      exact nb _ (cov ea _ (.inr (.inr ⟨p,hp,z⟩)) nf he)
  · by_cases hb:b=ea
    · subst hb
      rw [ah] at e
      cases e
      refine XOk.obj ⟨oe,he,hc,hdc,?_⟩
      unfold Dx
      rw [hd]
    · rw [aG hb] at e
      exact (I.hok b u e).stay (fun _ _ _ q=>q) (fun c q=>by rw [aG (ne q)]; exact q) fun c xs q=>by rw [aG (ne q)]; exact q
theorem Bu {M:FE} {A:bN} {E:ae->ao->Prop} {i:Nat} {x:Str} {v:V} {Q:Unit->ao->Prop} (I:Inv X pins σ H s) (hN:X.N.Nodup) (hi:X.N[i]?=some x) (hk:X.env.scope.names.lookup x=some .local) (hv:σ[i]?=some (some v))
    (h:∀ s',Inv X pins (σ.set i none) H s'->Q () s'):aS M A (unbindName X.env x) Q E s:=by
  obtain ⟨m,hn,hl⟩:=id I.loc
  have hcls:(X.env.scope.kind == .class || (X.env.scope.kind == .module && X.env.locals != X.env.globals))=false:=by rw [I.ok.kind]; rfl
  have hkd:X.env.kindOf x=some .local:=hk
  have hmx:(m x).isSome=true:=by
    obtain ⟨u,_,q⟩:=hl i x v hi hv (.inl hk)
    rcases q with ⟨_,e⟩ | ⟨k,_⟩
    · rw [e]; rfl
    · rw [hkd] at k
      rcases k with k | k <;> cases k
  unfold unbindName
  refine ag (wpAny_point (ag ?_))
  unfold deleteName
  simp only [hkd,hcls]
  rw [if_neg (by decide)]
  refine ag (wpAny_nsDel_keeps hn fun h' v' hn' hs=>?_)
  rw [hmx]
  simp only [Jr,kP,if_false]
  refine aK (wpAny_point (h _ ?_))
  obtain ⟨oL,_,_,hoL,_⟩:=id hn
  have cne:=I.cne
  have below:∀ b o,X.s₀.heap.get? b=some o->b≠X.env.locals:=fun b o e=>aR (aY (aQ e) I.ok.above)
  refine ⟨I.ok,I.os,I.bare,⟨fun b o e n hb hx=>(hs.2 b (below b o e)).trans (I.base.keep b o e n hb hx),fun b o e n hb hx=>?_,I.base.free,fun b o e hx=>?_,I.base.tups,I.base.frzs,I.base.tbls⟩,⟨_,hn',fun j y v2 e1 e2 e3=>?_⟩,fun y c e=>?_,I.free,I.freeC,fun p hp=>?_,fun b ob e=>?_,by simpa using I.len⟩
  · obtain ⟨sl,e1⟩:=I.base.slot b o e n hb hx
    exact ⟨sl,(hs.2 b (below b o e)).trans e1⟩
  · obtain ⟨o',e1⟩:=I.base.there b o e hx
    exact ⟨o',(hs.2 b (below b o e)).trans e1⟩
  · by_cases hj:j=i
    · subst hj
      have hlt:j < σ.length:=(aw.mp hv).1
      rw [eQ hlt] at e2
      cases e2
    · rw [ie (cj hj)] at e2
      obtain ⟨u',r',q⟩:=hl j y v2 e1 e2 e3
      refine ⟨u',r',?_⟩
      rcases q with ⟨k,e⟩ | ⟨k,c,e,z⟩
      · refine .inl ⟨k,?_⟩
        have hne:y≠x:=fun e=>hj (sj hN e1 (e ▸ hi))
        simp [hne,e]
      · exact .inr ⟨k,c,e,z.sameBut hs (cne y c e)⟩
  · obtain ⟨w',z⟩:=I.cell y c e
    exact ⟨w',z.sameBut hs (cne y c e)⟩
  · obtain ⟨e,n,ne,nf,d⟩:=I.pin p hp
    exact ⟨(hs.2 p.1 ne).trans e,n,ne,nf,d⟩
  · refine (I.hok b ob e).stay (fun c w' hc q=>(hs.2 c ?_).trans q) (fun _ q=>q) fun _ _ q=>q
    rintro rfl
    rcases hc with rfl | hc
    · rw [I.free] at e; cases e
    · rw [I.free] at hc; cases hc
def Ii (i:Nat) (D:jS):jS:={nx:=fun σ H=>D.nx (σ.set i none) H,rt:=D.rt,bk:=fun σ H=>D.bk (σ.set i none) H,ct:=fun σ H=>D.ct (σ.set i none) H}
def thAs (K:af) (Ci:aa) (i:Nat) (t:TS) (th:TH):TH:=fun C D σ H =>
  (cQ K (.ref C) (.ref Ci)=some true/\∀ ea,H ea=none->t (Ii i D) (σ.set i (some (.ref ea))) (upd H ea (XO ea C)))\/(cQ K (.ref C) (.ref Ci)=some false/\th C D σ H)
theorem r6 {M:FE} {A:bN} {E:ae->ao->Prop} {i:Nat} {x:Str} {pos:Pos} {Q:Unit->ao->Prop} (I:Inv X pins σ H s) (hN:X.N.Nodup) (hi:X.N[i]?=some x) (hk:X.env.scope.names.lookup x=some .local)
    (h:∀ s',Inv X pins (σ.set i none) H s'->Q () s'):aS M A (do bindName X.env x .none; qZ X.env x pos) Q E s:=by
  have hlt:i < σ.length:=by
    rw [I.len]
    exact (aw.mp hi).1
  refine ag (wpAny_bindName (pV (v:=.non) I hN hi (.inl hk) rfl (fun s1 I1=>?_) (.inr hk)))
  unfold qZ
  refine wpAny_onRaise (Bu (v:=.non) I1 hN hi hk (eQ hlt) fun s2 I2=>h s2 ?_)
  rw [List.set_set] at I2
  exact I2
theorem Js {x n:Str} {Ci:aa} {np pos:Pos} {b₀:cR} {suite:List cR} {rest:List rW} {t:TS} {th:TH} (i:Nat) (hg:Gl X x) (hm:X.mg x=some (.ref Ci)) (hN:X.N.Nodup) (hi:X.N[i]?=some n) (hk:X.env.scope.names.lookup n=some .local)
    (hsu:∀ ea,PSs (X.hdl ea) (b₀ :: suite) t) (hr:PHs X rest th) (hd:(x == ("__debug__":Str))=false:=by decide):PHs X (.ExceptHandler (some (.Name x np)) (some n) (b₀ :: suite) pos :: rest) (thAs X.K Ci i t th):=by
  intro pins s σ H D ea C B I fl cov h
  refine wpAny_handleBy_cons (codeAny_handlers_test ?_) (by intro q; cases q)
  refine md (X:=X.hdl ea) (I.hdl ea) hg hm ?_ hd
  obtain ⟨ob,hob,hc⟩:=fl.there
  have LT:PySem.W.Looks (bb X.prog X.w) s.heap (typeOf (.ref ea)) (.ref C):=by
    rw [<- hc]
    exact (PySem.W.Looks.ld hob).andThen .now
  rcases h with ⟨hx,q⟩ | ⟨hx,q⟩
  · refine (Cf I.kIn LT hx).here ?_
    refine codeAny_handlers_suite_as (qf fl fun h6 fl6 sm6=>?_)
    have I6:=I.landed fl6.1 cov sm6
    obtain ⟨hz,J⟩:=I6.adopt fl6 (v5.land I fl6.1 cov)
    refine pV (X:=X.hdl ea) (v:=.ref ea) (J.hdl ea) hN hi (.inl hk) rfl (fun s2 I2=>?_) (.inr hk)
    refine dv (hsu ea pins _ _ _ (Ii i D) I2 (q ea hz)) (fun f s3 z=>?_) (fun _ _ z=>cV z)
    show aS _ X.A (do bindName X.env n .none; qZ X.env n pos) (fun _ s₃=>SP X pins D f s₃) X.xe s3
    cases f with
    | next=>obtain ⟨σ',H',I3,q3⟩:=z; exact r6 (I3.unhdl I.ok) hN hi hk fun s4 I4=>⟨_,_,I4,q3⟩
    | brk=>obtain ⟨σ',H',I3,q3⟩:=z; exact r6 (I3.unhdl I.ok) hN hi hk fun s4 I4=>⟨_,_,I4,q3⟩
    | cont=>obtain ⟨σ',H',I3,q3⟩:=z; exact r6 (I3.unhdl I.ok) hN hi hk fun s4 I4=>⟨_,_,I4,q3⟩
    | ret u=>obtain ⟨v,σ',H',I3,r3,q3⟩:=z; exact r6 (I3.unhdl I.ok) hN hi hk fun s4 I4=>⟨v,_,_,I4,r3,q3⟩
  · refine (Cf I.kIn LT hx).here ?_
    exact hr pins s σ H D ea C B I fl cov q
end
end L2
namespace PySem
open Sem (wp)
def xM (h:cb) (d:aa) (es:Array lZ) (ep:Nat):Prop:=∃ o,h.get? d=some o/\o.ExactDict/\o.data=.dict es ep
section
variable {prog:aO} {w:bj} {A:bN} {E:ae->ao->Prop} {s:ao}
end
def Dy (prog:aO) (w:bj) (A:bN) (op:Kw) (P:Nat->ae->Prop) (G:cb->Prop) (bt:Nat->Nat->Bool):Prop:=
  ∀ i j vi vj (s:ao) (Q:ae->ao->Prop) (E:ae->ao->Prop),P i vi->P j vj->G s.heap->Q (.bool (bt i j)) s->aS (bb prog w) A (qO op vi vj) Q E s
section
variable {prog:aO} {w:bj} {A:bN} {R:Jb->ao->Prop} {I:aa} {fp wr:List aa} {n:Nat} {P:Nat->ae->Prop} {St:Nat->cb->Prop} {G:cb->Prop}
theorem zk (W:Walks prog w A.in1 I fp wr n P St) (bt:Nat->Nat->Bool) (hcmp:Dy prog w A.in1 .Lt P G bt) (S:aa) (hSf:S∉fp)
    (hG:∀ h h':cb,G h->(∀ b o,b∉wr->b≠S->h.get? b=some o->h'.get? b=some o)->G h') :
    ∀ (k j:Nat) (s:ao) (vb:ae) (c:Nat),n - (j + 1)=k->j + 1<=n->St (j + 1) s.heap->G s.heap->P (rA bt j) vb ->
    s.heap.get? S=some {cls:=.type "list",dict:=none,data:=.seq #[vb,vb] c,slots:=#[]} ->
    (∀ v h' tk,P (rA bt (n - 1)) v->(∀ b o,b∉wr->b≠S->s.heap.get? b=some o->h'.get? b=some o)->R (.ok (.ret v)) {s with heap:=h',toks:=tk}) ->
    ki (bb prog w) A (.builtin "min.loop" ⟨[.ref I,.none,.ref S],[]⟩) R s:=by
  have hSw:S∉wr:=fun h=>hSf (W.sub _ h)
  have nm:(toString "min"++toString ".loop":String)="min.loop":=by decide
  intro k
  induction k with
  | zero =>
    intro j s vb c hk hj hst hg hPb hS hR
    have hin:j + 1=n:=by omega
    refine eZ F.entry_min_loop ?_
    rw [d6 F.plain_min_loop _]
    show aS _ A.in1 (seqItems? (.ref S) >>= _) _ _ s
    refine ag (qW hS rfl ?_)
    show aS _ A.in1 (tryCatch (Cw (.ref I)) _ >>= _) _ _ s
    refine ag (mw (W.done s _ _ (hin ▸ hst) fun h' tk kp=>?_))
    show aS _ A.in1 (updateSeq S (fun _=>#[]) >>= _) _ _ _
    refine ag (pR (kp S _ hSw hS) rfl (ag (nz (aK ?_))))
    exact hR vb _ tk (by rw [<- hin]; exact hPb) fun b o hbw hbS e=>(b9 _ _ (cj hbS)).trans (kp b o hbw e)
  | succ k ih =>
    intro j s vb c hk hj hst hg hPb hS hR
    have hlt:j + 1 < n:=by omega
    refine eZ F.entry_min_loop ?_
    rw [d6 F.plain_min_loop _]
    show aS _ A.in1 (seqItems? (.ref S) >>= _) _ _ s
    refine ag (qW hS rfl ?_)
    show aS _ A.in1 (tryCatch (Cw (.ref I)) _ >>= _) _ _ s
    refine ag (mw (W.item (j + 1) s _ _ hlt hst fun v h' tk hP hst' kp=>?_))
    have hS':=kp S _ hSw hS
    have g1:G h':=hG _ _ hg fun b o hb _ e=>kp b o hb e
    show aS _ A.in1 (tryCatch (jx [v,v] (qO .Lt v vb >>= _)) _ >>= _) _ _ _
    refine ag (mw (d7 (ag (hcmp (j + 1) (rA bt j) v vb _ _ _ hP hPb g1 ?_))))
    refine ag (d7 (iq (ag (nz (aK ?_)))))
    cases hb:bt (j + 1) (rA bt j) with
    | true =>
      simp only [if_true]
      refine ag (pR hS' rfl (ag (nz ?_)))
      rw [nm]
      refine aK ⟨ig F.plain_min_loop _,ih (j + 1) _ v _ (by omega) hlt (W.frame _ _ _ hst' fun b hbf o e=>?_) (hG _ _ g1 fun b o _ hbS e=>(b9 _ _ (cj hbS)).trans e)
        (by simp only [rA,hb,if_true]; exact hP) (gi _ hS' rfl) fun v' h'' tk'' hP' kp'=>?_⟩
      · exact (b9 _ _ (fun h:S=b=>hSf (by rw [h]; exact hbf))).trans e
      · exact hR v' h'' tk'' hP' fun b o hbw hbS e=>kp' b o hbw hbS ((b9 _ _ (cj hbS)).trans (kp b o hbw e))
    | false =>
      simp only [kP,if_false]
      refine ag (nz ?_)
      rw [nm]
      refine aK ⟨ig F.plain_min_loop _,ih (j + 1) _ vb c (by omega) hlt hst' g1 (by simp only [rA,hb,kP,if_false]; exact hPb) hS' fun v' h'' tk'' hP' kp'=>?_⟩
      exact hR v' h'' tk'' hP' fun b o hbw hbS e=>kp' b o hbw hbS (kp b o hbw e)
theorem xO (W:Walks prog w A.in1 I fp wr n P St) (bt:Nat->Nat->Bool) (hcmp:Dy prog w A.in1 .Lt P G bt) (S:aa) (hSf:S∉fp)
    (hG:∀ h h':cb,G h->(∀ b o,b∉wr->b≠S->h.get? b=some o->h'.get? b=some o)->G h') (hn:0 < n) {s:ao} {c:Nat} (hst:St 0 s.heap) (hg:G s.heap)
    (hS:s.heap.get? S=some {cls:=.type "list",dict:=none,data:=.seq #[] c,slots:=#[]})
    (hR:∀ v h' tk,P (rA bt (n - 1)) v->(∀ b o,b∉wr->b≠S->s.heap.get? b=some o->h'.get? b=some o)->R (.ok (.ret v)) {s with heap:=h',toks:=tk}) :
    ki (bb prog w) A (.builtin "min.loop" ⟨[.ref I,.none,.ref S],[]⟩) R s:=by
  have hSw:S∉wr:=fun h=>hSf (W.sub _ h)
  have nm:(toString "min"++toString ".loop":String)="min.loop":=by decide
  refine eZ F.entry_min_loop ?_
  rw [d6 F.plain_min_loop _]
  show aS _ A.in1 (seqItems? (.ref S) >>= _) _ _ s
  refine ag (qW hS rfl ?_)
  show aS _ A.in1 (tryCatch (Cw (.ref I)) _ >>= _) _ _ s
  refine ag (mw (W.item 0 s _ _ hn hst fun v h' tk hP hst' kp=>?_))
  have hS':=kp S _ hSw hS
  have g1:G h':=hG _ _ hg fun b o hb _ e=>kp b o hb e
  show aS _ A.in1 (updateSeq S (fun _=>#[v,v]) >>= _) _ _ _
  refine ag (pR hS' rfl ?_)
  rw [nm]
  refine aK ⟨ig F.plain_min_loop _,zk W bt hcmp S hSf hG _ 0 _ v _ rfl hn (W.frame _ _ _ hst' fun b hbf o e=>?_) (hG _ _ g1 fun b o _ hbS e=>(b9 _ _ (cj hbS)).trans e) hP (gi _ hS' rfl) fun v' h'' tk'' hP' kp'=>?_⟩
  · exact (b9 _ _ (fun h:S=b=>hSf (by rw [h]; exact hbf))).trans e
  · exact hR v' h'' tk'' hP' fun b o hbw hbS e=>kp' b o hbw hbS ((b9 _ _ (cj hbS)).trans (kp b o hbw e))
end
section
variable {prog:aO} {w:bj} {A:bN} {E:ae->ao->Prop} {s:ao}
theorem zl {x:ae} {Q:ae->ao->Prop}
    (h:aS (bb prog w) A.in1 (pyIter x) (fun it s₂=>∃ I fp wr n P St G bt,it=.ref I/\Walks prog w A.in1 I fp wr n P St/\St 0 s₂.heap/\G s₂.heap/\(∀ b∈fp,b < s₂.heap.objs.size)/\0 < n/\Dy prog w A.in1 .Lt P G bt /\
      (∀ h h':cb,G h->(∀ b o,b∉wr->b≠s₂.heap.objs.size->h.get? b=some o->h'.get? b=some o)->G h') /\
      ∀ v h' tk,P (rA bt (n - 1)) v->(∀ b o,b∉wr->s₂.heap.get? b=some o->h'.get? b=some o)->Q v {s₂ with heap:=h',toks:=tk}) E s) :
    aS (bb prog w) A (vN (.builtin "min") [x]) Q E s:=by
  have nm:(toString "min"++toString ".loop":String)="min.loop":=by decide
  refine call_function_tree F.kind_min F.plain_min F.entry_min (F.args_min1 _) ?_
  show aS _ A.in1 (o8 "min" ["key","default"] 0 ⟨[],[]⟩ >>= _) _ _ s
  refine ag (wpAny_of_eq (show o8 "min" ["key","default"] 0 ⟨[],[]⟩=pure [none,none] from rfl) (ag (aK ?_)))
  refine ag (dv h (fun it s₂ h₂=>?_) fun _ _ e=>e)
  obtain ⟨I,fp,wr,n,P,St,G,bt,rfl,W,hst,hg,hfp,hn,hcmp,hG,hQ⟩:=h₂
  refine ag (gD ?_)
  have hSf:s₂.heap.objs.size∉fp:=fun hm=>fX _ (hfp _ hm)
  rw [nm]
  have kp:∀ b o,s₂.heap.get? b=some o->(s₂.heap.push {cls:=.type "list",data:=.seq ([]:List ae).toArray}).get? b=some o:=fun b o e=>aI _ e
  refine aK ⟨ig F.plain_min_loop _,xO W bt hcmp s₂.heap.objs.size hSf hG hn (W.frame _ _ _ hst fun b _ o e=>kp b o e) (hG _ _ hg fun b o _ _ e=>kp b o e) (bX _ rfl) fun v h' tk hP hk=>?_⟩
  exact hQ v h' tk hP fun b o hbw e=>hk b o hbw (aR (aQ e)) (kp b o e)
end
section
variable {prog:aO} {w:bj} {K:Type} [DecidableEq K] {knd:HeapKind prog w K} {A:bN} {E:ae->ao->Prop} {s:ao}
def Am (xs:List (K×aa×ae)) (k:K):List (K×aa×ae):=xs.filter fun x=>!decide (x.1=k)
theorem tj:∀ {xs:List (K×aa×ae)} {j:Nat} {k:K} {p:aa×ae},(xs.map (·.1)).Nodup->xs[j]?=some (k,p)->xs.eraseIdx j=Am xs k
  | [],j,k,p,_,h=>by simp at h
  | x :: r,0,k,p,hn,h=>by
    simp only [xP,Option.some.injEq] at h
    subst h
    obtain ⟨h1,_⟩:=bh.mp (show (k :: r.map (·.1)).Nodup from hn)
    show r=List.filter _ ((k,p) :: r)
    rw [ir,if_neg (by simp)]
    symm
    rw [Bv]
    intro a ha
    simp only [Bool.not_eq_eq_eq_not,Jr,decide_eq_false_iff_not]
    exact fun e=>h1 (bH.mpr ⟨a,ha,e⟩)
  | x :: r,j + 1,k,p,hn,h=>by
    simp only [List.getElem?_cons_succ] at h
    obtain ⟨h1,h2⟩:=bh.mp (show (x.1 :: r.map (·.1)).Nodup from hn)
    have ne:¬ x.1=k:=fun e=>h1 (bH.mpr ⟨(k,p),aM h,e.symm⟩)
    show x :: r.eraseIdx j=List.filter _ (x :: r)
    rw [ir,if_pos (by simp [ne]),tj h2 h]
    rfl
theorem erase_map {α β:Type} (f:α->β):∀ (l:List α) (j:Nat),(l.map f).eraseIdx j=(l.eraseIdx j).map f
  | [],_=>rfl
  | _ :: _,0=>rfl
  | x :: r,j + 1=>by
    show f x :: (r.map f).eraseIdx j=f x :: (r.eraseIdx j).map f
    rw [erase_map f r j]
theorem Dz {d a:aa} {xs:List (K×aa×ae)} {k:K} {p:aa×ae} {Q:ae->ao->Prop} (hu:knd.room A.in1) (hkey:knd.is s.heap k a) (hm:s.heap.DictOfH knd d xs) (hz:xs.length<=az)
    (hp:uk xs k=some p) (hQ:∀ h',h'.DictOfH knd d (Am xs k)->ng d s.heap h'->Q p.2 {s with heap:=h',toks:=s.toks + knd.draws k}) :
    aS (bb prog w) A (vN (.builtin "dict.pop") [.ref d,.ref a]) Q E s:=by
  refine jW F.slot_dict_pop hm.typeIs F.entry_dict_pop ?_ (F.args_dict_pop_2 _ _)
  have ty:=hm.typeIs
  obtain ⟨o,es,ep,ho,hc,hd,he,his,hn⟩:=id hm
  have ne:¬ es.isEmpty=true:=fun z=>by
    have z2:es.size=0:=by simpa using z
    rw [xQ he] at z2
    rw [eA.mp z2] at hp
    cases hp
  unfold gW.«dict.pop» Builtin.Dict.keyAndDefault
  refine ag (ag (Fw ty ?_))
  refine aK (a:=(d,Value.ref a,none)) ?_
  show aS _ _ (if (keyPart (.ref a)).isSome=true then _ else _) _ _ s
  rw [if_neg (show ¬ (keyPart (.ref a)).isSome=true from fun z=>nomatch z)]
  refine ag (gE ho hd (ag (aK ?_)))
  show aS _ _ (if es.isEmpty=true then _ else _) _ _ s
  rw [if_neg ne]
  refine ag ?_
  unfold Builtin.Dict.takeOut
  try with_reducible refine d7 ?_
  refine ag (knd.pyHash hu hkey (ag (wpAny_dictFind_heap (s:={s with toks:=s.toks + knd.draws k}) hu hkey ho hd he his hn ?_ ?_)))
  · intro hno
    rw [atKey_none_of_get hno] at hp
    cases hp
  · intro j q hj
    rw [atKey_of_get hn hj] at hp
    cases hp
    refine ag (gE (s:={s with toks:=s.toks + knd.draws k}) ho hd ?_)
    rw [entry_at he j,hj]
    refine ag (wpAny_updateDictKeys (hz:=by rw [xQ he]; exact hz) (s:={s with toks:=s.toks + knd.draws k}) ho hd (aK ?_))
    simp only [Option.isNone_some,kP,if_false]
    refine ag (nz (aK ⟨_,rfl,?_⟩))
    refine hQ _ ⟨_,_,ep + 1,gi _ ho (Obj.isFreed_of_dict (Bw hd _)),hc.mapDictKeys _,Bw hd _,?_,fun x hx=>?_,?_⟩ (uu ..)
    · rw [<- tj hn hj,<- erase_map,<- he]
      obtain ⟨l⟩:=es
      simp
    · exact knd.keeps (his x (iG.mp hx).1) ho hd (uu ..)
    · exact List.Sublist.nodup (List.Sublist.map _ List.filter_sublist) hn
end
section
variable {prog:aO} {w:bj} {A:bN} {E:ae->ao->Prop} {s:ao}
theorem Bx (d:aa) (hd:(d == cU)=false):KC prog w (gW.«dict.__len__» ⟨[.ref d],[]⟩) (fun _ R s=>∃ es ep,xM s.heap d es ep/\R (.ok (.ret (.int es.size s.toks))) {s with toks:=s.toks + 1}):=
  .of_wp fun A R s ⟨es,ep,⟨o,ho,hc,hx⟩,h⟩=>by
    show aS _ _ (dictSize d >>= _) _ _ s
    unfold dictSize
    refine ag (ag (gE ho hx (aK ?_)))
    show aS _ _ (Builtin.Dict.pendingCount d >>= _) _ _ s
    exact ag (wpAny_pendingCount_other hd (wpAny_ret_mkInt h))
theorem uY {d:aa} {es:Array lZ} {ep:Nat} {Q:ae->ao->Prop} (hd:(d == cU)=false) (hm:xM s.heap d es ep) (hf:(es.size:Int) < 2 ^ 63)
    (h:Q (.int es.size (s.toks + 1)) {s with toks:=s.toks + 1 + 1}):aS (bb prog w) A (gW.«len» ⟨[.ref d],[]⟩) (fun fin s'=>∃ r,fin=.done (.ret r)/\Q r s') E s:=by
  have ty:s.TypeIs (.ref d) "dict":=let ⟨o,ho,hc,_⟩:=hm; ⟨o,ho,hc.1⟩
  unfold gW.«len»
  refine ag (m:=oneArg "len" _) (aK (ag (m:=callSpecial? (.ref d) (iX "__len__")) (Ca (name:=iX "__len__") ty F.slot_dict_len
    (uq F.slot_dict_len ty F.entry_dict_len (F.args_dict_len_1 _) (Bx d hd) ⟨es,ep,hm,?_⟩))))
  show aS _ _ _ _ _ {s with toks:=s.toks + 1}
  refine ag (d7 (aK (ag (nz ?_))))
  show aS _ _ (if ((es.size:Nat):Int) < 0 then _ else _) _ _ _
  rw [if_neg (by omega)]
  show aS _ _ (if ((es.size:Nat):Int) ≥ 2 ^ 63 then _ else _) _ _ _
  rw [if_neg (by omega)]
  exact ag (wpAny_mkInt (aK ⟨_,rfl,h⟩))
theorem DA {d:aa} {es:Array lZ} {ep:Nat} {Q:ae->ao->Prop} (hd:(d == cU)=false) (hm:xM s.heap d es ep) (hf:(es.size:Int) < 2 ^ 63)
    (h:Q (.int es.size (s.toks + 1)) {s with toks:=s.toks + 1 + 1}):aS (bb prog w) A (vN (.builtin "len") [.ref d]) Q E s:=
  Calls.call_function_entry kind_len plain_len entry_len (args_len1 _) (uY hd hm hf h)
theorem zm {d:aa} {es:Array lZ} {ep:Nat} {Q:Bool->ao->Prop} (hd:(d == cU)=false) (hm:xM s.heap d es ep) (hf:(es.size:Int) < 2 ^ 63)
    (h:Q ((es.size:Int) != 0) {s with toks:=s.toks + 1 + 1}):aS (bb prog w) A (yM (.ref d)) Q E s:=by
  have ty:s.TypeIs (.ref d) "dict":=let ⟨o,ho,hc,_⟩:=hm; ⟨o,ho,hc.1⟩
  have key:aS (bb prog w) A (runValue (.builtin "len" ⟨[.ref d],[]⟩)) (fun r s'=>r=.int es.size (s.toks + 1)/\Q ((es.size:Int) != 0) s') E s:=by
    refine wpAny_runValue (eZ entry_len ?_)
    rw [d6 plain_len _]
    exact dv (uY (Q:=fun r s'=>r=.int es.size (s.toks + 1)/\Q ((es.size:Int) != 0) s') hd hm hf ⟨rfl,h⟩)
      (fun fin s' h'=>by obtain ⟨r,rfl,hq⟩:=h'; exact hq) fun _ _ e=>e
  unfold yM
  first
    | refine ag (Cg (name:=iX "__bool__") ty noBool_dict ?_)
    | refine ag (aK (ag (Cg (name:=iX "__bool__") ty noBool_dict ?_)))
  first
    | refine ag (xr (name:=iX "__len__") ty F.slot_dict_len.lookup ?_)
    | refine ag (aK (ag (xr (name:=iX "__len__") ty F.slot_dict_len.lookup ?_)))
  first
    | exact ag (dv key (fun r s' h'=>by obtain ⟨rfl,hq⟩:=h'; exact aK hq) fun _ _ e=>e)
    | exact ag (aK (ag (dv key (fun r s' h'=>by obtain ⟨rfl,hq⟩:=h'; exact aK hq) fun _ _ e=>e)))
end
end PySem
namespace HT
theorem lx_irr:∀ a:List Int,lexLt a a=false
  | []=>rfl
  | x :: r=>by rw [lexLt_cons,if_pos rfl]; exact lx_irr r
theorem lx_trans:∀ {a b c:List Int},lexLt a b=true->lexLt b c=true->lexLt a c=true
  | [],[],_,h,_=>by cases h
  | [],_ :: _,[],_,h=>by cases h
  | [],_ :: _,_ :: _,_,_=>rfl
  | _ :: _,[],_,h,_=>by cases h
  | _ :: _,_ :: _,[],_,h=>by cases h
  | x :: a,y :: b,z :: c,h,k=>by
    rw [lexLt_cons] at h k |-
    by_cases e:x=y
    · subst e
      rw [if_pos rfl] at h
      by_cases f:x=z
      · subst f
        rw [if_pos rfl] at k |-
        exact lx_trans h k
      · rw [if_neg f] at k |-
        exact k
    · rw [if_neg e] at h
      have h:=of_decide_eq_true h
      by_cases f:y=z
      · subst f
        rw [if_neg e]
        exact decide_eq_true h
      · rw [if_neg f] at k
        have k:=of_decide_eq_true k
        rw [if_neg (by omega)]
        exact decide_eq_true (by omega)
theorem An:∀ {a b:List Int},lexLt a b=false->lexLt b a=false->a=b
  | [],[],_,_=>rfl
  | [],_ :: _,h,_=>by cases h
  | _ :: _,[],_,h=>by cases h
  | x :: a,y :: b,h,k=>by
    rw [lexLt_cons] at h k
    by_cases e:x=y
    · subst e
      rw [if_pos rfl] at h k
      rw [An h k]
    · rw [if_neg e] at h
      rw [if_neg (fun z=>e z.symm)] at k
      have h:=of_decide_eq_false h
      have k:=of_decide_eq_false k
      exact absurd (by omega) e
theorem lx_asym {a b:List Int} (h:lexLt a b=true):lexLt b a=false:=by
  cases e:lexLt b a with
  | false=>rfl
  | true =>
    have z:=lx_trans h e
    rw [lx_irr] at z
    cases z
theorem lx_of_not {a b:List Int} (h:lexLt a b=false) (n:a≠b):lexLt b a=true:=by
  cases e:lexLt b a with
  | true=>rfl
  | false=>exact absurd (An h e) n
theorem best_le (f:Nat->List Int):∀ k,pS (fun i j=>lexLt (f i) (f j)) k<=k/\∀ j,j<=k->lexLt (f j) (f (pS (fun i j=>lexLt (f i) (f j)) k))=false
  | 0=>⟨aE _,fun j hj=>by
    have e:j=0:=by omega
    rw [e]
    exact lx_irr _⟩
  | k + 1=>by
    obtain ⟨h1,h2⟩:=best_le f k
    simp only [pS]
    by_cases e:lexLt (f (k + 1)) (f (pS (fun i j=>lexLt (f i) (f j)) k))=true
    · rw [if_pos e]
      refine ⟨aE _,fun j hj=>?_⟩
      by_cases ej:j=k + 1
      · rw [ej]
        exact lx_irr _
      · cases z:lexLt (f j) (f (k + 1)) with
        | false=>rfl
        | true =>
          have y:=lx_trans z e
          rw [h2 j (by omega)] at y
          cases y
    · rw [if_neg e]
      refine ⟨by omega,fun j hj=>?_⟩
      by_cases ej:j=k + 1
      · rw [ej]
        exact DE.mpr e
      · exact h2 j (by omega)
open PySem PyProof.Rows
open PySem.SeqAt
open PySem.AutoSeq1 (wpAny_loadPart')
open PySem.MeetsSeq PySem.MeetsSeq2 PySem.MeetsSeq3
theorem Gr (l b:aa) (xs ys:Array ae) (n m:Nat) (dd de:Option aa) (sl sm:Array (Option ae)) (ns ms:List Int) (hi:fA xs.toList ns) (hj:fA ys.toList ms) :
    Meets (gW.«tuple.__gt__» ⟨[.ref l,.ref b],[]⟩)
      (fun _ R s=>s.heap.get? l=some {cls:=.type "tuple",dict:=dd,data:=.seq xs n,slots:=sl}/\s.heap.get? b=some {cls:=.type "tuple",dict:=de,data:=.seq ys m,slots:=sm}/\R (.ok (.ret (.bool (lexLt ms ns)))) s):=
  .of_wp fun prog w A R s h=>by
    obtain ⟨hp,g,d,tk,os⟩:=s
    obtain ⟨hl,hb,h⟩:=h
    have f2:=tY
    have z1:xs.size=ns.length:=by rw [<- hi.length]; simp
    have z2:ys.size=ms.length:=by rw [<- hj.length]; simp
    wp_walk using cP hl,cP hb,vR _ (fun rest b s'=>b.1=none/\s'=⟨hp,g,d,tk,os⟩/\∃ (vs ws:List ae) (ns' ms':List Int),rest=vs.zip ws /\
      fA vs ns'/\fA ws ms'/\ns'.length + ys.size=ms'.length + xs.size/\R (.ok (.ret (.bool (lexLt ms' ns')))) ⟨hp,g,d,tk,os⟩) _
    case turn =>
      rintro ⟨y,x⟩ rest b s' ⟨hb',rfl,vs,ws,ns',ms',hz,hv,hw,hlen,hR⟩
      cases hv with
      | nil=>rw [C5] at hz; cases hz
      | cons a t hv =>
        cases hw with
        | nil=>rw [B9] at hz; cases hz
        | cons c u hw =>
          rw [kK] at hz
          injection hz with hyx hrest
          injection hyx with hy hx
          subst hy hx
          rw [lexLt_cons] at hR
          simp only [aL] at hlen
          obtain ⟨e,he,hiff⟩:=xo A.in1 ⟨hp,g,d,tk,os⟩ a t c u
          refine ag (he prog w _ _ ?_)
          cases e with
          | true =>
            rw [if_pos (hiff.mp rfl).symm] at hR
            wp_walk
            exact ⟨rfl,rfl,_,_,_,_,hrest,hv,hw,by omega,hR⟩
          | false =>
            rw [if_neg (fun q=>absurd (hiff.mpr q.symm) bE)] at hR
            have hri:∀ (E:ae->ao->Prop) (Q:ae->ao->Prop),Q (.bool (decide (a > c))) ⟨hp,g,d,tk,os⟩->aS (bb prog w) A.in1 (qO .Gt (.int a t) (.int c u)) Q E ⟨hp,g,d,tk,os⟩:=fun E Q q =>
              (PyProof.Rows.gt_int q:aS (bb prog w) A.in1 (fh .Gt (.int a t) (.int c u)) Q E _)
            wp_walk using hri
            exact ⟨_,rfl,by simpa using hR⟩
    case fin =>
      rintro ⟨b1,b2⟩ s' ⟨hb',rfl,vs,ws,ns',ms',hz,hvi,hwi,hlen,hR⟩
      simp only at hb'
      subst hb'
      have hv:lexLt ms' ns'=decide (ys.size < xs.size):=by
        cases hvi with
        | nil =>
          cases hwi with
          | nil =>
            simp only [cy] at hlen
            rw [px]
            exact (decide_eq_false (by omega)).symm
          | cons c u hw =>
            simp only [cy,aL] at hlen
            rw [nU]
            exact (decide_eq_false (by omega)).symm
        | cons a t hv =>
          cases hwi with
          | nil =>
            simp only [cy,aL] at hlen
            rw [nP]
            exact (decide_eq_true (by omega)).symm
          | cons c u hw =>
            rw [kK] at hz
            cases hz
      rw [hv] at hR
      wp_walk
      exact ⟨_,rfl,by simpa [oM] using hR⟩
    case h =>
      exact ⟨rfl,rfl,xs.toList,ys.toList,ns,ms,rfl,hi,hj,by omega,h⟩
theorem gt_tup {prog:aO} {w:bj} {A:bN} {E:ae->ao->Prop} {s:ao} {l b:aa} {xs ys:Array ae} {ns ms:List Int} {Q:ae->ao->Prop} (hl:t5 s.heap l xs) (hb:t5 s.heap b ys) (hi:fA xs.toList ns) (hj:fA ys.toList ms)
    (hu:A.units < dW) (h:Q (.bool (lexLt ms ns)) s):aS (bb prog w) A (fh .Gt (.ref l) (.ref b)) Q E s:=by
  obtain ⟨⟨c1,dd,t1,sl⟩,o1,rfl,n,rfl⟩:=id hl
  obtain ⟨⟨c2,de,t2,sm⟩,o2,rfl,m,rfl⟩:=id hb
  exact C6 (op:=.Gt) ⟨_,o1,rfl⟩ ⟨_,o2,rfl⟩ PySem.F.slot_tuple_gt PySem.F.entry_tuple_gt (PySem.F.args_tuple_gt_2 _ _) (Gr l b xs ys n m dd de sl sm ns ms hi hj)
    ⟨o1,o2,show Value.bool (lexLt ms ns)≠Value.notImplemented/\Q (.bool (lexLt ms ns)) s from ⟨(fun x=>nomatch x),h⟩⟩ hu
end HT
namespace L2
open PySem PySem.Spec PyProof.Rows
theorem e8:∀ {ns ms:List Int},ns.map (Sum.inl:Int->Key)=ms.map Sum.inl->ns=ms
  | [],[],_=>rfl
  | [],_ :: _,h=>by cases h
  | _ :: _,[],h=>by cases h
  | x :: a,y :: b,h=>by
    injection h with h1 h2
    injection h1 with h1
    rw [h1,e8 h2]
theorem wx (ns:List Int):(ns.map (Sum.inl:Int->Key)).map kV=ns.map V.int:=by
  rw [gv]
  rfl
section
variable {X:Cx}
theorem Jt (hu:X.A.units < dW):OpR X (fh .Gt) (fun x y H Q=>∃ a b ns ms,x=.ref a/\y=.ref b/\H a=some (.tup (ns.map V.int))/\H b=some (.tup (ms.map V.int))/\Q (.bl (HT.lexLt ms ns)) H):=by
  intro pins s σ H x y v u Q I rx ry h
  obtain ⟨a,b,ns,ms,rfl,rfl,ha,hb,q⟩:=h
  cases rx
  cases ry
  obtain ⟨its,r1,p1,_⟩:=I.tuple (SqT.of ha)
  obtain ⟨its2,r2,p2,_⟩:=I.tuple (SqT.of hb)
  have i1:fA its.toArray.toList ns:=intsAre_of r1
  have i2:fA its2.toArray.toList ms:=intsAre_of r2
  exact HT.gt_tup p1 p2 i1 i2 hu ⟨.bl (HT.lexLt ms ns),H,I,rfl,q⟩
def fu (H:Hp):List aa->List (List Int)->Prop:=aW fun a n=>H a=some (.tup (n.map V.int))
theorem fu.length {H:Hp} {as:List aa} {ns:List (List Int)} (t:fu H as ns):as.length=ns.length:=bJ t
theorem fu.get {H:Hp}:∀ {as:List aa} {ns:List (List Int)} {i:Nat} {a:aa},fu H as ns->as[i]?=some a->∃ n,ns[i]?=some n/\H a=some (.tup (n.map V.int))
  | _,_,_,_,.nil,e=>by simp at e
  | _,_,0,_,.cons r _,e=>by simp at e; subst e; exact ⟨_,rfl,r⟩
  | _,_,i + 1,a,.cons _ t,e=>by
    obtain ⟨n,h1,h2⟩:=fu.get (i:=i) (a:=a) t (by simpa using e)
    exact ⟨n,by simpa using h1,h2⟩
theorem fu.keep {H H':Hp} (k:∀ b xs,H b=some (.tup xs)->H' b=some (.tup xs)) {as:List aa} {ns:List (List Int)} (t:fu H as ns):fu H' as ns:=Paired.mapP t fun _ _ z=>k _ _ z
theorem fu.append {H:Hp}:∀ {as bs:List aa} {ns ms:List (List Int)},fu H as ns->fu H bs ms->fu H (as++bs) (ns++ms)
  | _,_,_,_,.nil,s=>s
  | _,_,_,_,.cons r t,s=>.cons r (fu.append t s)
theorem fu.take {H:Hp}:∀ {as:List aa} {ns:List (List Int)} (n:Nat),fu H as ns->fu H (as.take n) (ns.take n)
  | _,_,0,_=>.nil
  | _,_,_ + 1,.nil=>.nil
  | _,_,n + 1,.cons r t=>.cons r (fu.take n t)
theorem fu.drop {H:Hp}:∀ {as:List aa} {ns:List (List Int)} (n:Nat),fu H as ns->fu H (as.drop n) (ns.drop n)
  | _,_,0,r=>r
  | _,_,_ + 1,.nil=>.nil
  | _,_,n + 1,.cons _ t=>fu.drop n t
theorem fu.erase {H:Hp}:∀ {as:List aa} {ns:List (List Int)} (n:Nat),fu H as ns->fu H (as.eraseIdx n) (ns.eraseIdx n)
  | _,_,_,.nil=>.nil
  | _,_,0,.cons _ t=>t
  | _,_,n + 1,.cons r t=>.cons r (fu.erase n t)
open Classical in
def Gs:V->List V->Hp->VK->Prop:=fun x vs H Q=>∃ l xs i y,x=.ref l/\vs=[.int (i:Nat),y]/\H l=some (.lst xs)/\i<=xs.length/\xs.length < az/\Q .non (upd H l (.lst (xs.take i++y :: xs.drop i)))
theorem By:MtM X "list.insert" Gs:=by
  intro pins s σ H x vs v us Q I rx rv h
  obtain ⟨l,xs,i,y,rfl,rfl,hH,hi,hz,q⟩:=h
  cases rx
  obtain ⟨u,w',rfl,ru,rw'⟩:=rv.two
  obtain ⟨t,rfl⟩:=ru
  obtain ⟨z,its,n,r,hl,e⟩:=I.lstM hH
  have hz1:its.toArray.size<=az:=by rw [aA]; omega
  generalize hx:((i:Nat):Int)=x
  have fit:qF x=true:=by
    have s63:az=16777216:=kr
    exact fitsIndex_both (by omega) (by omega)
  have nfit:¬ (!qF x)=true:=by rw [fit]; exact bE
  refine pI F.slot_list_insert ⟨_,e,rfl⟩ F.entry_list_insert (F.args_list_insert_3 _ _ _) (KD l its.toArray n x t w' nfit hz1) ⟨e,?_⟩
  refine ⟨.non,_,I.lset (its':=its.take i++w' :: its.drop i) hH e ?_ ((r.take i).append (.cons rw' (r.drop i))) ?_,rfl,q⟩
  · have k:(if x < 0 then (x + (its.toArray.size:Int)).toNat else min x.toNat its.toArray.size)=i:=by
      rw [if_neg (by omega),aA]
      omega
    show (its.toArray.extract 0 (if x < 0 then (x + (its.toArray.size:Int)).toNat else min x.toNat its.toArray.size)).push w'++its.toArray.extract (if x < 0 then (x + (its.toArray.size:Int)).toNat else min x.toNat its.toArray.size)=_
    rw [k]
    apply Array.toList_inj.mp
    simp [List.extract_eq_take_drop]
    exact yK (by rw [jw]; exact aE _)
  · rw [aB,aL,cN,jw]
    omega
def IntKeys (kvs:List (List Key×V)):Prop:=∀ k∈kvs.map (·.1),∃ n:List Int,k=n.map Sum.inl
theorem Ao {P:aO} {w:bj} {H:Hp} {h:cb} {d:aa} {kvs:List (List Key×V)} (ok:HOk P w H h) (e:H d=some (.dT kvs)):kvs.length<=az/\(d == cU)=false/\∃ xs es ep,KT H kvs xs/\xM h d es ep/\es.size=kvs.length /\
    ∀ (i:Nat) (en:lZ),es[i]?=some en->∃ x,xs[i]?=some x/\en.key=.ref x.2.1:=by
  obtain ⟨z,y,xs,r,o,es,ep,h1,h2,h3,h4,h5⟩:=(show dI P w H h d (.dT kvs) from ok d _ e)
  refine ⟨z,y,xs,es,ep,r,⟨o,h1,h2,h3⟩,by rw [xQ h4,<- bJ r],fun i en he=>?_⟩
  rw [entry_at h4 i] at he
  cases q:xs[i]? with
  | none=>rw [q] at he; cases he
  | some x =>
    rw [q] at he
    cases he
    exact ⟨x,rfl,rfl⟩
theorem uZ:kG X (.builtin "len") (fun xs H Q=>∃ d kvs,xs=[V.ref d]/\H d=some (.dT kvs)/\Q (.int kvs.length) H):=by
  intro pins s σ H xs us Q I r h
  obtain ⟨d,kvs,rfl,hd,q⟩:=h
  obtain ⟨u,rfl,ru⟩:=vals1 r
  cases ru
  have s63:az=16777216:=kr
  obtain ⟨z,n1,xs,es,ep,_,hb,hs,_⟩:=Ao I.hok hd
  refine DA n1 hb (by omega) ?_
  rw [hs]
  exact ⟨.int kvs.length,H,I.tok _,⟨_,rfl⟩,q⟩
theorem pt_dT {e:cA} {te:TE} (he:PE X e te) (hi:∀ whole,vH e X.env whole=(do let v <- whole; nh e.pos; jx [v] (yM v))) :
    PT X e (fun σ H Q=>te σ H fun x H'=>∃ d kvs,x=.ref d/\H' d=some (.dT kvs)/\Q (!kvs.isEmpty) H'):=by
  intro pins s σ H Q I h
  refine Cq (thn (he pins s σ H _ I h) fun v s1 ⟨x,H1,I1,r1,d,kvs,ex,hd,q1⟩=>?_) (hi _)
  subst ex
  cases r1
  have s63:az=16777216:=kr
  obtain ⟨z,n1,xs,es,ep,_,hb,hs,_⟩:=Ao I1.hok hd
  refine zm n1 hb (by omega) ?_
  have e:((es.size:Int) != 0)=!kvs.isEmpty:=by
    rw [hs]
    cases kvs with
    | nil=>rfl
    | cons a b =>
      rw [aL]
      show (((b.length + 1:Nat):Int) != 0)=true
      rw [bne_iff_ne]
      omega
  rw [e]
  exact ⟨H1,I1.tok _,q1⟩
def Least (ks:List (List Key)) (n:List Int):Prop:=n.map Sum.inl∈ks/\∀ m:List Int,m.map Sum.inl∈ks->HT.lexLt m n=false
theorem KT.less {H:Hp}:∀ {kvs:List (List Key×V)} {xs:List (List Key×aa×ae)} (k:List Key),KT H kvs xs->KT H (gf kvs k) (Am xs k)
  | _,_,_,.nil=>.nil
  | _,_,k,.cons (a:=p) (b:=q) r t=>by
    have ih:=KT.less k t
    unfold gf Am at ih |-
    rw [ir,ir]
    by_cases e:p.1=k
    · have e':q.1=k:=r.1 ▸ e
      rw [if_neg (by simp [e]),if_neg (by simp [e'])]
      exact ih
    · have e':¬ q.1=k:=fun z=>e (r.1.trans z)
      rw [if_pos (by simp [e]),if_pos (by simp [e'])]
      exact .cons r ih
def Ju (td ty:TE):TE:=fun σ H Q=>td σ H fun x H1=>∃ a,x=.ref a/\IsD H1 a/\ty σ H1 fun y H2=>∃ kvs k b v,H2 a=some (.dT kvs)/\y=.ref b/\H2 b=some (.tup (k.map kV))/\fZ kvs k=some v/\Q v (upd H2 a (.dT (gf kvs k)))
theorem xR {o e:cA} {apos cpos:Pos} {td ty:TE} (hu:X.A.units + 1 < dW) (ho:PE X o td) (he:PE X e ty) (m:M1 X o "pop" apos e cpos):PE X (.Call (.Attribute o "pop" apos) [e] [] cpos) (Ju td ty):=by
  intro pins s σ H Q I h
  refine wpAny_Call_method m.base m.few m.line va PySem.F.slot_dict_pop PySem.F.type_dict_pop (thn (ho pins s σ H _ I h) fun u s1 ⟨x,H1,I1,rx,a,ex,d,q1⟩=>?_)
  subst ex
  obtain rfl:u=Value.ref a:=rx
  obtain ⟨t1,t2,_⟩:=Jl I1 d
  refine ⟨t1,t2,?_⟩
  rw [m.trees]
  refine m6 rfl (oZ (Bk (thn (he pins s1 σ H1 _ I1 q1) fun iv s2 ⟨y,H2,I2,ry,kvs,k,b,v,ea,ey,eb,l,q2⟩=>B5 ?_)))
  subst ey
  cases ry
  obtain ⟨z,n1,xs,rel,dd⟩:=Ia I2.hok ea
  obtain ⟨w',hw,rw'⟩:=nC.some_of (v:=v) (o:=(uk xs k).map (·.2)) (by rw [<- l]; exact rel.val k)
  obtain ⟨p,hp,hp2⟩:=gI.mp hw
  refine Dz (iY hu) (qR I2.hok eb) dd (by rw [<- bJ rel]; exact z) hp fun h' dd' hs=>?_
  rw [hp2]
  obtain ⟨o',es,ep,hq,h2,h3,h4,_,h5⟩:=dd'
  refine ⟨v,_,rR (ob:=.dT (gf kvs k)) I2 (by rw [ea]; exact True.intro) hs ⟨o',hq⟩ ⟨cv (Dj kvs k) z,n1,_,(rel.less k).keeps fun c ys ec=>?_,o',es,ep,hq,h2,h3,h4,h5⟩,rw',q2⟩
  rw [aG (fc ec ea (fun z=>nomatch z))]
  exact ec
end
end L2
namespace L2
open PySem PySem.Spec PyProof.Rows
structure DG (K:af) (C:aa) (m:Str) (f:aa):Prop where
  spec:kJ K (.ref C) "__getattribute__"=some (some (.builtin "type.__getattribute__"))
  reads:Cj K C (.type "type")=true
  found:Ck K (.ref C) (.type "type") m=some (.val (.ref f))
  kp:e7 K (.ref f)=true
section
variable {X:Cx}
theorem DH {CX:CXT} {k:Nat} {f C:aa} {fd:bG} {ps:List Str} {ds:List ae} {dvs:List V} {sp:Sp} {E:XK} {x m:Str} {e:cA} {es:List cA} {t:TA} {p apos pos:Pos} {pl:Sem Bool}
    (hc:DG X.K C m f) (F:bg X.prog X.w X.K X.mg X.base CX k f fd ps sp) (hr:dN k X.A) (hg:Gl X x) (hm:X.mg x=some (.ref C)) (hb:Binds X.K fd ps ds) (hd:cY dvs ds) (hx:jy CX X E) (ha:PA X (e :: es) t)
    (hdb:(x == ("__debug__":Str))=false:=by decide)
    (hst:bU (e :: es) X.env=(false,eP e X.env) :: bU es X.env:=by rfl) (hpl:(gP pos (bU es X.env)).any (·.1)=false:=by rfl)
    (ht:eP (.Call (.Attribute (.Name x p) m apos) (e :: es) [] pos) X.env=(do
      let ov <- eP (.Name x p) X.env
      nh apos.atName
      let (f,first) <- jx [ov] (jV ov m pl)
      ua pos f first (gP pos (bU (e :: es) X.env)) (oX pos (iZ [] X.env))):=by rfl) :
    PE X (.Call (.Attribute (.Name x p) m apos) (e :: es) [] pos) (C0 sp dvs E t):=by
  intro pins s σ H Q I h
  refine gQ (pl:=pl) (thn (pX (v:=.ref C) (pos:=p) hg hm rfl hdb pins s σ H (fun v H1=>v=.ref C/\H1=H) I ⟨rfl,rfl⟩) fun u s1 ⟨v,H1,I1,rv,ev,eH⟩=>?_) ht
  subst ev
  subst eH
  cases rv
  refine PySem.W.method_cls I1.kIn hc.spec (PySem.W.cls_value I1.kIn hc.reads hc.found rfl ?_)
  have I2:=I1.tok (s1.toks + 1)
  refine iC (first:=[]) (h₀:=X.base) I.ok.mod.kin hc.kp (thn (ha pos pins _ σ H1 _ I2 h) fun us s3 ⟨vs,H3,I3,r,q3⟩=>⟨I3.kIn,?_⟩) hst hpl
  exact vQ (us:=us) (vs:=vs) F hr hb hd hx I3 r q3
theorem vc (hu:X.A.units + 2 < dW) (hc:X.calm=true):kG X (.builtin "min") (fun xs H Q=>∃ l as ns,xs=[V.ref l]/\H l=some (.lst (as.map V.ref))/\fu H as ns/\ns≠[]/\∀ (a:aa) (n:List Int),a∈as->n∈ns->H a=some (.tup (n.map V.int))->(∀ m∈ns,HT.lexLt m n=false)->Q (.ref a) H):=by
  intro pins s σ H xs us Q I r h
  obtain ⟨l,as,ns,rfl,hl,ht,ne,q⟩:=h
  obtain ⟨u,rfl,ru⟩:=vals1 r
  cases ru
  obtain ⟨its,rv,pl,hz⟩:=I.list (SqL.of hl)
  have ltl:l < s.heap.objs.size:=let ⟨_,ho,_⟩:=pl.isList; aQ ho
  have hlen:its.toArray.size=ns.length:=by
    rw [aA,<- rv.length,av]
    exact ht.length
  have hpos:0 < its.toArray.size:=by
    rw [hlen]
    exact pT.mpr ne
  have key:∀ (i:Nat) (v:ae),its.toArray[i]?=some v->∃ (a:aa) (n:List Int),v=Value.ref a/\as[i]?=some a/\ns[i]?=some n/\H a=some (.tup (n.map V.int)):=by
    intro i v hv
    have hv':its[i]?=some v:=by simpa using hv
    have li:i < as.length:=by
      have:=(aw.mp hv').1
      have:=rv.length
      rw [av] at this
      omega
    have ea:(as.map V.ref)[i]?=some (.ref as[i]):=by rw [bf,aC li]; rfl
    obtain ⟨w',hw,rw'⟩:=rv.get ea
    rw [hv'] at hw
    cases hw
    cases rw'
    obtain ⟨n,hn,hnt⟩:=ht.get (aC li)
    exact ⟨_,n,rfl,aC li,hn,hnt⟩
  refine zl (t9 pl.isList ?_)
  refine ⟨s.heap.objs.size,[s.heap.objs.size,l],[s.heap.objs.size],its.toArray.size,_,_,fun h=>∀ b o ys,H b=some (.tup ys)->s.heap.get? b=some o->h.get? b=some o,fun i j=>HT.lexLt ((ns[i]?).getD []) ((ns[j]?).getD []),rfl,
    Walks.list (A:=X.A.in1) (I.ok.hd hc) s.heap.objs.size l (aR ltl) its.toArray,⟨⟨_,bX _ rfl,rfl,rfl⟩,pl.isList.at fun o e=>aI _ e⟩,fun b o ys _ e=>aI _ e,?_,hpos,?_,?_,?_⟩
  · intro b hb'
    rw [kH]
    rcases ak.mp hb' with e | e
    · rw [e]; exact m5 _
    · rw [au.mp e]; exact rL ltl
  · rintro i j vi vj s' Q' E' hi hj g q'
    obtain ⟨b1,n,rfl,_,c3,c4⟩:=key i vi hi
    obtain ⟨b2,m,rfl,_,d3,d4⟩:=key j vj hj
    have q':Q' (.bool (HT.lexLt ((ns[i]?).getD []) ((ns[j]?).getD []))) s':=q'
    rw [c3,d3] at q'
    obtain ⟨its1,r1,p1,_⟩:=I.tuple (SqT.of c4)
    obtain ⟨its2,r2,p2,_⟩:=I.tuple (SqT.of d4)
    have i1:fA its1.toArray.toList n:=intsAre_of r1
    have i2:fA its2.toArray.toList m:=intsAre_of r2
    have t1:t5 s'.heap b1 its1.toArray:=let ⟨o,ho,rest⟩:=p1; ⟨o,g _ _ _ c4 ho,rest⟩
    have t2:t5 s'.heap b2 its2.toArray:=let ⟨o,ho,rest⟩:=p2; ⟨o,g _ _ _ d4 ho,rest⟩
    exact HT.lt_tupInts (A:=X.A.in1) t1 t2 i1 i2 (by show X.A.units + 1 < dW; omega) q'
  · intro h1 h2 g kp b o ys hy ho
    have lt:=aQ ho
    refine kp b o (fun e=>aR lt (au.mp e)) (fun e=>?_) (g b o ys hy ho)
    rw [kH] at e
    exact aR (rL lt) e
  · rintro v h' tk hv kp
    obtain ⟨a,n,rfl,c2,c3,c4⟩:=key _ v hv
    obtain ⟨_,best⟩:=HT.best_le (fun i=>(ns[i]?).getD []) (its.toArray.size - 1)
    rw [c3] at best
    refine ⟨.ref a,H,I.kept (t':=tk) fun b o ho=>kp b o (fun e=>aR (aQ ho) (au.mp e)) (aI _ ho),rfl,q a n (aM c2) (aM c3) c4 fun m hm=>?_⟩
    obtain ⟨j,hj⟩:=bY hm
    have lj:=(aw.mp hj).1
    have z:=best j (by omega)
    rw [hj] at z
    exact z
end
theorem xT {n m:Nat} {g:TG} {tc:TT} {te:TE} {σ:St} {H:Hp} {Q:VK} (Pv:Nat->List V->Hp->Prop) (h0:Pv 0 [] H) (hl:∀ i ys H,i<=m->Pv i ys H->ys.length < az)
    (hs:∀ i ys H,i < m->Pv i ys H->g (.int (0 + i)) (b7 n none++σ) H fun σ2 H2=>σ2.drop n=σ/\tc σ2 H2 fun b H3=>if b=true then te σ2 H3 fun y H4=>Pv (i + 1) (ys++[y]) H4 else Pv (i + 1) ys H3)
    (hd:∀ ys H,Pv m ys H->∀ p,H p=none->Q (.ref p) (upd H p (.lst ys))) :
    ∃ W:Nat->Nat->List V->Hp->Prop,(∃ k,W 0 k [] H)/\∀ i k ys H,W i k ys H->ys.length < az/\(((Itr 0 m).stop i H/\∀ p,H p=none->Q (.ref p) (upd H p (.lst ys))) \/
      ((Itr 0 m).go i H/\∃ N:List V->Hp->Prop,(∀ ys' H',N ys' H'->∃ k',k' < k/\W (i + 1) k' ys' H')/\∀ x H',(Itr 0 m).yld i H x H'->g x (b7 n none++σ) H' fun σ2 H2=>σ2.drop n=σ/\tc σ2 H2 fun b H3 =>
        if b=true then te σ2 H3 fun y H4=>N (ys++[y]) H4 else N ys H3)):=by
  refine ⟨fun i k ys H=>k=m - i/\i<=m/\Pv i ys H,⟨m,by simp,bA _,h0⟩,?_⟩
  rintro i k ys H ⟨rfl,hi,pv'⟩
  refine ⟨hl i ys H hi pv',?_⟩
  by_cases lt:i < m
  · refine .inr ⟨lt,Pv (i + 1),fun ys' H' p'=>⟨m - (i + 1),by omega,rfl,lt,p'⟩,fun x H' y=>?_⟩
    obtain ⟨e,y⟩:=y
    subst e y
    exact hs i ys _ lt pv'
  · have e:i=m:=by omega
    subst e
    exact .inl ⟨aE _,hd ys H pv'⟩
end L2
namespace L2
open PySem PySem.Spec PyProof.Rows
section
variable {X:Cx} {pins:List (aa×Obj)} {σ:St} {H:Hp} {s:ao} {d:aa}
theorem Inv.swap {o o':HO} (I:Inv X pins σ H s) (e:H d=some o) (nt:∀ xs,o≠.tup xs) (nb:∀ ps,o≠.tbl ps) (nw:∀ a,o≠.own a) (nf:∀ ob u,X.H₀ d≠some (.frz ob u)) (ok:dI X.prog X.w (upd H d o') s.heap d o'):Inv X pins σ (upd H d o') s:=by
  have no:∀ b,H b=none->upd H d o' b=none:=fun b z=>by
    rw [aG (aN e z).symm]
    exact z
  have tp:∀ b xs,H b=some (.tup xs)->upd H d o' b=some (.tup xs):=fun b xs z=>by
    rw [aG (fc z e (fun q=>nt xs q.symm))]
    exact z
  have ow:∀ b a,H b=some (.own a)->upd H d o' b=some (.own a):=fun b a z=>by
    rw [aG (fc z e (fun q=>nw a q.symm))]
    exact z
  refine ⟨I.ok,I.os,I.bare,⟨I.base.keep,I.base.slot,fun b ob q n hx=>no b (I.base.free b ob q n hx),I.base.there,fun b xs q=>tp b xs (I.base.tups b xs q),fun b ob u q=>?_,fun b ps q=>?_⟩,I.loc,I.cell,no _ I.free,fun x c q=>no c (I.freeC x c q),fun p hp=>?_,fun b u q=>?_,I.len⟩
  · have z:=I.base.frzs b ob u q
    have nd:b≠d:=fun y=>nf ob u (by rw [<- y]; exact q)
    rw [aG nd]
    exact z
  · obtain ⟨more,z⟩:=I.base.tbls b ps q
    refine ⟨more,?_⟩
    rw [aG (fc z e (fun y=>nb _ y.symm))]
    exact z
  · obtain ⟨h1,h2,h3⟩:=I.pin p hp
    exact ⟨h1,no _ h2,h3⟩
  · by_cases z:b=d
    · subst z
      rw [ah] at q
      cases q
      exact ok
    · rw [aG z] at q
      exact (I.hok b u q).stay (fun c v _ y=>y) (fun c y=>ow c b y) tp
theorem Inv.freeze {kvs:List (Key×V)} (I:Inv X pins σ H s) (e:H d=some (.dK kvs)) (nf:∀ ob u,X.H₀ d≠some (.frz ob u)):∃ od,s.heap.get? d=some od/\Inv X pins σ (upd H d (.frz od (.dK kvs))) s:=by
  obtain ⟨h1,h2,vs,r,ob,es,ep,g1,g2⟩:=(show dI X.prog X.w H s.heap d (.dK kvs) from I.hok d _ e)
  exact ⟨ob,g1,I.swap e (fun xs z=>by cases z) (fun ps z=>by cases z) (fun a z=>by cases z) nf ⟨g1,h1,h2,vs,r,ob,es,ep,g1,g2⟩⟩
theorem Inv.thaw {kvs:List (Key×V)} {od:Obj} (I:Inv X pins σ H s) (e:H d=some (.frz od (.dK kvs))) (nf:∀ ob u,X.H₀ d≠some (.frz ob u)):Inv X pins σ (upd H d (.dK kvs)) s:=by
  obtain ⟨_,h1⟩:=(show dI X.prog X.w H s.heap d (.frz od (.dK kvs)) from I.hok d _ e)
  exact I.swap e (fun xs z=>by cases z) (fun ps z=>by cases z) (fun a z=>by cases z) nf h1
end
def Iti (d:aa) (od:Obj) (kvs:List (Key×V)):It:=
  ⟨fun i H=>H d=some (.frz od (.dK kvs))/\i < kvs.length,fun i H x H'=>∃ t kv,x=.ref t/\H t=none/\kvs[i]?=some kv/\H'=upd H t (.tup [kV kv.1,kv.2]),fun i H=>H d=some (.frz od (.dK kvs))/\kvs.length<=i⟩
theorem KV.at_ {kvs:List (Key×V)} {vs:List (Key×ae)} (r:KV kvs vs):∀ {i:Nat} {kv:Key×V},kvs[i]?=some kv->∃ u,vs[i]?=some (kv.1,u)/\RelV kv.2 u:=by
  induction r with
  | nil=>intro i kv h; simp at h
  | cons a _ ih =>
    intro i kv h
    cases i with
    | zero =>
      simp at h
      subst h
      exact ⟨_,by rw [xP,a.1],a.2⟩
    | succ i =>
      obtain ⟨u,h1,h2⟩:=ih (by simpa using h)
      exact ⟨u,by simpa using h1,h2⟩
theorem Jv {P:aO} {w:bj} {k:Key} {u:ae} (h:(eU P w).is k u=true):RelV (kV k) u:=by
  rcases fx h with ⟨i,t,rfl,rfl⟩ | ⟨x,t,rfl,rfl⟩
  · exact ⟨t,rfl⟩
  · exact ⟨t,rfl⟩
theorem q9:entryFor table "dict_itemiterator.__iter__"=some gW.«dict_keyiterator.__iter__»:=
  entryFor_alias (id':="dict_keyiterator.__iter__") (by kernel_rfl) rfl (by decide +kernel) (by kernel_rfl)
section
variable {P:aO} {w:bj} {K:af}
def Gu (o:Obj):Nat:=match o.data with | .dict _ ep=>ep | _=>0
theorem zo {X:Cx} {pins:List (aa×Obj)} {σ:St} {H:Hp} {s:ao} {d:aa} {od:Obj} {kvs:List (Key×V)} (I:Inv X pins σ H s) (e:H d=some (.frz od (.dK kvs))):∃ vs,KV kvs vs/\s.heap.DictAt (eU X.prog X.w) d vs (Gu od):=by
  obtain ⟨g0,h1,h2,vs,r,ob,es,ep,g1,g2,g3,g4⟩:=(show dI X.prog X.w H s.heap d (.frz od (.dK kvs)) from I.hok d _ e)
  rw [g0] at g1
  cases g1
  have ee:Gu od=ep:=by
    unfold Gu
    rw [g3]
  rw [ee]
  exact ⟨vs,r,od,es,g0,g2,g3,g4⟩
theorem zp {elts:List cA} {x1} {pos:Pos} (d it:aa) (od:Obj) (kvs:List (Key×V)) (hne:d≠it):Bb P w K (.Tuple elts x1 pos) (Iti d od kvs) [it] it (fun i h=>∃ ok ov,IsItemIter h it d i kvs.length (Gu od) ok ov) where
  mem:=by simp
  obj:=fun i h st b hb=>by
    have e:b=it:=by simpa using hb
    subst e
    obtain ⟨ok,ov,e⟩:=st
    exact ⟨_,e,fun v z=>by cases z⟩
  keep:=fun i h h' ⟨ok,ov,st⟩ k=>⟨ok,ov,k it (by simp) _ st⟩
  item:=by
    intro X hP hw hK hc i pins s σ H E I hf st hg
    subst hP hw hK
    obtain ⟨ok,ov,st⟩:=st
    obtain ⟨hd,hi⟩:=hg
    obtain ⟨vs,r,da⟩:=zo I hd
    have hl:=r.length
    have hkv:kvs[i]?=some kvs[i]:=aC hi
    obtain ⟨u,hu,ru⟩:=r.at_ hkv
    obtain ⟨f0,f1,f2,f3,f4,f5⟩:=hf it (by simp)
    rw [hl] at st
    refine wpAny_pyNext_items_item st da hu fun key h' hk hit' ht' hz' kp=>?_
    have I1:Inv X pins σ H {s with heap:=h'}:=I.turned (t':=s.toks) (fun b o hb e=>kp b o hb e) f0 f1 f3 f4 f5
    refine ⟨_,rfl,wpAny_letOwnedTupleGo_items hit' fun h2 hit2 sb=>?_⟩
    have I2:Inv X pins σ H {s with heap:=h2}:=I1.turned (t':=s.toks) (fun b o hb e=>sb.extBut b o hb e) f0 f1 f3 f4 f5
    have fr:H s.heap.objs.size=none:=I.hok.fresh (aE _)
    have nit:s.heap.objs.size≠it:=(aR (aQ st)).symm
    have e2:h2.get? s.heap.objs.size=some {cls:=.type "tuple",data:=.seq #[key,u]}:=sb.extBut _ _ nit ht'
    have I3:Inv X pins σ (upd H s.heap.objs.size (.tup [kV kvs[i].1,kvs[i].2])) {s with heap:=h2}:=by
      have kall:∀ b v,s.heap.get? b=some v->b≠it->h2.get? b=some v:=fun b v q n=>sb.extBut b v n (kp b v n q)
      exact ⟨I2.ok,I2.os,I2.bare,⟨I2.base.keep,I2.base.slot,fun b ob q n hx=>by
          have z:=I2.base.free b ob q n hx
          by_cases y:b=s.heap.objs.size
          · exfalso
            have lt:b < s.heap.objs.size:=aY (aQ q) I.sz
            rw [y] at lt
            exact absurd lt (fX _)
          · rw [aG y]
            exact z,I2.base.there,fun b xs q=>by
          rw [aG (aN (I2.base.tups b xs q) fr)]
          exact I2.base.tups b xs q,fun b ob v q=>by
          rw [aG (aN (I2.base.frzs b ob v q) fr)]
          exact I2.base.frzs b ob v q,fun b ps q=>by
          obtain ⟨m,z⟩:=I2.base.tbls b ps q
          exact ⟨m,by rw [aG (aN z fr)]; exact z⟩⟩,I2.loc,I2.cell,by
          rw [aG (aR I.lt)]
          exact I2.free,fun x c q=>by
          obtain ⟨v,y⟩:=I.cell x c q
          rw [aG (aR y.lt)]
          exact I2.freeC x c q,fun p hp=>by
          obtain ⟨h1,h2',h3⟩:=I2.pin p hp
          obtain ⟨g1,_⟩:=I.pin p hp
          refine ⟨h1,?_,h3⟩
          rw [aG (aR (aQ g1))]
          exact h2',fun b v q=>by
          by_cases y:b=s.heap.objs.size
          · subst y
            rw [ah] at q
            cases q
            exact ⟨(by show 2<=az; decide),[key,u],.cons (Jv hk) (.cons ru .nil),_,e2,rfl,0,rfl⟩
          · rw [aG y] at q
            exact (I2.hok b v q).stay (fun c v' _ z=>z) (fun c z=>by rw [aG (aN z fr)]; exact z) fun c xs z=>by rw [aG (aN z fr)]; exact z,I2.len⟩
    refine ⟨.ref s.heap.objs.size,_,I3,rfl,⟨_,_,rfl,fr,hkv,rfl⟩,⟨_,_,by rw [hl]; exact hit2⟩,fun b hb=>?_⟩
    have e:b=it:=by simpa using hb
    subst e
    rw [aG (cj nit)]
    exact f0
  done:=by
    intro X hP hw hK hc i pins s σ H E I hf st hg
    subst hP hw hK
    obtain ⟨ok,ov,st⟩:=st
    obtain ⟨hd,hi⟩:=hg
    obtain ⟨vs,r,da⟩:=zo I hd
    have hl:=r.length
    obtain ⟨f0,f1,f2,f3,f4,f5⟩:=hf it (by simp)
    rw [hl] at st
    exact wpAny_pyNext_items_end (I.ok.hd hc) st da (jo (by omega)) fun h' eb=>⟨rfl,I.turned (t':=s.toks) (fun b o hb e=>eb b o hb e) f0 f1 f3 f4 f5⟩
  self:=fun A i s Q E ⟨ok,ov,st⟩ h=>by
    have ty:s.TypeIs (.ref it) "dict_itemiterator":=⟨_,st,rfl⟩
    refine uv ty F.slot_dict_itemiterator_iter (jW F.slot_dict_itemiterator_iter ty q9 ?_ (F.args_dict_itemiterator_iter_1 _))
    show aS _ _ (ret (.ref it)) _ _ s
    exact aK ⟨_,rfl,"dict_itemiterator",_,ty,F.slot_dict_itemiterator_next.lookup,h⟩
end
section
variable {X:Cx} {o:cA} {to:TE} {apos cpos:Pos} {elts:List cA} {x1:Nat} {pos:Pos}
def Jw (X:Cx) (to:TE):TI:=fun σ H R=>to σ H fun x H1=>∃ d kvs,x=.ref d/\H1 d=some (.dK kvs)/\(∀ ob u,X.H₀ d≠some (.frz ob u))/\∀ od,R (Iti d od kvs) (upd H1 d (.frz od (.dK kvs)))
theorem DI (ho:PE X o to) (hbase:kj o "items" X.env (eP o X.env)=eP o X.env:=by rfl) (hline:(apos.endLine == cpos.line)=true:=by rfl):PI X (.Tuple elts x1 pos) (.Call (.Attribute o "items" apos) [] [] cpos) (Jw X to):=by
  intro pins s σ H R I h
  refine wpAny_Call_method0_late hbase hline (thn (ho pins s σ H _ I h) fun v s1 ⟨x,H1,I1,r1,d,kvs,ex,hd,nf,q⟩=>?_)
  subst ex
  cases r1
  obtain ⟨hz,n1,ws,k1,m1⟩:=(show dI X.prog X.w H1 s1.heap d (.dK kvs) from I1.hok d _ hd)
  obtain ⟨ob,_,_,g1,g2,_⟩:=id m1
  refine ⟨"dict","dict.items",va,vd,PySem.F.type_dict_items,m1.typeIs,fun a e=>?_,m6 rfl (PySem.evalArgs_none ?_)⟩
  · cases e
    exact ⟨ob,g1,g2.2.1⟩
  refine uq vd m1.typeIs PySem.F.entry_dict_items (PySem.F.args_dict_items_1 _) (meets_dict_items (eU X.prog X.w) d n1) ⟨⟨ws,m1⟩,?_⟩
  have I2:Inv X pins σ H1 {s1 with heap:=s1.heap.push {cls:=.type "dict_items",data:=.fields #[.ref d]}}:=I1.kept (t':=s1.toks) fun b ob q=>aI _ q
  obtain ⟨od,g3,I3⟩:=I2.freeze hd nf
  obtain ⟨vs,r,da⟩:=zo I3 (ah:upd H1 d (.frz od (.dK kvs)) d=_)
  refine wpAny_pyIter_items ⟨_,bX _ rfl,rfl,rfl⟩ da ?_
  have lt:=aQ g3
  refine ⟨_,[_],_,_,_,rfl,I3.kept (t':=s1.toks) fun b ob q=>aI _ q,zp d _ od kvs (aR lt),⟨.none,.none,?_⟩,fun b hb=>?_,q od⟩
  · rw [r.length]
    exact bX _ rfl
  · have e:b=_:=au.mp hb
    subst e
    exact I3.fpOk (aE _) (I3.hok.fresh (aE _))
end
theorem Bz {d:aa} {od:Obj} {kvs:List (Key×V)} {g:TG} {tb:TS} {D:jS} {σ:St} {H:Hp} (Pv:Nat->St->Hp->Prop) (h0:Pv 0 σ H) (hl:∀ i σ H,i<=kvs.length->Pv i σ H->H d=some (.frz od (.dK kvs)))
    (hs:∀ i kv t σ H,kvs[i]?=some kv->Pv i σ H->H t=none->g (.ref t) σ (upd H t (.tup [kV kv.1,kv.2])) fun σ2 H2=>tb {D with nx:=Pv (i + 1),ct:=Pv (i + 1),bk:=D.nx} σ2 H2) (hd:∀ σ H,Pv kvs.length σ H->D.nx σ H) :
    ∃ W:Nat->Nat->St->Hp->Prop,(∃ m,W 0 m σ H)/\∀ i m σ H,W i m σ H ->
      ((Iti d od kvs).stop i H/\D.nx σ H)\/((Iti d od kvs).go i H/\∃ N:St->Hp->Prop,(∀ σ' H',N σ' H'->∃ m',m' < m/\W (i + 1) m' σ' H')/\∀ x H',(Iti d od kvs).yld i H x H'->g x σ H' fun σ2 H2=>tb {D with nx:=N,ct:=N,bk:=D.nx} σ2 H2):=by
  refine ⟨fun i m σ H=>m=kvs.length - i/\i<=kvs.length/\Pv i σ H,⟨kvs.length,by simp,bA _,h0⟩,?_⟩
  rintro i m σ H ⟨rfl,hi,p⟩
  have q:=hl i σ H hi p
  by_cases lt:i < kvs.length
  · refine .inr ⟨⟨q,lt⟩,Pv (i + 1),fun σ' H' p'=>⟨kvs.length - (i + 1),by omega,rfl,lt,p'⟩,fun x H' y=>?_⟩
    obtain ⟨t,kv,rfl,ht,hk,rfl⟩:=y
    exact hs i kv t σ H hk p ht
  · have e:i=kvs.length:=by omega
    subst e
    exact .inl ⟨⟨q,aE _⟩,hd σ H p⟩
def Ij (X:Cx) (D:jS):jS where
  nx:=fun σ H=>∃ d od kvs,H d=some (.frz od (.dK kvs))/\(∀ ob u,X.H₀ d≠some (.frz ob u))/\D.nx σ (upd H d (.dK kvs))
  rt:=D.rt
  bk:=D.bk
  ct:=D.ct
theorem Gv {X:Cx} {st:cR} {t:TS} (h:PS X st t):PS X st (fun D σ H=>t (Ij X D) σ H):=by
  intro pins s σ H D I q
  refine thn (h pins s σ H (Ij X D) I q) fun fl s1 z=>?_
  cases fl with
  | next =>
    obtain ⟨σ',H',I',d,od,kvs,e,nf,y⟩:=z
    exact ⟨σ',_,I'.thaw e nf,y⟩
  | brk=>exact z
  | cont=>exact z
  | ret u=>exact z
end L2
namespace L2
open PySem PySem.Spec PyProof.Rows PySem.SeqAt
def BSc (x y:V) (b:Bool):Prop:=(∃ i j:Int,x=.int i/\y=.int j/\b=decide (i=j))\/∃ i j:Str,x=.str i/\y=.str j/\b=decide (i=j)
def BEq (H:Hp):Nat->V->V->Bool->Prop
  | 0,x,y,b=>BSc x y b
  | n + 1,x,y,b=>BSc x y b\/∃ p q xs ys,x=.ref p/\y=.ref q/\((H p=some (.lst xs)/\H q=some (.lst ys)/\xs.length≠ys.length/\b=false) \/
      (((H p=some (.lst xs)/\H q=some (.lst ys))\/(H p=some (.tup xs)/\H q=some (.tup ys)))/\xs.length=ys.length/\∃ e:Nat->Bool,(∀ i x y,xs[i]?=some x->ys[i]?=some y->BEq H n x y (e i))/\b=(kF xs.length).all e))
theorem BSc.self {x:V} {b:Bool} (h:BSc x x b):b=true:=by
  rcases h with ⟨i,j,e1,e2,rfl⟩ | ⟨i,j,e1,e2,rfl⟩
  · rw [e1] at e2
    cases e2
    exact decide_eq_true rfl
  · rw [e1] at e2
    cases e2
    exact decide_eq_true rfl
theorem BEq.self {H:Hp}:∀ {n:Nat} {x:V} {b:Bool},BEq H n x x b->b=true
  | 0,_,_,h=>BSc.self h
  | n + 1,x,b,h=>by
    rcases h with h | ⟨p,q,xs,ys,e1,e2,h⟩
    · exact h.self
    · rw [e1] at e2
      cases e2
      rcases h with ⟨h1,h2,h3,_⟩ | ⟨h1,_,e,he,rfl⟩
      · rw [h1] at h2
        cases h2
        exact absurd rfl h3
      · have exy:xs=ys:=by
          rcases h1 with ⟨h1,h2⟩ | ⟨h1,h2⟩
          · rw [h1] at h2
            cases h2
            rfl
          · rw [h1] at h2
            cases h2
            rfl
        subst exy
        rw [r9]
        intro i hi
        have lt:=uB.mp hi
        exact BEq.self (he i _ _ (aC lt) (aC lt))
section
variable {P:aO} {w:bj} {H:Hp} {s:ao}
theorem DJ {A:bN} {x y:V} {u v:ae} {b:Bool} (h:BSc x y b) (ru:RelV x u) (rv:RelV y v):EqAt A s u v b:=by
  rcases h with ⟨i,j,rfl,rfl,rfl⟩ | ⟨i,j,rfl,rfl,rfl⟩
  · obtain ⟨t,rfl⟩:=(show ∃ t,u=Value.int i t from ru)
    obtain ⟨t',rfl⟩:=(show ∃ t',v=Value.int j t' from rv)
    have z:=EqAt.int_int (A:=A) (s:=s) i t j t'
    have e:(i == j)=decide (i=j):=by
      by_cases c:i=j
      · rw [decide_eq_true c,beq_iff_eq.mpr c]
      · rw [decide_eq_false c,beq_eq_false_iff_ne.mpr c]
    rw [e] at z
    exact z
  · obtain ⟨t,rfl⟩:=(show ∃ t,u=Value.str i t from ru)
    obtain ⟨t',rfl⟩:=(show ∃ t',v=Value.str j t' from rv)
    have z:=EqAt.str_str (A:=A) (s:=s) i t j t'
    have e:(i == j)=decide (i=j):=by
      by_cases c:i=j
      · rw [decide_eq_true c,beq_iff_eq.mpr c]
      · rw [decide_eq_false c,beq_eq_false_iff_ne.mpr c]
    rw [e] at z
    exact z
theorem Jx (ok:HOk P w H s.heap) {A:bN} {n:Nat} {p q:aa} {xs ys:List V} {b:Bool} (hu:A.units < dW)
    (rec:∀ x y b,BEq H n x y b->∀ u v,RelV x u->RelV y v->EqAt A.in1 s u v b)
    (h:(H p=some (.lst xs)/\H q=some (.lst ys)/\xs.length≠ys.length/\b=false) \/
      (((H p=some (.lst xs)/\H q=some (.lst ys))\/(H p=some (.tup xs)/\H q=some (.tup ys)))/\xs.length=ys.length/\∃ e:Nat->Bool,(∀ i x y,xs[i]?=some x->ys[i]?=some y->BEq H n x y (e i))/\b=(kF xs.length).all e)):RcAt A s (.ref p) (.ref q) b:=by
  rcases h with ⟨h1,h2,h3,rfl⟩ | ⟨h1 | h1,hl,e,he,rfl⟩
  · obtain ⟨us,r1,i1⟩:=gO ok h1
    obtain ⟨vs,r2,i2⟩:=gO ok h2
    refine RcAt.lists_lengths i1 i2 ?_ hu
    rw [aA,aA,<- r1.length,<- r2.length]
    exact bne_iff_ne.mpr h3
  · obtain ⟨us,r1,i1⟩:=gO ok h1.1
    obtain ⟨vs,r2,i2⟩:=gO ok h1.2
    have l1:=r1.length
    have l2:=r2.length
    have k:=RcAt.lists (A:=A) (e:=e) i1 i2 (by rw [aA,aA]; omega) hu (fun j a b=>by
      have ja:j < us.length:=by simpa using a
      have jb:j < vs.length:=by simpa using b
      have hx:xs[j]?=some (xs[j]'(by omega)):=aC _
      have hy:ys[j]?=some (ys[j]'(by omega)):=aC _
      obtain ⟨u,hu',ru⟩:=r1.get hx
      obtain ⟨v,hv',rv⟩:=r2.get hy
      have eu:us[j]=u:=(aw.mp hu').2
      have ev:vs[j]=v:=(aw.mp hv').2
      have z:=rec _ _ _ (he j _ _ hx hy) u v ru rv
      simpa [eu,ev] using z)
    rw [aA,<- l1] at k
    exact k
  · obtain ⟨us,r1,i1⟩:=jn ok h1.1
    obtain ⟨vs,r2,i2⟩:=jn ok h1.2
    have l1:=r1.length
    have l2:=r2.length
    have k:=RcAt.tuples (A:=A) (e:=e) i1 i2 hu (fun j a b=>by
      have ja:j < us.length:=by simpa using a
      have jb:j < vs.length:=by simpa using b
      have hx:xs[j]?=some (xs[j]'(by omega)):=aC _
      have hy:ys[j]?=some (ys[j]'(by omega)):=aC _
      obtain ⟨u,hu',ru⟩:=r1.get hx
      obtain ⟨v,hv',rv⟩:=r2.get hy
      have eu:us[j]=u:=(aw.mp hu').2
      have ev:vs[j]=v:=(aw.mp hv').2
      have z:=rec _ _ _ (he j _ _ hx hy) u v ru rv
      simpa [eu,ev] using z)
    have es:(us.toArray.size == vs.toArray.size)=true:=by
      rw [aA,aA,<- l1,<- l2,hl]
      exact beq_self_eq_true _
    rw [es,Bool.and_true] at k
    have em:min us.toArray.size vs.toArray.size=xs.length:=by
      rw [aA,aA]
      omega
    first
      | (rw [em] at k; exact k)
      | (rw [aA,<- l1] at k; exact k)
theorem zq (ok:HOk P w H s.heap):∀ {n:Nat} {A:bN} {x y:V} {u v:ae} {b:Bool},A.units + n < dW->BEq H n x y b->RelV x u->RelV y v->EqAt A s u v b
  | 0,A,x,y,u,v,b,_,h,ru,rv=>DJ h ru rv
  | n + 1,A,x,y,u,v,b,hu,h,ru,rv=>by
    rcases id h with h' | ⟨p,q,xs,ys,rfl,rfl,h'⟩
    · exact DJ h' ru rv
    · cases ru
      cases rv
      by_cases e:p=q
      · subst e
        rw [BEq.self h]
        exact EqAt.same _
      · exact EqAt.of_refs e (Jx ok (by omega) (fun x y b z u v ru rv=>zq ok (by show A.units + 1 + n < dW; omega) z ru rv) h')
end
section
variable {X:Cx}
end
end L2
namespace L2
open PySem PySem.Spec PyProof.Rows
section
variable {X:Cx} {pins:List (aa×Obj)} {σ:St} {H:Hp} {s s2:ao} {h':cb}
theorem Inv.turned2 {t':Nat} {e it:aa} (I:Inv X pins σ H s) (k:∀ b o,b≠e->b≠it->s.heap.get? b=some o->h'.get? b=some o) (f:vM X pins H e) (g:vM X pins H it):Inv X pins σ H {s with heap:=h',toks:=t'}:=by
  have ne1:∀ b u,H b=some u->b≠e:=fun b u q z=>by rw [z,f.1] at q; cases q
  have ne2:∀ b u,H b=some u->b≠it:=fun b u q z=>by rw [z,g.1] at q; cases q
  obtain ⟨f0,f1,f2,f3,f4,f5⟩:=f
  obtain ⟨g0,g1,g2,g3,g4,g5⟩:=g
  refine I.step (g':=s.gens) (d':=s.drawn) (ch:=[e,it]) (fun b hb=>?_) (fun b o _ _ hc q _=>k b o (fun z=>hc (by simp [z])) (fun z=>hc (by simp [z])) q) (fun b o _ _ hc q _=>⟨o.slots,k b o (fun z=>hc (by simp [z])) (fun z=>hc (by simp [z])) q⟩) (fun _ _ _ _ n=>n)
    (fun b o hc q=>⟨o,k b o (fun z=>hc (by simp [z])) (fun z=>hc (by simp [z])) q⟩) (fun _ _ q=>q) (fun _ _ _ q=>q) (fun b ps q=>⟨#[],by rw [q]; simp⟩) (fun m hm=>?_) (fun b u q=>?_) I.bare
  · rcases ak.mp hb with z | z
    · subst z
      exact ⟨f3,f1,f4,f5⟩
    · have z:=au.mp z
      subst z
      exact ⟨g3,g1,g4,g5⟩
  · obtain ⟨o,es,ep,ho,r⟩:=hm
    exact ⟨o,es,ep,k _ o (cj f1) (cj g1) ho,r⟩
  · refine (I.hok b u q).stay (fun c v hc q'=>k c v ?_ ?_ q') (fun _ q=>q) fun _ _ q=>q
    · rcases hc with z | z
      · rw [z]; exact ne1 b u q
      · exact ne1 c _ z
    · rcases hc with z | z
      · rw [z]; exact ne2 b u q
      · exact ne2 c _ z
theorem Inv.track {o:HO} (I:Inv X pins σ H s) (I2:Inv X pins σ H s2) (ok:dI X.prog X.w (upd H s.heap.objs.size o) s2.heap s.heap.objs.size o):Inv X pins σ (upd H s.heap.objs.size o) s2:=by
  have fr:H s.heap.objs.size=none:=I.hok.fresh (aE _)
  exact ⟨I2.ok,I2.os,I2.bare,⟨I2.base.keep,I2.base.slot,fun b ob q n hx=>by
      have z:=I2.base.free b ob q n hx
      by_cases y:b=s.heap.objs.size
      · exfalso
        have lt:b < s.heap.objs.size:=aY (aQ q) I.sz
        rw [y] at lt
        exact absurd lt (fX _)
      · rw [aG y]
        exact z,I2.base.there,fun b xs q=>by
      rw [aG (aN (I2.base.tups b xs q) fr)]
      exact I2.base.tups b xs q,fun b ob v q=>by
      rw [aG (aN (I2.base.frzs b ob v q) fr)]
      exact I2.base.frzs b ob v q,fun b ps q=>by
      obtain ⟨m,z⟩:=I2.base.tbls b ps q
      exact ⟨m,by rw [aG (aN z fr)]; exact z⟩⟩,I2.loc,I2.cell,by
      rw [aG (aR I.lt)]
      exact I2.free,fun x c q=>by
      obtain ⟨v,y⟩:=I.cell x c q
      rw [aG (aR y.lt)]
      exact I2.freeC x c q,fun p hp=>by
      obtain ⟨h1,h2',h3⟩:=I2.pin p hp
      obtain ⟨g1,_⟩:=I.pin p hp
      refine ⟨h1,?_,h3⟩
      rw [aG (aR (aQ g1))]
      exact h2',fun b v q=>by
      by_cases y:b=s.heap.objs.size
      · subst y
        rw [ah] at q
        cases q
        exact ok
      · rw [aG y] at q
        exact (I2.hok b v q).stay (fun c v' _ z=>z) (fun c z=>by rw [aG (aN z fr)]; exact z) fun c xs z=>by rw [aG (aN z fr)]; exact z,I2.len⟩
end
def Ite (K:af) (a:aa):It:=
  ⟨fun i H=>∃ xs x,SqL K H a xs/\xs[i]?=some x,fun i H x H'=>∃ t y,x=.ref t/\H t=none/\(∀ xs,SqL K H a xs->xs[i]?=some y)/\H'=upd H t (.tup [.int i,y]),fun i H=>∃ xs,SqL K H a xs/\xs.length<=i⟩
section
variable {P:aO} {w:bj} {K:af}
theorem BA {elts:List cA} {x1} {pos:Pos} (a e it:aa) (hne:e≠it):Bb P w K (.Tuple elts x1 pos) (Ite K a) [e,it] e (fun i h=>∃ old,IsEnum h e it (i:Int) old/\h.IsListIter it a i) where
  mem:=by simp
  obj:=fun i h st b hb=>by
    obtain ⟨old,h1,h2⟩:=st
    rcases ak.mp hb with z | z
    · subst z
      exact ⟨_,h1,fun v z=>by cases z⟩
    · have z:=au.mp z
      subst z
      obtain ⟨o,e,c,d⟩:=h2
      exact ⟨o,e,fun v z=>by rw [d] at z; cases z⟩
  keep:=fun i h h' ⟨old,h1,h2⟩ k=>⟨old,k e (by simp) _ h1,h2.at fun o q=>k it (by simp) o q⟩
  item:=by
    intro X hP hw hK hc i pins s σ H E I hf st hg
    subst hP hw hK
    obtain ⟨old,st1,st2⟩:=st
    obtain ⟨xs,x,hq,hx⟩:=hg
    obtain ⟨its,rv,p,hz⟩:=I.list hq
    obtain ⟨u,hu,ru⟩:=rv.get hx
    have F1:=hf e (by simp)
    have F2:=hf it (by simp)
    obtain ⟨f0,f1,f2,f3,f4,f5⟩:=id F1
    refine wpAny_pyNext_enum_item st1 st2 p.isList (x:=u) (by simpa using hu) hne fun h' a1 a2 a3 a4 a5=>?_
    have I1:Inv X pins σ H {s with heap:=h',toks:=s.toks + 1}:=I.turned2 (t':=s.toks + 1) (fun b o h1 h2 q=>a5 b o h1 h2 q) F1 F2
    refine ⟨_,rfl,wpAny_letOwnedTupleGo_enum a1 fun h2 e2 sb=>?_⟩
    have I2:Inv X pins σ H {s with heap:=h2,toks:=s.toks + 1}:=I1.turned (t':=s.toks + 1) (fun b o hb q=>sb.extBut b o hb q) f0 f1 f3 f4 f5
    have fr:H s.heap.objs.size=none:=I.hok.fresh (aE _)
    have n1:s.heap.objs.size≠e:=(aR (aQ st1)).symm
    have n2:s.heap.objs.size≠it:=by
      obtain ⟨o,q,_⟩:=st2
      exact (aR (aQ q)).symm
    have t2:=sb.extBut _ _ n1 a3
    have I3:=I.track I2 (o:=.tup [.int i,x]) ⟨(by show 2<=az; decide),[.int i s.toks,u],.cons ⟨_,rfl⟩ (.cons ru .nil),_,t2,rfl,0,rfl⟩
    refine ⟨.ref s.heap.objs.size,_,I3,rfl,⟨_,x,rfl,fr,fun ys hy=>by rw [I.list_inj hy hq]; exact hx,rfl⟩,⟨u,e2,a2.extBut sb.extBut (cj hne)⟩,fun b hb=>?_⟩
    rcases ak.mp hb with z | z
    · rw [z,aG (cj n1)]
      exact f0
    · rw [au.mp z,aG (cj n2)]
      exact F2.1
  done:=by
    intro X hP hw hK hc i pins s σ H E I hf st hg
    subst hP hw hK
    obtain ⟨old,st1,st2⟩:=st
    obtain ⟨xs,hq,hx⟩:=hg
    obtain ⟨its,rv,p,hz⟩:=I.list hq
    obtain ⟨f0,f1,f2,f3,f4,f5⟩:=hf it (by simp)
    have hl:=rv.length
    exact wpAny_pyNext_enum_end (I.ok.hd hc) st1 st2 p.isList (by simp; omega) fun h' eb=>⟨rfl,I.turned (t':=s.toks) (fun b o hb e=>eb b o hb e) f0 f1 f3 f4 f5⟩
  self:=fun A i s Q E ⟨old,st,_⟩ h=>by
    have ty:s.TypeIs (.ref e) "enumerate":=⟨_,st,rfl⟩
    refine uv ty F.slot_enumerate_iter (jW F.slot_enumerate_iter ty F.entry_enumerate_iter ?_ (F.args_enumerate_iter_1 _))
    show aS _ _ (ret (.ref e)) _ _ s
    exact aK ⟨_,rfl,"enumerate",_,ty,F.slot_enumerate_next.lookup,h⟩
end
section
variable {X:Cx} {elts:List cA} {x1:Nat} {tpos pos p:Pos}
def Ik (K:af) (tl:TA):TI:=fun σ H R=>tl σ H fun vs H1=>∃ a,vs=[.ref a]/\(∃ xs,SqL K H1 a xs)/\R (Ite K a) H1
theorem Ap {a:cA} {ta:TA} (hg:Gl X "enumerate") (hm:X.mg "enumerate"=none) (ha:PA X [a] ta) (hs:bU [a] X.env=[(false,eP a X.env)]:=by rfl):PI X (.Tuple elts x1 tpos) (.Call (.Name "enumerate" p) [a] [] pos) (Ik X.K ta):=by
  intro pins s σ H R I h
  refine Call_ (qG I hg hm boot_enumerate (gG (thn (ha pos pins s σ H _ I h) fun us s1 ⟨vs,H1,I1,r1,q1⟩=>?_) hs rfl))
  obtain ⟨l,e,⟨xs,hq⟩,q⟩:=q1
  subst e
  obtain ⟨u,rfl,ru⟩:=vals1 r1
  cases ru
  obtain ⟨its,rv,pl,hz⟩:=I1.list hq
  refine call_enumerate_list pl.isList fun h' e1 e2 e3 e4=>?_
  have I2:Inv X pins σ H1 {s1 with heap:=h'}:=I1.kept (t':=s1.toks) e4
  have ty:({s1 with heap:=h'}:ao).TypeIs (.ref (s1.heap.objs.size + 1)) "enumerate":=⟨_,e1,rfl⟩
  refine uv ty F.slot_enumerate_iter (jW F.slot_enumerate_iter ty F.entry_enumerate_iter ?_ (F.args_enumerate_iter_1 _))
  show aS _ _ (ret (.ref (s1.heap.objs.size + 1))) _ _ _
  refine aK ⟨_,rfl,"enumerate",_,ty,F.slot_enumerate_next.lookup,?_⟩
  refine ⟨_,[_,_],_,_,H1,rfl,I2,BA l _ s1.heap.objs.size (Nat.succ_ne_self _),⟨.none,e1,e2⟩,fun b hb=>?_,q⟩
  rcases ak.mp hb with z | z
  · rw [z]
    exact I1.fpOk (lY _) (I1.hok.fresh (lY _))
  · rw [au.mp z]
    exact I1.fpOk (aE _) (I1.hok.fresh (aE _))
theorem BB {K:af} {a:aa} {xs:List V} {n:Nat} {g:TG} {tc:TT} {te:TE} {σ:St} {H:Hp} {Q:VK} (Pv:Nat->List V->Hp->Prop) (h0:Pv 0 [] H) (hl:∀ i ys H,i<=xs.length->Pv i ys H->SqL K H a xs/\ys.length < az)
    (hs:∀ i x t ys H,xs[i]?=some x->Pv i ys H->H t=none->g (.ref t) (b7 n none++σ) (upd H t (.tup [.int i,x])) fun σ2 H2=>σ2.drop n=σ/\tc σ2 H2 fun b H3=>if b=true then te σ2 H3 fun y H4=>Pv (i + 1) (ys++[y]) H4 else Pv (i + 1) ys H3)
    (hd:∀ ys H,Pv xs.length ys H->∀ p,H p=none->Q (.ref p) (upd H p (.lst ys))) :
    ∃ W:Nat->Nat->List V->Hp->Prop,(∃ m,W 0 m [] H)/\∀ i m ys H,W i m ys H->ys.length < az/\(((Ite K a).stop i H/\∀ p,H p=none->Q (.ref p) (upd H p (.lst ys))) \/
      ((Ite K a).go i H/\∃ N:List V->Hp->Prop,(∀ ys' H',N ys' H'->∃ m',m' < m/\W (i + 1) m' ys' H')/\∀ x H',(Ite K a).yld i H x H'->g x (b7 n none++σ) H' fun σ2 H2=>σ2.drop n=σ/\tc σ2 H2 fun b H3 =>
        if b=true then te σ2 H3 fun y H4=>N (ys++[y]) H4 else N ys H3)):=by
  refine ⟨fun i m ys H=>m=xs.length - i/\i<=xs.length/\Pv i ys H,⟨xs.length,by simp,bA _,h0⟩,?_⟩
  rintro i m ys H ⟨rfl,hi,p⟩
  obtain ⟨q,z⟩:=hl i ys H hi p
  refine ⟨z,?_⟩
  by_cases hlt:i < xs.length
  · refine .inr ⟨⟨xs,xs[i],q,by simp [hlt]⟩,Pv (i + 1),fun ys' H' p'=>⟨xs.length - (i + 1),by omega,rfl,hlt,p'⟩,fun x H' y=>?_⟩
    obtain ⟨t,v,rfl,ht,hv,rfl⟩:=y
    exact hs i v t ys H (hv xs q) p ht
  · have e:i=xs.length:=by omega
    subst e
    exact .inl ⟨⟨xs,q,aE _⟩,hd ys H p⟩
end
section
variable {prog:aO} {w:bj} {A:bN} {E:ae->ao->Prop} {s:ao}
end
section
variable {X:Cx} {e:cA} {t:TA} {p pos kp bp:Pos} {j:Nat}
end
section
variable {X:Cx}
def tTryE (T:aa->St->Hp->Prop) (tb:TS) (th:TH) (te:TS):TS:=fun D σ H=>tb {D with nx:=te D} σ H/\∀ C σ' H',σ'.length=σ.length->T C σ' H'->th C D σ' H'
theorem Gw {body orelse:List cR} {h₀:rW} {hs:List rW} {pos:Pos} {tb te:TS} {th:TH} (T:aa->St->Hp->Prop) (hb:∀ pins,PSs (X.tr pins T) body tb) (hh:PHs X (h₀ :: hs) th) (ho:PSs X orelse te)
    (hst:X.stack=X.env :: X.outer:=by rfl) (hfr:X.env.frame=some X.env.locals:=by rfl):PS X (.Try body (h₀ :: hs) orelse [] pos) (tTryE T tb th te):=by
  intro pins s σ H D I h
  obtain ⟨h1,h2⟩:=h
  refine wpAny_Try_except (dv (hb pins [] s σ H {D with nx:=te D} (I.tr T) h1) (fun f s1 q=>?_) (fun e s1 q=>?_))
  · cases f with
    | next=>obtain ⟨σ',H',J,q⟩:=q; exact ho pins s1 σ' H' D J.untr q
    | ret v=>obtain ⟨v,σ',H',J,r,q⟩:=q; exact ⟨v,σ',H',J.untr,r,q⟩
    | brk=>obtain ⟨σ',H',J,q⟩:=q; exact ⟨σ',H',J.untr,q⟩
    | cont=>obtain ⟨σ',H',J,q⟩:=q; exact ⟨σ',H',J.untr,q⟩
  · obtain ⟨ea,C,B,σ',H',rfl,J,fl,cov,t⟩:=q
    have fl1:FlD B (X.env :: X.outer) ea (.ref C) .none s1.heap:=by
      rw [<- hst]
      exact fl
    refine Af (by rw [J.ok.frames,hst]) hfr fl1 fun h4 x4 s4=>?_
    refine qf x4 fun h5 fl5 s5=>?_
    have J5:=J.landed fl5.1 cov (s4.trans s5)
    rw [<- hst] at fl5
    exact hh pins _ σ' H' D ea C B J5 fl5 (v5.land J fl5.1 cov) (h2 C σ' H' (by rw [J.len,I.len]) t)
end
abbrev xU (A:bN):bN:={A with handled:=none}
structure n9 (P:aO) (w:bj) (K:af) (mg:Str->Option ae) (base:cb) (CX:CXT) (k:Nat) (f:aa) (fd:bG) (ps:List Str) (sp:Sp):Prop where
  len:∀ vs H Q E,sp vs H Q E->vs.length=ps.length
  run:∀ (A:bN) (outer:List Env) (s:ao) (H:Hp) (args:Args) (us:List ae) (vs:List V) (Q:VK) (E:XK),dN k (xU A)->vP P w K mg base A outer s H->rj s fd args (ps.zip us)->cY vs us->sp vs H Q E ->
    ki (bb P w) A (.call (.ref f) args) (CR CX outer P w H s Q E) s
theorem Jy {CX:CXT} {P:aO} {w:bj} {K:af} {mg:Str->Option ae} {base:cb} {k:Nat} {f:aa} {name qual:Str} {params:Arguments} {body:List cR} {scope:kl} {dV kV doc pm cdv ct oc:ae} {an od:Option aa}
    {osl:Array (Option ae)} {N ps:List Str} {sp:Sp} (lk:K.lookup f=some ⟨oc,od,.func (eJ name qual params body scope dV kV doc pm an cdv ct),osl⟩) (hcd:iM K cdv qual=true) (S:bD N ps scope)
    (len:∀ vs H Q E,sp vs H Q E->vs.length=ps.length)
    (hbody:∀ (A:bN) (outer:List Env) (s:ao) (H:Hp) (vs:List V) (Q:VK) (E:XK),sp vs H Q E ->
      ∃ t,PSs {qM CX P w K mg base N qual scope f cdv A outer s H E with calm:=false} body t/\t {nx:=fun _ H'=>Q .non H',rt:=Q} (start N vs) H) :
    n9 P w K mg base CX (k + 1) f (eJ name qual params body scope dV kV doc pm an cdv ct) ps sp:=by
  refine ⟨len,fun A outer s H args us vs Q E hr e0 hb r hsp=>?_⟩
  have hl:=len _ _ _ _ hsp
  have KX:K.In s.heap:=e0.mod.kin.keeps fun b o e=>(e0.bs b o e).1
  have lim:s.heap.NoLimit:=e0.mod.nolimit.keeps fun b o e=>(e0.bs b o e).1
  have hkind:∀ y∈ps.zip us,scope.names.lookup y.1=some .local\/(scope.names.lookup y.1=some .cell/\((B8 (s.heap.objs.size + 1) scope.names []).lookup y.1).isSome=true):=fun ⟨n,v⟩ hy=>by
    rcases S.par n (nN hy).1 with q | q
    · exact .inl q
    · exact .inr ⟨q,mm _ _ _ (.inl q)⟩
  refine Fu (A:=A) hr.depth (KX _ _ lk) rfl S.co S.gen rfl (yZ KX hcd) (hb _ _ _ _ ?_)
  refine y8 S.kind hkind fun env he s1 x=>?_
  subst he
  refine ⟨lim.keeps x.toInCall.keep,codeAny_func ?_⟩
  obtain ⟨t,ht,hq⟩:=hbody A outer s H vs Q E hsp
  have e1:vP P w K mg base (xU A) outer s H:=⟨e0.frames,e0.mod,e0.bs,e0.bsz,e0.funs,e0.frf,e0.hok,e0.bare⟩
  have I0:Inv (qM CX P w K mg base N qual scope f cdv (xU A) outer s H E) [] (start N vs) H s1:=uN S rfl e1 hl r x
  have I:Inv {qM CX P w K mg base N qual scope f cdv A outer s H E with calm:=false} [] (start N vs) H s1:=
    ⟨⟨I0.ok.mod,I0.ok.kind,I0.ok.glob,I0.ok.blt,I0.ok.above,I0.ok.inj,I0.ok.has,I0.ok.cab,fun z=>rV z,I0.ok.frames,I0.ok.stk,I0.ok.exf,I0.ok.bs,I0.ok.bsz,I0.ok.noex,I0.ok.exfs,I0.ok.funs,I0.ok.frf⟩,I0.os,I0.bare,I0.base,I0.loc,I0.cell,I0.free,I0.freeC,I0.pin,I0.hok,I0.len⟩
  refine dv (ht [] s1 (start N vs) H _ I hq) (fun fl s' hs=>?_) fun e s' hs=>hs
  have fin:∀ {σ':St} {H':Hp} {v:V} {u:ae},Inv {qM CX P w K mg base N qual scope f cdv A outer s H E with calm:=false} [] σ' H' s'->RelV v u->Q v H'->CE outer P w H s Q u s':=
    fun {σ' H' v u} J rv q=>⟨v,H',J.os,J.bare,J.base,J.hok,rv,q⟩
  cases fl with
  | ret u =>
    obtain ⟨v,σ',H',J,rv,q⟩:=hs
    exact fin J rv q
  | next =>
    obtain ⟨σ',H',J,q⟩:=hs
    exact fin (v:=V.non) (u:=Value.none) J rfl q
  | brk =>
    obtain ⟨_,_,_,q⟩:=hs
    exact cV q
  | cont =>
    obtain ⟨_,_,_,q⟩:=hs
    exact cV q
theorem Fun.okH {P:aO} {w:bj} {K:af} {mg:Str->Option ae} {base:cb} {x qual:Str} {st:cR} {f:aa} {fd:bG} {N ps:List Str} {k:Nat} {sp:Sp} (F:Fun K x qual st f fd) (S:bD N ps (aP st)) (len:∀ vs H Q E,sp vs H Q E->vs.length=ps.length)
    (hbody:∀ (cdv:ae) (A:bN) (outer:List Env) (s:ao) (H:Hp) (vs:List V) (Q:VK) (E:XK),sp vs H Q E ->
      ∃ t,PSs {qM CX0 P w K mg base N qual (aP st) f cdv A outer s H E with calm:=false} (iA st) t/\t {nx:=fun _ H'=>Q .non H',rt:=Q} (start N vs) H):n9 P w K mg base CX0 (k + 1) f fd ps sp:=by
  obtain ⟨oc,od,kV,doc,pm,an,cdv,ct,osl,rfl,lk,hcd⟩:=F.ex
  exact Jy lk hcd S len fun A outer s H vs Q E hsp=>hbody cdv A outer s H vs Q E hsp
theorem Gx {X:Cx} {CX:CXT} {k:Nat} {f:aa} {fd:bG} {ps:List Str} {sp:Sp} {E:XK} {pins:List (aa×Obj)} {σ:St} {H:Hp} {s:ao} {Q:VK} {us:List ae} {vs:List V} (F:n9 X.prog X.w X.K X.mg X.base CX k f fd ps sp) (hr:dN k (xU X.A)) (hb:Binds X.K fd ps []) (hx:jy CX X E)
    (I:Inv X pins σ H s) (r:cY vs us) (h:sp vs H Q E):aS (bb X.prog X.w) X.A (vN (.ref f) us) (EP X pins σ Q) X.xe s:=by
  have hl:(us++[]).length=ps.length:=by rw [cW,<- r.length]; exact F.len _ _ _ _ h
  have hb1:=hb s us I.kIn hl
  rw [cW] at hb1
  refine yY (lI (F.run X.A X.stack s H ⟨us,[]⟩ us vs Q E hr I.env0 hb1 r h) fun r s' hq=>?_)
  cases r with
  | error e=>exact hx pins σ H s e s' I hq
  | ok fl =>
    cases fl with
    | ret u=>exact I.after hq
    | next=>exact cV hq
    | brk=>exact cV hq
    | cont=>exact cV hq
section
variable {X:Cx} {CX:CXT} {k:Nat} {ι:Type} {fm C:ι->aa} {fd:ι->bG} {ps:List Str} {sp:ι->Sp} {E:XK} {m:Str} {pos apos:Pos} {o:cA} {ta:TE}
def Gy (C:ι->aa) (sp:ι->Sp) (E:XK) (ta:TE):TE:=fun σ H Q=>ta σ H fun x H1=>∃ a i,x=.ref a/\H1 a=some (XO a (C i))/\sp i [.ref a] H1 Q E
theorem BC {pl:Sem Bool} (he:PE X o ta) (c:∀ i,ur X.K (C i)) (hm:∀ i,gu X.K (C i) m (fm i)) (F:∀ i,n9 X.prog X.w X.K X.mg X.base CX k (fm i) (fd i) ps (sp i)) (hr:dN k (xU X.A)) (hb:∀ i,Binds X.K (fd i) ps []) (hx:jy CX X E)
    (ht:eP (.Call (.Attribute o m apos) [] [] pos) X.env=(do
      let ov <- eP o X.env
      nh apos.atName
      let (f,first) <- jx [ov] (jV ov m pl)
      ua pos f first (gP pos (bU [] X.env)) (oX pos (iZ [] X.env))):=by rfl) :
    PE X (.Call (.Attribute o m apos) [] [] pos) (Gy C sp E ta):=by
  intro pins s σ H Q I h
  refine gQ (pl:=pl) (thn (he pins s σ H _ I h) fun u s1 ⟨x,H1,I1,rx,a,i,ex,ea,q⟩=>?_) ht
  subst ex
  obtain rfl:u=Value.ref a:=rx
  obtain ⟨ox,J⟩:=(Jq I1.hok ea).inst
  refine Dw I1.kIn J (c i) (hm i).at_ (beq_iff_eq.mp (hm i).fn) ?_
  exact oY (first:=[.ref a]) I1.kIn (hm i).kp (Gx (us:=[.ref a]) (vs:=[.ref a]) (F i) hr (hb i) hx I1 (.cons rfl .nil) q)
end
end L2
namespace L2
open PySem PySem.Spec PyProof.Rows PySem.SeqAt
section
variable {X:Cx}
def Jz:V->V->Hp->VK->Prop:=fun x y H Q=>∃ n p q xs ys,n<=20/\x=.ref p/\y=.ref q/\H p=some (.tup xs)/\H q=some (.tup ys)/\∃ e:Nat->Bool,(∀ i x y,xs[i]?=some x->ys[i]?=some y->BEq H n x y (e i))/\Q (.bl ((kF (min xs.length ys.length)).all e && xs.length == ys.length)) H
theorem DK (hu:X.A.units + 50 < dW):OpR X (fh .Eq) Jz:=by
  intro pins s σ H x y v u Q I rx ry h
  obtain ⟨n,p,q,xs,ys,hn,rfl,rfl,h1,h2,e,he,k⟩:=h
  cases rx
  cases ry
  have fin:EP X pins σ Q (.bool ((kF (min xs.length ys.length)).all e && xs.length == ys.length)) s:=⟨.bl _,H,I,rfl,k⟩
  obtain ⟨us,r1,i1⟩:=jn I.hok h1
  obtain ⟨vs,r2,i2⟩:=jn I.hok h2
  have l1:=r1.length
  have l2:=r2.length
  have k:=RcAt.tuples (A:=X.A) (e:=e) i1 i2 (by omega) (fun j a b=>by
    have ja:j < us.length:=by simpa using a
    have jb:j < vs.length:=by simpa using b
    have hx:xs[j]?=some (xs[j]'(by omega)):=aC _
    have hy:ys[j]?=some (ys[j]'(by omega)):=aC _
    obtain ⟨u,hu',ru⟩:=r1.get hx
    obtain ⟨v,hv',rv⟩:=r2.get hy
    have eu:us[j]=u:=(aw.mp hu').2
    have ev:vs[j]=v:=(aw.mp hv').2
    have z:=zq (A:=X.A.in1) I.hok (by show X.A.units + 1 + n < dW; omega) (he j _ _ hx hy) ru rv
    simpa [eu,ev] using z)
  rw [aA,aA,<- l1,<- l2] at k
  exact k X.prog X.w _ _ fin
end
end L2
namespace HT
open PySem PyProof.Rows
open PySem.SeqAt
open PySem.AutoSeq1 (wpAny_loadPart')
open PySem.MeetsSeq PySem.MeetsSeq2 PySem.MeetsSeq3
def RmAt (A:bN) (s:ao) (its:Array ae) (x:ae) (j:Nat):Prop:=∀ m (h:m < its.size),m<=j->EqAt A s its[m] x (decide (m=j))
theorem xV (l:aa) (its:Array ae) (n:Nat) (x:ae) (j:Nat) (hj:j < its.size) (hz:its.size<=az) :
    ∀ (d i:Nat),i + d=j->Meets (gW.«list.remove.loop» ⟨[.ref l,x,pE i],[]⟩)
      (fun A R s=>(s.heap.get? l=some ⟨.type "list",none,.seq its n,#[]⟩/\RmAt A.in1 s its x j)/\R (.ok (.ret .none)) {s with heap:=s.heap.update l (lz fun ys=>ys.eraseIdxIfInBounds j)})
  | 0,i,e=>by
    intro prog w A R s h
    obtain ⟨hp,g,dd,tk,os⟩:=s
    obtain ⟨⟨hl,he⟩,h⟩:=h
    have ei:i=j:=by omega
    subst ei
    have hi:its[((i:Nat):Int).toNat]?=some its[i]:=by simp [hj]
    have small:(its.eraseIdxIfInBounds i).size<=az + 1:=cv (size_erased its _) (by omega)
    have q:=he i hj (aE _)
    rw [decide_eq_true rfl] at q
    wp_walk using cP hl
    rw [hi]
    refine ag (q prog w _ _ ?_)
    wp_walk using (pR hl rfl (hz:=hz) (_hz':=small)),cP hl
    simpa using h
  | d + 1,i,e=>by
    intro prog w A R s h
    obtain ⟨hp,g,dd,tk,os⟩:=s
    obtain ⟨⟨hl,he⟩,h⟩:=h
    have li:i < its.size:=by omega
    have hi:its[((i:Nat):Int).toNat]?=some its[i]:=by simp [li]
    have up:((i:Int) + 1)=((i + 1:Nat):Int):=by omega
    have q:=he i li (by omega)
    rw [decide_eq_false (show ¬ i=j by omega)] at q
    wp_walk using cP hl
    rw [hi]
    refine ag (q prog w _ _ ?_)
    wp_walk
    rw [up]
    refine ⟨ig plain_remove_loop _,eZ entry_remove_loop ?_⟩
    rw [d6 plain_remove_loop _]
    exact xV l its n x j hj hz d (i + 1) (by omega) prog w A R _ ⟨⟨hl,he⟩,h⟩
theorem rm_all (l:aa) (its:Array ae) (n:Nat) (x:ae) (j:Nat) (hj:j < its.size) (hz:its.size<=az) :
    Meets (gW.«list.remove» ⟨[.ref l,x],[]⟩)
      (fun A R s=>(s.heap.get? l=some ⟨.type "list",none,.seq its n,#[]⟩/\RmAt A.in1 s its x j)/\R (.ok (.ret .none)) {s with heap:=s.heap.update l (lz fun ys=>ys.eraseIdxIfInBounds j)}):=by
  intro prog w A R s h
  obtain ⟨hp,g,dd,tk,os⟩:=s
  obtain ⟨⟨hl,he⟩,h⟩:=h
  wp_walk using cP hl
  refine ⟨ig plain_remove_loop _,eZ entry_remove_loop ?_⟩
  rw [d6 plain_remove_loop _]
  exact xV l its n x j hj hz j 0 (by omega) prog w A R _ ⟨⟨hl,he⟩,h⟩
end HT
namespace L2
open PySem PySem.Spec PyProof.Rows
section
variable {X:Cx}
def Gz:V->List V->Hp->VK->Prop:=fun x vs H Q=>∃ l xs y j n,x=.ref l/\vs=[y]/\H l=some (.lst xs)/\j < xs.length/\n<=20/\(∀ m z,m<=j->xs[m]?=some z->BEq H n z y (decide (m=j)))/\Q .non (upd H l (.lst (xs.eraseIdx j)))
theorem BD (hu:X.A.units + 50 < dW):MtM X "list.remove" Gz:=by
  intro pins s σ H x vs v us Q I rx rv h
  obtain ⟨l,xs,y,j,nn,rfl,rfl,hH,hj,hn,hb,q⟩:=h
  cases rx
  obtain ⟨u,rfl,ru⟩:=rv.one
  obtain ⟨z,its,n,r,hl,e⟩:=I.lstM hH
  have ll:=r.length
  have hit:HT.RmAt X.A.in1 s its.toArray u j:=fun m hm hmj=>by
    have lm:m < its.length:=by simpa using hm
    have lx:m < xs.length:=by omega
    obtain ⟨w',hw,rw'⟩:=r.get (aC lx)
    have ew:its.toArray[m]=w':=by
      have:=(aw.mp hw).2
      simpa using this
    rw [ew]
    exact zq I.hok (by show X.A.units + 1 + nn < dW; omega) (hb m _ hmj (aC lx)) rw' ru
  refine pI F.slot_list_remove ⟨_,e,rfl⟩ F.entry_list_remove (F.args_list_remove_2 _ _) (HT.rm_all l its.toArray n u j (by rw [aA]; omega) (by rw [aA]; omega)) ⟨⟨e,hit⟩,?_⟩
  refine ⟨.non,_,I.lset (its':=its.eraseIdx j) hH e ?_ (r.eraseIdx j) ?_,rfl,q⟩
  · simp
  · rw [Aq]
    split <;> omega
end
end L2
namespace My
open PySem L2
def top (i:Nat):cR:=PySem.Challenge.pw_momentloom_k27_runs_by_calendars_end.main.body.getD i (.Pass ⟨0,0,0,0⟩)
abbrev lC:cR:=dA (top 3) 0
abbrev mx:cR:=dA (top 4) 0
abbrev oa:cR:=dA (top 5) 0
abbrev pK:cR:=dA (top 6) 0
abbrev og:cR:=dA (top 7) 0
abbrev oh:cR:=dA (top 8) 0
abbrev j0:cR:=top 10
abbrev fy:cR:=top 11
abbrev gm:cR:=top 12
abbrev dC:cR:=top 13
abbrev mz:cR:=dA (top 15) 0
abbrev iE:cR:=dA (top 15) 1
abbrev eK:cR:=dA (top 15) 2
abbrev dY:cR:=dA (top 15) 3
abbrev gs:cR:=dA (top 15) 4
abbrev wz:cR:=top 16
abbrev mB:cR:=top 17
abbrev gK:cR:=top 18
abbrev kQ:cR:=top 19
abbrev gZ:cR:=top 20
abbrev lM:cR:=top 21
abbrev lN:cR:=top 22
abbrev lO:cR:=top 23
abbrev lP:cR:=top 24
abbrev lQ:cR:=top 25
abbrev lR:cR:=top 27
abbrev mC:cR:=dA (top 28) 0
abbrev iO:cR:=dA (top 29) 0
abbrev iP:cR:=dA (top 29) 1
abbrev i5:cR:=top 30
abbrev fJ:cR:=top 32
abbrev j1:cR:=top 33
abbrev ia:cR:=top 34
abbrev oj:cR:=dA (top 36) 0
abbrev fK:cR:=top 37
abbrev iy:cR:=top 39
abbrev lS:cR:=top 40
abbrev oO:cR:=top 41
abbrev gL:cR:=dA (top 43) 0
abbrev iQ:cR:=dA (top 43) 1
abbrev fi:cR:=dA (top 43) 2
abbrev gA:cR:=dA (top 43) 3
abbrev eX:cR:=dA (top 43) 4
abbrev dm:cR:=dA (top 43) 5
abbrev dX:cR:=dA (top 43) 6
abbrev jK:cR:=dA (top 46) 0
abbrev kR:cR:=dA (top 46) 1
abbrev iz:cR:=dA (top 46) 2
abbrev dJ:cR:=dA (top 46) 3
abbrev gp:cR:=dA (top 46) 4
abbrev c7:cR:=dA (top 46) 5
abbrev jq:cR:=top 48
abbrev kS:cR:=top 49
abbrev mE:cR:=top 50
abbrev i9:cR:=top 51
abbrev lT:cR:=top 52
abbrev ve:cR:=top 53
end My
namespace My
open PySem L2
structure Df (K:af) (mg:Str->Option ae) (x:Str) (st:cR) (ps:List Str) (f:aa) (fd:bG):Prop where
  F:Fun K x x st f fd
  b:Binds K fd ps []
  m:mg x=some (.ref f)
structure Bl (mg:Str->Option ae):Prop where
  len:mg "len"=none
  abs:mg "abs"=none
  isi:mg "isinstance"=none
  list:mg "list"=none
  tuple:mg "tuple"=none
  str:mg "str"=none
  int:mg "int"=none
  bool:mg "bool"=none
  range:mg "range"=none
  max:mg "max"=none
  dict:mg "dict"=none
theorem boot_abs:eE "abs"=some (.builtin "abs"):=by decide +kernel
theorem qj:eE "isinstance"=some (.builtin "isinstance"):=by decide +kernel
theorem boot_list:eE "list"=some (.type "list"):=by decide +kernel
theorem boot_tuple:eE "tuple"=some (.type "tuple"):=by decide +kernel
theorem boot_max:eE "max"=some (.builtin "max"):=by decide +kernel
theorem boot_dict:eE "dict"=some (.type "dict"):=by decide +kernel
def But (p:aa) (H H':Hp):Prop:=∀ b o,H b=some o->b≠p->H' b=some o
theorem But.trans {p:aa} {H H1 H2:Hp} (a:But p H H1) (b:But p H1 H2):But p H H2:=fun c o e n=>b c o (a c o e n) n
theorem But.upd (p:aa) (H:Hp) (o:HO):But p H (upd H p o):=fun b u e n=>by rw [aG n]; exact e
theorem aH {H:Hp} {p:aa} (h:H p=none) (o:HO):bF H (upd H p o):=fun b u q=>by rw [aG (aN q h)]; exact q
theorem jr {c:Prop} [Decidable c] (h:decide c=true):c:=of_decide_eq_true h
theorem jD {c:Prop} [Decidable c] (h:¬ decide c=true):¬ c:=fun z=>h (decide_eq_true z)
theorem lt2:2<=az:=by decide
theorem lt5:5<=az:=by decide
end My
namespace My
open PySem L2
section
variable {P:aO} {w:bj} {K:af} {mg:Str->Option ae} {base:cb} {f fM fD:aa} {fd fdM fdD:bG}
def Ar:Sp:=fun vs H Q _=>∃ c k:Int,vs=[.int c,.int k]/\eB c<=1048576/\∀ r:Int,Q (.int r) H
theorem BE (x:Int):-(2 ^ 64) < x % 2147483629/\x % 2147483629 < 2 ^ 64:=by
  have h1:=gx x (show (2147483629:Int)≠0 by decide)
  have h2:=gj x (show (0:Int) < 2147483629 by decide)
  omega
theorem scM:bD ["_law_cell","_law_k","_law_number"] ["_law_cell","_law_k"] (aP jq):=⟨rfl,rfl,rfl,by decide +kernel,rfl,by decide +kernel,by decide +kernel⟩
theorem DN (D:Df K mg "_law_mixed" jq ["_law_cell","_law_k"] f fd):bg P w K mg base CX0 1 f fd ["_law_cell","_law_k"] Ar:=by
  refine D.F.ok scM (fun vs H Q E h=>?_) (fun cdv A outer s H vs Q E hr h=>?_)
  · obtain ⟨c,k,rfl,_⟩:=h
    rfl
  obtain ⟨c,k,rfl,hc,q⟩:=h
  refine ⟨_,ax (bK (i:=2) scM.nd rfl (Or.inl rfl) (cS mh (cS pF (cS gz (cS gz (cS gz (cS Gj (pv 0) (pv 0)) (cS pF aD (pv 0))) (cS pF aD (pv 1))) aD) aD) aD))
    (aF (bV (cS mh (cS gz (cS pF (pv 2) (pv 2)) aD) aD))),?_⟩
  refine ⟨_,rfl,_,rfl,_,_,rfl,rfl,.of_bits hc hc,_,rfl,_,_,rfl,rfl,.inl ⟨by decide,by decide⟩,_,_,rfl,rfl,_,rfl,_,_,rfl,rfl,.inl ⟨by decide,by decide⟩,_,_,rfl,rfl,_,_,rfl,rfl,_,_,rfl,rfl,.inr ⟨by decide,by decide⟩,_,_,rfl,rfl,(by show (0:Int) < 2147483629; decide),?_⟩
  refine ⟨_,rfl,_,rfl,_,_,rfl,rfl,.inl (BE _),_,_,rfl,rfl,_,_,rfl,rfl,(by show (0:Int) < 2147483587; decide),?_⟩
  exact q _
def jt (H:Hp) (p:aa):Prop:=∃ x y:Int,H p=some (.lst [.int x,.int y])
theorem jt.same {H H':Hp} {p:aa} (a:jt H p) (b:bF H H'):jt H' p:=by
  obtain ⟨x,y,e⟩:=a
  exact ⟨x,y,b _ _ e⟩
theorem jt.upd {H:Hp} {p b:aa} {o:HO} (a:jt H p) (h:H b=none):jt (upd H b o) p:=a.same (aH h o)
def DQ:Sp:=fun vs H Q _=>∃ (p:aa) (n:Int),vs=[.ref p,.int n]/\jt H p/\0 < n/\n < 2 ^ 64/\∀ (r:Int) (H':Hp),0<=r->r < n->jt H' p->But p H H'->Q (.int r) H'
theorem scD:bD ["_law_purse_here","_law_out_of","_law_drawn"] ["_law_purse_here","_law_out_of"] (aP mE):=⟨rfl,rfl,rfl,by decide +kernel,rfl,by decide +kernel,by decide +kernel⟩
theorem GA (D:Df K mg "_law_draw" mE ["_law_purse_here","_law_out_of"] f fd):bg P w K mg base CX0 1 f fd ["_law_purse_here","_law_out_of"] DQ:=by
  refine D.F.ok scD (fun vs H Q E h=>?_) (fun cdv A outer s H vs Q E hr h=>?_)
  · obtain ⟨p,n,rfl,_⟩:=h
    rfl
  obtain ⟨p,n,rfl,⟨x,y,hp⟩,hn,hn2,q⟩:=h
  refine ⟨_,ax (c9 (bZ gc (bP eY (pv 0) aD (fun _ _=>rfl)) aD (cB _)) (aF (yP (bP eY (pv 0) aD (fun _ _=>rfl)) (yO (pv 0) aD sR))) cE)
    (ax (bK (i:=2) scD.nd rfl (Or.inl rfl) (cS mh (bP eY (pv 0) aD (fun _ _=>rfl)) (pv 1)))
    (ax (yP (cS qh (bP eY (pv 0) aD (fun _ _=>rfl)) (pv 1)) (yO (pv 0) aD sR))
    (aF (bV (pv 2))))),?_⟩
  refine ⟨_,rfl,p,_,_,_,rfl,rfl,SqL.of hp,rfl,rfl,_,rfl,?_⟩
  refine jj (fun c=>?_) (fun c=>?_)
  · refine ⟨_,rfl,p,_,_,_,rfl,rfl,SqL.of hp,rfl,_,rfl,p,_,_,_,rfl,rfl,hp,rfl,?_⟩
    have hp1:upd H p (.lst [.int y,.int y]) p=some (.lst [.int y,.int y]):=ah
    refine ⟨_,rfl,p,_,_,_,rfl,rfl,SqL.of hp1,rfl,_,rfl,_,_,rfl,rfl,hn,?_⟩
    refine ⟨_,rfl,p,_,_,_,rfl,rfl,SqL.of hp1,rfl,_,rfl,_,_,rfl,rfl,⟨hn,hn2⟩,_,rfl,p,_,_,_,rfl,rfl,hp1,rfl,?_⟩
    refine ⟨_,rfl,?_⟩
    exact q _ _ (gx _ (by omega)) (gj _ hn) ⟨_,_,ah⟩ ((But.upd p H _).trans (But.upd p _ _))
  · refine ⟨_,rfl,p,_,_,_,rfl,rfl,SqL.of hp,rfl,_,rfl,_,_,rfl,rfl,hn,?_⟩
    refine ⟨_,rfl,p,_,_,_,rfl,rfl,SqL.of hp,rfl,_,rfl,_,_,rfl,rfl,⟨hn,hn2⟩,_,rfl,p,_,_,_,rfl,rfl,hp,rfl,?_⟩
    refine ⟨_,rfl,?_⟩
    exact q _ _ (gx _ (by omega)) (gj _ hn) ⟨_,_,ah⟩ (But.upd p H _)
def Au (K:af):Sp:=fun vs H Q _=>∃ (a:aa) (ns:List Int),vs=[.ref a]/\SqL K H a (ns.map V.int)/\ns.length<=63/\(∀ x∈ns,eB x<=1048576)/\∀ (p:aa) (H':Hp),H p=none->jt H' p->bF H H'->Q (.ref p) H'
theorem scP:bD ["_law_script","_law_cells","_law_number","_law_k"] ["_law_script"] (aP kS):=⟨rfl,rfl,rfl,by decide +kernel,rfl,by decide +kernel,by decide +kernel⟩
theorem GE {xs:List V} {lo hi:Option Int} {v:V} (h:v∈p7 xs lo hi):v∈xs:=by
  unfold p7 at h
  exact Av (Aw h)
theorem JA {xs:List V} (h:xs≠[]) (z:Int):∃ v,atI xs (z % (xs.length:Int))=some v/\v∈xs:=by
  have hl:0 < xs.length:=pT.mpr h
  have h0:=gx z (show (xs.length:Int)≠0 by omega)
  have h1:=gj z (show (0:Int) < (xs.length:Int) by omega)
  obtain ⟨j,hj⟩:∃ j:Nat,z % (xs.length:Int)=(j:Int):=⟨(z % (xs.length:Int)).toNat,by omega⟩
  rw [hj] at h1 |-
  have hj2:j < xs.length:=by omega
  exact ⟨xs[j],jG (aC hj2),List.getElem_mem hj2⟩
theorem DR (D:Df K mg "_law_purse" kS ["_law_script"] f fd) (DM:Df K mg "_law_mixed" jq ["_law_cell","_law_k"] fM fdM) (B:Bl mg):bg P w K mg base CX0 2 f fd ["_law_script"] (Au K):=by
  have GM:bg P w K mg base CX0 1 fM fdM ["_law_cell","_law_k"] Ar:=DN DM
  refine D.F.ok scP (fun vs H Q E h=>?_) (fun cdv A outer s H vs Q E hr h=>?_)
  · obtain ⟨a,ns,rfl,_⟩:=h
    rfl
  obtain ⟨a,ns,rfl,hS,hlen,hbits,q⟩:=h
  refine ⟨_,ax (bK (i:=1) scP.nd rfl (Or.inl rfl) (cS zc (xp FZ (pv 0) z9 (Aa aD)) (dP (ai aD ay))))
    (ax (bK (i:=2) scP.nd rfl (Or.inl rfl) aD)
    (ax (lu dB rfl (oJ rfl B.range (ai aD ay)) (eF (i:=3) scP.nd rfl (Or.inl rfl))
      (aF (bK (i:=2) scP.nd rfl (Or.inl rfl) (cS gz (cS pF (pv 2) aD) (cw GM hr rfl DM.m DM.F.kp DM.b .nil cL (ai (bP eY (pv 1) (cS mh (pv 3) (cZ gH (by rfl) B.len df (ai (pv 1) ay))) (fun _ _=>rfl)) (ai (pv 3) ay)))))))
    (ax (c9 (bZ gc (cS mh (bP eY (pv 1) aD (fun _ _=>rfl)) aD) aD (cB _))
      (aF (bV (dP (ai (cZ (qJ rfl) (by rfl) B.max boot_max (ai (cS qh (bP eY (pv 1) aD (fun _ _=>rfl)) aD) (ai (cS sE (sD pG aD) (cS qh (bP eY (pv 1) aD (fun _ _=>rfl)) aD)) ay))) (ai (pv 2) ay))))) cE)
    (aF (bV (dP (ai (pv 2) (ai (pv 2) ay)))))))),?_⟩
  -- cells = script[:63] + [0]
  refine ⟨_,rfl,_,rfl,a,_,rfl,hS,fun l hl=>⟨(by show 1<=az; decide),fun m hm=>?_⟩⟩
  have hlm:l≠m:=aN (ah:upd H l (.lst (p7 (ns.map V.int) none (some 63))) l=_) hm
  have cl:(p7 (ns.map V.int) none (some 63)).length<=63:=cv (nV _ _ _) (by rw [av]; exact hlen)
  have l64:(p7 (ns.map V.int) none (some 63)).length + [V.int 0].length<=az:=by
    have z:64<=az:=by decide
    rw [gT]
    omega
  refine ⟨l,m,_,_,rfl,rfl,(by rw [aG hlm]; exact ah),ah,l64,fun c hc=>?_⟩
  generalize hcs:p7 (ns.map V.int) none (some 63)++[V.int 0]=cs at hc |-
  have sc:bF H (upd (upd (upd H l (.lst (p7 (ns.map V.int) none (some 63)))) m (.lst [.int 0])) c (.lst cs)):=(aH hl _).trans ((aH hm _).trans (aH hc _))
  generalize hH:upd (upd (upd H l (.lst (p7 (ns.map V.int) none (some 63)))) m (.lst [.int 0])) c (.lst cs)=H1 at sc |-
  have hc1:H1 c=some (.lst cs):=by rw [<- hH]; exact ah
  have nonil:cs≠[]:=by rw [<- hcs]; simp
  have cells:∀ v∈cs,∃ z:Int,v=.int z/\eB z<=1048576:=fun v hv=>by
    rw [<- hcs] at hv
    rcases aU.mp hv with z | z
    · obtain ⟨n,hn,rfl⟩:=bH.mp (GE z)
      exact ⟨n,rfl,hbits n hn⟩
    · rw [au.mp z]
      exact ⟨0,rfl,by decide⟩
  -- number = 1; for k in range(150)
  refine ⟨150,rfl,by decide,by decide,uE (n:=150) (fun i σ H2=>∃ (z:Int) (v:Option V),σ=[some (.ref a),some (.ref c),some (.int z),v]/\H2=H1) ⟨1,none,rfl,rfl⟩ ?_ ?_⟩
  · rintro i σ H2 hi ⟨z,v,rfl,rfl⟩
    obtain ⟨u,hu,hm2⟩:=JA nonil (0 + (i:Int))
    obtain ⟨y,rfl,hy⟩:=cells u hm2
    have lpos:(0:Int) < (cs.length:Int):=by
      have:=pT.mpr nonil
      omega
    refine ⟨_,rfl,_,_,rfl,rfl,.inr ⟨by decide,by decide⟩,_,rfl,_,rfl,_,rfl,c,_,rfl,.inl (SqL.of hc1),_,_,rfl,rfl,lpos,c,_,_,_,rfl,rfl,SqL.of hc1,hu,_,rfl,y,_,rfl,hy,fun r=>?_⟩
    exact ⟨_,_,rfl,rfl,_,_,rfl,rfl⟩
  · rintro σ H2 ⟨z,v,rfl,rfl⟩
    obtain ⟨x0,hx0⟩:∃ x0,cs[0]?=some x0:=by
      cases cs with
      | nil=>exact absurd rfl nonil
      | cons x0 r=>exact ⟨x0,rfl⟩
    obtain ⟨y,rfl,hy⟩:=cells x0 (aM hx0)
    have a0:atI cs 0=some (.int y):=jG (j:=0) hx0
    refine ⟨_,rfl,c,_,_,_,rfl,rfl,SqL.of hc1,a0,_,_,rfl,rfl,(by show (0:Int) < 2; decide),rfl,_,rfl,?_⟩
    have two:Ie y 2:=⟨by decide,by decide⟩
    refine jj (fun _=>?_) (fun _=>?_)
    · refine ⟨_,rfl,c,_,_,_,rfl,rfl,SqL.of hc1,a0,_,_,rfl,rfl,two,_,rfl,_,rfl,c,_,_,_,rfl,rfl,SqL.of hc1,a0,_,_,rfl,rfl,two,_,_,rfl,rfl,_,_,rfl,_,rfl,lt2,fun p hp=>?_⟩
      exact q p _ (sc.free hp) ⟨_,_,ah⟩ (sc.trans (aH hp _))
    · refine ⟨_,rfl,_,rfl,lt2,fun p hp=>?_⟩
      exact q p _ (sc.free hp) ⟨_,_,ah⟩ (sc.trans (aH hp _))
end
end My
namespace My
open PySem L2
def zr:V->Prop
  | .int _=>True
  | .str _=>True
  | _=>False
def Tree (H:Hp):Nat->V->Prop
  | 0,v=>zr v
  | n + 1,v=>zr v\/∃ p xs,v=.ref p/\(H p=some (.lst xs)\/H p=some (.tup xs))/\xs.length < 1000/\∀ x∈xs,Tree H n x
def Alike (H H':Hp):Nat->V->V->Prop
  | 0,v,v'=>v'=v
  | n + 1,v,v'=>(zr v/\v'=v)\/(∃ p p' xs ys,v=.ref p/\v'=.ref p'/\H p=some (.lst xs)/\H' p'=some (.lst ys)/\aW (Alike H H' n) xs ys) \/
      ∃ p p' xs ys,v=.ref p/\v'=.ref p'/\H p=some (.tup xs)/\H' p'=some (.tup ys)/\aW (Alike H H' n) xs ys
theorem Alike.mono {H H1 H2:Hp} (s:bF H1 H2):∀ {n:Nat} {v v':V},Alike H H1 n v v'->Alike H H2 n v v'
  | 0,_,_,h=>h
  | n + 1,v,v',h=>by
    rcases h with h | ⟨p,p',xs,ys,e1,e2,h1,h2,r⟩ | ⟨p,p',xs,ys,e1,e2,h1,h2,r⟩
    · exact .inl h
    · exact .inr (.inl ⟨p,p',xs,ys,e1,e2,h1,s _ _ h2,L2.Paired.imp' (fun _ _ z=>Alike.mono s z) r⟩)
    · exact .inr (.inr ⟨p,p',xs,ys,e1,e2,h1,s _ _ h2,L2.Paired.imp' (fun _ _ z=>Alike.mono s z) r⟩)
theorem Tree.same {H H1:Hp} (s:bF H H1):∀ {n:Nat} {v:V},Tree H n v->Tree H1 n v
  | 0,_,h=>h
  | n + 1,v,h=>by
    rcases h with h | ⟨p,xs,e,h1,h2,h3⟩
    · exact .inl h
    · exact .inr ⟨p,xs,e,h1.imp (s _ _) (s _ _),h2,fun x hx=>Tree.same s (h3 x hx)⟩
theorem Alike.from {H H0 H1:Hp} (s:bF H H0):∀ {n:Nat} {v v':V},Tree H n v->Alike H0 H1 n v v'->Alike H H1 n v v'
  | 0,_,_,_,h=>h
  | n + 1,v,v',t,h=>by
    rcases t with t | ⟨q,zs,e,t1,t2,t3⟩
    · rcases h with h | ⟨p,p',xs,ys,e1,e2,h1,h2,r⟩ | ⟨p,p',xs,ys,e1,e2,h1,h2,r⟩
      · exact .inl h
      · rw [e1] at t
        exact t.elim
      · rw [e1] at t
        exact t.elim
    · rcases h with h | ⟨p,p',xs,ys,e1,e2,h1,h2,r⟩ | ⟨p,p',xs,ys,e1,e2,h1,h2,r⟩
      · exact .inl h
      · rw [e] at e1
        cases e1
        rcases t1 with t1 | t1
        · have z:=s _ _ t1
          rw [h1] at z
          cases z
          refine .inr (.inl ⟨q,p',zs,ys,e,e2,t1,h2,?_⟩)
          clear h1 t1 t2 h2
          induction r with
          | nil=>exact .nil
          | cons a b ih=>exact .cons (Alike.from s (t3 _ aJ) a) (ih fun x hx=>t3 x (aj _ hx))
        · have z:=s _ _ t1
          rw [h1] at z
          cases z
      · rw [e] at e1
        cases e1
        rcases t1 with t1 | t1
        · have z:=s _ _ t1
          rw [h1] at z
          cases z
        · have z:=s _ _ t1
          rw [h1] at z
          cases z
          refine .inr (.inr ⟨q,p',zs,ys,e,e2,t1,h2,?_⟩)
          clear h1 t1 t2 h2
          induction r with
          | nil=>exact .nil
          | cons a b ih=>exact .cons (Alike.from s (t3 _ aJ) a) (ih fun x hx=>t3 x (aj _ hx))
theorem DV {K:af}:fE K (.type "int") (.type "list")=some false:=by kernel_rfl
theorem DX {K:af}:fE K (.type "str") (.type "list")=some false:=by kernel_rfl
theorem DY {K:af}:fE K (.type "int") (.type "tuple")=some false:=by kernel_rfl
theorem DZ {K:af}:fE K (.type "str") (.type "tuple")=some false:=by kernel_rfl
theorem JB {K:af}:fE K (.type "list") (.type "list")=some true:=by rfl
theorem JC {K:af}:fE K (.type "tuple") (.type "list")=some false:=by kernel_rfl
theorem JD {K:af}:fE K (.type "tuple") (.type "tuple")=some true:=by rfl
def Nw (H G:Hp):Hp:=fun a=>if H a=none then G a else none
theorem qm {H G:Hp} {a:aa} (n:H a=none):Nw H G a=G a:=if_pos n
theorem Il {H G:Hp}:bF (Nw H G) G:=fun a o e=>by
  unfold Nw at e
  by_cases c:H a=none
  · rw [if_pos c] at e
    exact e
  · rw [if_neg c] at e
    cases e
theorem qp {H G G':Hp} (s:bF G G'):bF (Nw H G) (Nw H G'):=fun a o e=>by
  by_cases c:H a=none
  · rw [qm c] at e |-
    exact s _ _ e
  · unfold Nw at e
    rw [if_neg c] at e
    cases e
theorem wA {H0 H G:Hp} (d:∀ a,H a=none->H0 a=none):bF (Nw H G) (Nw H0 G):=fun a o e=>by
  by_cases c:H a=none
  · rw [qm c] at e
    rw [qm (d a c)]
    exact e
  · unfold Nw at e
    rw [if_neg c] at e
    cases e
theorem om {H G:Hp} (s:bF H G):∀ a,G a=none->H a=none:=fun a n=>by
  cases z:H a with
  | none=>rfl
  | some o =>
    rw [s _ _ z] at n
    cases n
section
variable {P:aO} {w:bj} {K:af} {mg:Str->Option ae} {base:cb} {f fC fI CM CS:aa} {fd fdC fdI:bG}
def oo (n:Nat):Sp:=fun vs H Q _=>∃ v,vs=[v]/\Tree H n v/\∀ (v':V) (H':Hp),bF H H'->Alike H (Nw H H') n v v'->Q v' H'
theorem scC:bD ["thing"] ["thing"] (aP lR):=⟨rfl,rfl,rfl,by decide +kernel,rfl,by decide +kernel,by decide +kernel⟩
theorem Ax:(["part","thing"]:List Str).Nodup:=by decide +kernel
theorem vf {α β:Type} {R:α->β->Prop} {xs:List α} {ys:List β} {i:Nat} {x:α} {y:β} (r:aW R (xs.take i) ys) (hx:xs[i]?=some x) (h:R x y):aW R (xs.take (i + 1)) (ys++[y]):=by
  have e:xs.take (i + 1)=xs.take i++[x]:=by rw [eT,hx]; rfl
  rw [e]
  exact fb r h
theorem xW {n:Nat} (D:Df K mg "copied" lR ["thing"] f fd) (B:Bl mg) (G:bg P w K mg base CX0 (n + 1) f fd ["thing"] (oo n)):bg P w K mg base CX0 (n + 2) f fd ["thing"] (oo (n + 1)):=by
  refine D.F.ok scC (fun vs H Q E h=>?_) (fun cdv A outer s H vs Q E hr h=>?_)
  · obtain ⟨v,rfl,_⟩:=h
    rfl
  obtain ⟨v,rfl,ht,q⟩:=h
  refine ⟨_,ax (c9 (sv (cZ kO (by rfl) B.isi qj (ai (pv 0) (ai (rP (v:=.ty "list") (by rfl) B.list boot_list rfl) ay))))
      (aF (bV (kN ["part"] (gY.closed (by decide +kernel) (by decide +kernel) rfl (by decide +kernel) (by intro n hn; rcases au.mp hn with rfl; decide +kernel)) rfl (iL (pv 0)) (fun _ _ _ _=>eF (i:=0) Ax rfl (Or.inl rfl)) (fun _ _ _ _=>jJ)
        (fun _ _ _ _=>cw G hr rfl D.m D.F.kp D.b .nil cL (ai (pv 0) ay))))) cE)
    (ax (c9 (sv (cZ kO (by rfl) B.isi qj (ai (pv 0) (ai (rP (v:=.ty "tuple") (by rfl) B.tuple boot_tuple rfl) ay))))
      (aF (bV (lJ uh (by rfl) B.tuple boot_tuple (ai (kN ["part"] (gY.closed (by decide +kernel) (by decide +kernel) rfl (by decide +kernel) (by intro n hn; rcases au.mp hn with rfl; decide +kernel)) rfl (IX (pv 0)) (fun _ _ _ _=>eF (i:=0) Ax rfl (Or.inl rfl)) (fun _ _ _ _=>jJ)
        (fun _ _ _ _=>cw G hr rfl D.m D.F.kp D.b .nil cL (ai (pv 0) ay))) ay)))) cE)
    (aF (bV (pv 0)))),?_⟩
  have big:1000 < az:=by decide
  rcases ht with ht | ⟨p,xs,rfl,hp,hl,hx⟩
  · cases v with
    | int i =>
      refine ⟨_,rfl,_,"list",_,false,rfl,.int i,DV,_,rfl,fG ?_⟩
      refine ⟨_,rfl,_,"tuple",_,false,rfl,.int i,DY,_,rfl,fG ?_⟩
      exact ⟨_,rfl,q _ _ (bF.refl H) (.inl ⟨trivial,rfl⟩)⟩
    | str x =>
      refine ⟨_,rfl,_,"list",_,false,rfl,.str x,DX,_,rfl,fG ?_⟩
      refine ⟨_,rfl,_,"tuple",_,false,rfl,.str x,DZ,_,rfl,fG ?_⟩
      exact ⟨_,rfl,q _ _ (bF.refl H) (.inl ⟨trivial,rfl⟩)⟩
    | non=>exact ht.elim
    | bl b=>exact ht.elim
    | byt b=>exact ht.elim
    | flt b=>exact ht.elim
    | ref a=>exact ht.elim
    | ty a=>exact ht.elim
  · rcases hp with hp | hp
    · refine ⟨_,rfl,_,"list",_,true,rfl,.lst hp,JB,_,rfl,gJ ?_⟩
      refine ⟨_,rfl,p,rfl,⟨_,SqL.of hp⟩,qV (K:=K) (a:=p) (xs:=xs) (fun i ys H1=>i<=xs.length/\ys.length=i/\bF H H1/\aW (Alike H (Nw H H1) n) (xs.take i) ys) ⟨bA _,rfl,bF.refl H,.nil⟩ ?_ ?_ ?_⟩
      · rintro i ys H1 hi ⟨_,h1,h2,_⟩
        exact ⟨SqL.of (h2 _ _ hp),by omega⟩
      · rintro i x ys H1 hi ⟨h0,h1,h2,h3⟩
        have hm:x∈xs:=aM hi
        have lt:i < xs.length:=(aw.mp hi).1
        refine ⟨rfl,?_⟩
        unfold um
        refine gJ ?_
        refine ⟨_,rfl,x,rfl,Tree.same h2 (hx x hm),fun v' H2 s2 al=>?_⟩
        exact ⟨lt,by rw [aB,h1]; rfl,h2.trans s2,vf (L2.Paired.imp' (fun _ _ z=>Alike.mono (qp s2) z) h3) hi (Alike.mono (wA (om h2)) (Alike.from h2 (hx x hm) al))⟩
      · rintro ys H1 ⟨_,h1,h2,h3⟩ l hl'
        rw [eC] at h3
        refine q _ _ (h2.trans (aH hl' _)) (.inr (.inl ⟨p,l,xs,ys,rfl,rfl,hp,(by rw [qm (om h2 _ hl')]; exact ah),L2.Paired.imp' (fun _ _ z=>Alike.mono (qp (aH hl' _)) z) h3⟩))
    · refine ⟨_,rfl,_,"list",_,false,rfl,.tup hp,JC,_,rfl,fG ?_⟩
      refine ⟨_,rfl,_,"tuple",_,true,rfl,.tup hp,JD,_,rfl,gJ ?_⟩
      refine ⟨_,rfl,p,rfl,⟨_,SqT.of hp⟩,Dp (K:=K) (a:=p) (xs:=xs) (Q:=fun v H1=>∃ z ys,[v]=[V.ref z]/\((SqL K H1 z ys/\∀ l,H1 l=none->Q (.ref l) (upd H1 l (.tup ys)))\/(SqT K H1 z ys/\Q (.ref z) H1))) (fun i ys H1=>i<=xs.length/\ys.length=i/\bF H H1/\aW (Alike H (Nw H H1) n) (xs.take i) ys) ⟨bA _,rfl,bF.refl H,.nil⟩ ?_ ?_ ?_⟩
      · rintro i ys H1 hi ⟨_,h1,h2,_⟩
        exact ⟨SqT.of (h2 _ _ hp),by omega⟩
      · rintro i x ys H1 hi ⟨h0,h1,h2,h3⟩
        have hm:x∈xs:=aM hi
        have lt:i < xs.length:=(aw.mp hi).1
        refine ⟨rfl,?_⟩
        unfold um
        refine gJ ?_
        refine ⟨_,rfl,x,rfl,Tree.same h2 (hx x hm),fun v' H2 s2 al=>?_⟩
        exact ⟨lt,by rw [aB,h1]; rfl,h2.trans s2,vf (L2.Paired.imp' (fun _ _ z=>Alike.mono (qp s2) z) h3) hi (Alike.mono (wA (om h2)) (Alike.from h2 (hx x hm) al))⟩
      · rintro ys H1 ⟨_,h1,h2,h3⟩ l hl'
        rw [eC] at h3
        refine ⟨l,ys,rfl,.inl ⟨SqL.of ah,fun t ht=>?_⟩⟩
        have s3:bF H1 (upd (upd H1 l (.lst ys)) t (.tup ys)):=(aH hl' _).trans (aH ht _)
        exact q _ _ (h2.trans s3) (.inr (.inr ⟨p,t,xs,ys,rfl,rfl,hp,(by rw [qm (om (h2.trans (aH hl' (.lst ys))) _ ht)]; exact ah),L2.Paired.imp' (fun _ _ z=>Alike.mono (qp s3) z) h3⟩))
theorem xX (D:Df K mg "copied" lR ["thing"] f fd) (B:Bl mg):bg P w K mg base CX0 1 f fd ["thing"] (oo 0):=by
  refine D.F.ok scC (fun vs H Q E h=>?_) (fun cdv A outer s H vs Q E hr h=>?_)
  · obtain ⟨v,rfl,_⟩:=h
    rfl
  obtain ⟨v,rfl,ht,q⟩:=h
  refine ⟨_,ax (c9 (sv (cZ kO (by rfl) B.isi qj (ai (pv 0) (ai (rP (v:=.ty "list") (by rfl) B.list boot_list rfl) ay)))) uD cE)
    (ax (c9 (sv (cZ kO (by rfl) B.isi qj (ai (pv 0) (ai (rP (v:=.ty "tuple") (by rfl) B.tuple boot_tuple rfl) ay)))) uD cE)
    (aF (bV (pv 0)))),?_⟩
  have ht:zr v:=ht
  cases v with
  | int i =>
    refine ⟨_,rfl,_,"list",_,false,rfl,.int i,DV,_,rfl,fG ?_⟩
    refine ⟨_,rfl,_,"tuple",_,false,rfl,.int i,DY,_,rfl,fG ?_⟩
    exact ⟨_,rfl,q _ _ (bF.refl H) rfl⟩
  | str x =>
    refine ⟨_,rfl,_,"list",_,false,rfl,.str x,DX,_,rfl,fG ?_⟩
    refine ⟨_,rfl,_,"tuple",_,false,rfl,.str x,DZ,_,rfl,fG ?_⟩
    exact ⟨_,rfl,q _ _ (bF.refl H) rfl⟩
  | non=>exact ht.elim
  | bl b=>exact ht.elim
  | byt b=>exact ht.elim
  | flt b=>exact ht.elim
  | ref a=>exact ht.elim
  | ty a=>exact ht.elim
theorem vg (D:Df K mg "copied" lR ["thing"] f fd) (B:Bl mg):∀ n:Nat,bg P w K mg base CX0 (n + 1) f fd ["thing"] (oo n)
  | 0=>xX D B
  | n + 1=>xW D B (vg D B n)
structure MdT (K:af) (mg:Str->Option ae) (CM CS:aa):Prop where
  clM:Cls K CM
  clS:Cls K CS
  nM:dG K CM "machines"
  nB:dG K CS "boxes"
  nQ:dG K CS "queues"
  nD:dG K CS "drawn"
  nS:dG K CS "sent"
  mM:mg "Model"=some (.ref CM)
  mS:mg "State"=some (.ref CS)
def spMI (CM:aa) (n:Nat):Sp:=fun vs H Q _=>∃ (m dx:aa) (v:V),vs=[.ref m,v]/\H m=some (.ins CM dx [])/\Tree H n v/\∀ (v':V) (H':Hp),bF H H'->Alike H (Nw H H') n v v'->Q .non (upd H' m (.ins CM dx (cM "machines" v' [])))
theorem scMI:bD ["self","machines"] ["self","machines"] (aP mC):=⟨rfl,rfl,rfl,by decide +kernel,rfl,by decide +kernel,by decide +kernel⟩
theorem ok_MI {n:Nat} (F:Fun K "__init__" "Model.__init__" mC f fd) (DC:Df K mg "copied" lR ["thing"] fC fdC) (B:Bl mg) (T:MdT K mg CM CS):bg P w K mg base CX0 (n + 2) f fd ["self","machines"] (spMI CM n):=by
  have GC:bg P w K mg base CX0 (n + 1) fC fdC ["thing"] (oo n):=vg DC B n
  refine F.ok scMI (fun vs H Q E h=>?_) (fun cdv A outer s H vs Q E hr h=>?_)
  · obtain ⟨m,dx,v,rfl,_⟩:=h
    rfl
  obtain ⟨m,dx,v,rfl,hm,ht,q⟩:=h
  refine ⟨_,aF (fk (pv 0) (cw GC hr rfl DC.m DC.F.kp DC.b .nil cL (ai (pv 1) ay)) rfl),?_⟩
  refine ⟨_,rfl,v,rfl,ht,fun v' H' s1 al=>?_⟩
  exact ⟨_,rfl,m,CM,dx,[],rfl,s1 _ _ hm,T.clM,T.nM,(by show 0 < 1000; decide),q v' H' s1 al⟩
def mH (b q d e:V):List (Str×V):=cM "sent" e (cM "drawn" d (cM "queues" q (cM "boxes" b [])))
def JE (CS:aa):Sp:=fun vs H Q _=>∃ (m dx:aa) (b q d e:V),vs=[.ref m,b,q,d,e]/\H m=some (.ins CS dx [])/\∀ H':Hp,H' m=some (.ins CS dx (mH b q d e))->But m H H'->Q .non H'
theorem scSI:bD ["self","boxes","queues","drawn","sent"] ["self","boxes","queues","drawn","sent"] (aP iO):=⟨rfl,rfl,rfl,by decide +kernel,rfl,by decide +kernel,by decide +kernel⟩
theorem iB (f:Str) (v:V) (fs:List (Str×V)):(cM f v fs).length<=fs.length + 1:=by
  induction fs with
  | nil=>exact aE _
  | cons p r ih =>
    unfold cM
    split
    · rw [aL,aL]
      omega
    · rw [aL,aL]
      omega
theorem Im (F:Fun K "__init__" "State.__init__" iO f fd) (T:MdT K mg CM CS):bg P w K mg base CX0 1 f fd ["self","boxes","queues","drawn","sent"] (JE CS):=by
  refine F.ok scSI (fun vs H Q E h=>?_) (fun cdv A outer s H vs Q E hr h=>?_)
  · obtain ⟨m,dx,b,q,d,e,rfl,_⟩:=h
    rfl
  obtain ⟨m,dx,b,q,d,e,rfl,hm,k⟩:=h
  refine ⟨_,ax (fk (pv 0) (pv 1) rfl) (ax (fk (pv 0) (pv 2) rfl) (ax (fk (pv 0) (pv 3) rfl) (aF (fk (pv 0) (pv 4) rfl)))),?_⟩
  have l1:=iB "boxes" b []
  have l2:=iB "queues" q (cM "boxes" b [])
  have l3:=iB "drawn" d (cM "queues" q (cM "boxes" b []))
  simp only [cy] at l1
  refine ⟨_,rfl,_,rfl,m,CS,dx,[],rfl,hm,T.clS,T.nB,(by show 0 < 1000; decide),_,rfl,_,rfl,m,CS,dx,_,rfl,ah,T.clS,T.nQ,(by omega),_,rfl,_,rfl,m,CS,dx,_,rfl,ah,T.clS,T.nD,(by omega),_,rfl,_,rfl,m,CS,dx,_,rfl,ah,T.clS,T.nS,(by omega),?_⟩
  exact k _ ah (((But.upd m H _).trans (But.upd m _ _)).trans ((But.upd m _ _).trans (But.upd m _ _)))
theorem GG:bD ["model","at","machine","queues","name"] ["model","at"] (aP i5):=⟨rfl,rfl,rfl,by decide +kernel,rfl,by decide +kernel,by decide +kernel⟩
end
end My
namespace My
open PySem L2
section
variable {κ:Type} [DecidableEq κ]
abbrev pB (ps:List (κ×V)) (m:List (κ×V)):List (κ×V):=ps.foldl (fun m p=>fH m p.1 p.2) m
end
theorem jN {H H':Hp} {n:Nat} {a:aa} {xs:List V} {y:V} (ha:H a=some (.lst xs)) (z:Alike H H' (n + 1) (.ref a) y):∃ (a':aa) (ys:List V),y=.ref a'/\H' a'=some (.lst ys)/\aW (Alike H H' n) xs ys:=by
  rcases z with ⟨z,_⟩ | ⟨p,p',xs',ys,e1,e2,h1,h2,r⟩ | ⟨p,p',xs',ys,e1,e2,h1,h2,r⟩
  · exact z.elim
  · cases e1
    rw [ha] at h1
    cases h1
    exact ⟨p',ys,e2,h2,r⟩
  · cases e1
    rw [ha] at h1
    cases h1
theorem oP {H H':Hp} {n:Nat} {a:aa} {xs:List V} {y:V} (ha:H a=some (.tup xs)) (z:Alike H H' (n + 1) (.ref a) y):∃ (a':aa) (ys:List V),y=.ref a'/\H' a'=some (.tup ys)/\aW (Alike H H' n) xs ys:=by
  rcases z with ⟨z,_⟩ | ⟨p,p',xs',ys,e1,e2,h1,h2,r⟩ | ⟨p,p',xs',ys,e1,e2,h1,h2,r⟩
  · exact z.elim
  · cases e1
    rw [ha] at h1
    cases h1
  · cases e1
    rw [ha] at h1
    cases h1
    exact ⟨p',ys,e2,h2,r⟩
theorem eN {H H':Hp} {n:Nat} {v y:V} (hv:zr v) (z:Alike H H' n v y):y=v:=by
  cases n with
  | zero=>exact z
  | succ n =>
    rcases z with ⟨_,z⟩ | ⟨p,p',xs',ys,e1,e2,h1,h2,r⟩ | ⟨p,p',xs',ys,e1,e2,h1,h2,r⟩
    · exact z
    · rw [e1] at hv
      exact hv.elim
    · rw [e1] at hv
      exact hv.elim
theorem iF {H H':Hp} {n:Nat} {xs ys:List V} (r:aW (Alike H H' n) xs ys):(∀ x∈xs,zr x)->ys=xs:=by
  induction r with
  | nil=>exact fun _=>rfl
  | cons a b ih =>
    intro h
    rw [eN (h _ aJ) a,ih fun x hx=>h x (aj _ hx)]
def mV (H:Hp) (ps:List (Str×Int)) (vs:List V):Prop:=rY H (ps.map fun p=>(Sum.inr p.1,V.int p.2)) vs
theorem mV.same {H H':Hp} (s:bF H H'):∀ {ps:List (Str×Int)} {vs:List V},mV H ps vs->mV H' ps vs
  | [],_,h=>by
    cases h
    exact .nil
  | p :: ps,_,h=>by
    cases h with
    | cons a b =>
      obtain ⟨t,e,h⟩:=a
      exact .cons ⟨t,e,s _ _ h⟩ (mV.same s (ps:=ps) b)
theorem mV.alike {H H':Hp} {n:Nat}:∀ {ps:List (Str×Int)} {vs ys:List V},mV H ps vs->aW (Alike H H' (n + 1)) vs ys->mV H' ps ys
  | [],_,_,h,r=>by
    cases h
    cases r
    exact .nil
  | p :: ps,_,_,h,r=>by
    cases h with
    | cons a b =>
      cases r with
      | cons r1 r2 =>
        obtain ⟨t,rfl,h⟩:=a
        obtain ⟨t',ys,rfl,h',rr⟩:=oP h r1
        have e:=iF rr (fun x hx=>by
          simp only [ak,aX,or_false] at hx
          rcases hx with rfl | rfl
          · exact trivial
          · exact trivial)
        rw [e] at h'
        exact .cons ⟨t',rfl,h'⟩ (mV.alike (ps:=ps) b r2)
section
variable {P:aO} {w:bj} {K:af} {mg:Str->Option ae} {base:cb} {f fI CM CS:aa} {fd fdI:bG}
abbrev JF (ps:List (Str×Int)):List (Key×V):=pB (ps.map fun p=>((Sum.inr p.1:Key),V.int p.2)) []
abbrev quT (qs:List Str) (ls:List aa):List (Key×V):=pB ((qs.zip ls).map fun p=>((Sum.inr p.1:Key),V.ref p.2)) []
structure New (H H':Hp) (CS st:aa) (ps:List (Str×Int)) (qs:List Str) (dx bd qd:aa) (ls:List aa):Prop where
  hst:H' st=some (.ins CS dx (mH (.ref bd) (.ref qd) (.int 0) (.int 0)))
  hbd:H' bd=some (.dK (JF ps))
  hqd:H' qd=some (.dK (quT qs ls))
  len:ls.length=qs.length
  nd:ls.Nodup
  li:∀ l∈ls,H l=none/\H' l=some (.lst [])
  ost:H st=none
  obd:H bd=none
  oqd:H qd=none
  ne:qd≠bd
  same:bF H H'
def xY (CM CS:aa):Sp:=fun vs H Q _=>∃ (m dx l t b q:aa) (fs:List (Str×V)) (n0 x3 x4:V) (i:Nat) (ms vb:List V) (ps:List (Str×Int)) (qs:List Str),vs=[.ref m,.int (i:Int)]/\H m=some (.ins CM dx fs)/\fs.lookup ("machines":Str)=some (V.ref l) /\
  H l=some (.lst ms)/\ms[i]?=some (.ref t)/\H t=some (.tup [n0,.ref b,.ref q,x3,x4])/\H b=some (.lst vb)/\mV H ps vb/\ps.length<=100/\H q=some (.lst (qs.map V.str))/\qs.length<=100 /\
  ∀ (st dx bd qd:aa) (ls:List aa) (H':Hp),New H H' CS st ps qs dx bd qd ls->Q (.ref st) H'
theorem D0 {α β:Type} {xs:List α} {ys:List β} {i:Nat} {x:α} {y:β} (hl:ys.length=i) (hx:xs[i]?=some x):(xs.take (i + 1)).zip (ys++[y])=(xs.take i).zip ys++[(x,y)]:=by
  have lt:i < xs.length:=(aw.mp hx).1
  have e:xs.take (i + 1)=xs.take i++[x]:=by rw [eT,hx]; rfl
  rw [e,List.zip_append (by rw [cN,hl]; omega)]
  rfl
theorem vh (D:Df K mg "first_state" i5 ["model","at"] f fd) (MS:Mk K CS fI) (FI:Fun K "__init__" "State.__init__" iO fI fdI) (bI:Binds K fdI ["self","boxes","queues","drawn","sent"] []) (B:Bl mg) (T:MdT K mg CM CS) :
    bg P w K mg base CX0 3 f fd ["model","at"] (xY CM CS):=by
  have GI:bg P w K mg base CX0 1 fI fdI ["self","boxes","queues","drawn","sent"] (JE CS):=Im FI T
  refine D.F.ok GG (fun vs H Q E h=>?_) (fun cdv A outer s H vs Q E hr h=>?_)
  · obtain ⟨m,dx,l,t,b,q,fs,n0,x3,x4,i,ms,vb,ps,qs,rfl,_⟩:=h
    rfl
  obtain ⟨m,dx,l,t,b,q,fs,n0,x3,x4,i,ms,vb,ps,qs,rfl,hm,hfs,hl,hi,ht,hb,hps,lps,hq,lqs,k⟩:=h
  have hu:=ji hr
  refine ⟨_,ax (bK (i:=2) GG.nd rfl (Or.inl rfl) (bP eY (cq (pv 0) rfl) (pv 1) (fun _ _=>rfl)))
    (ax (bK (i:=3) GG.nd rfl (Or.inl rfl) qb)
    (ax (lu dB rfl (iL (bP b8 (pv 2) aD (fun _ _=>rfl))) (eF (i:=4) GG.nd rfl (Or.inl rfl)) (aF (jI hu (pv 3) (pv 4) (dP ay) rfl)))
    (aF (bV (oK MS GI hr (by rfl) T.mS bI .nil cL (ai (lJ (zh rfl) (by rfl) B.dict boot_dict (ai (bP b8 (pv 2) aD (fun _ _=>rfl)) ay)) (ai (pv 3) (ai aD (ai aD ay))))))))),?_⟩
  refine ⟨_,rfl,m,CM,dx,_,_,rfl,hm,T.clM,T.nM,hfs,_,rfl,l,_,_,_,rfl,rfl,SqL.of hl,jG hi,?_⟩
  intro d hd
  have s1:bF H (upd H d (.dK [])):=aH hd _
  have big:1000 < az:=by decide
  have a2:atI [n0,V.ref b,V.ref q,x3,x4] 2=some (V.ref q):=rfl
  have a1:atI [n0,V.ref b,V.ref q,x3,x4] 1=some (V.ref b):=rfl
  refine ⟨_,rfl,t,_,_,_,rfl,rfl,SqT.of (s1 _ _ ht),a2,q,rfl,⟨_,SqL.of (s1 _ _ hq)⟩,jU (K:=K) (a:=q) (xs:=qs.map V.str) (fun j σ G=>∃ (v4:Option V) (ls:List aa),σ=[some (.ref m),some (.int (i:Int)),some (.ref t),some (.ref d),v4]/\j<=qs.length/\G d=some (.dK (quT (qs.take j) ls))/\ls.length=j/\ls.Nodup/\(∀ z∈ls,H z=none/\G z=some (.lst []))/\bF H G)
    ⟨none,[],rfl,bA _,ah,rfl,dj,(fun z hz=>by cases hz),s1⟩ ?_ ?_ ?_⟩
  · rintro j σ G _ ⟨v4,ls,rfl,_,_,_,_,_,sm⟩
    exact SqL.of (sm _ _ hq)
  · rintro j x σ G hj ⟨v4,ls,rfl,jl,hG,ll,nd,li,sm⟩
    obtain ⟨nm,hnm,rfl⟩:∃ nm,qs[j]?=some nm/\x=V.str nm:=by
      rw [bf] at hj
      cases e:qs[j]? with
      | none=>rw [e] at hj; cases hj
      | some nm=>rw [e] at hj; cases hj; exact ⟨nm,rfl,rfl⟩
    have jlt:j < qs.length:=(aw.mp hnm).1
    refine ⟨bA _,fun z hz=>?_⟩
    have nzd:d≠z:=aN hG hz
    have hG':upd G z (.lst []) d=some (.dK (quT (qs.take j) ls)):=by rw [aG nzd]; exact hG
    have lt:(quT (qs.take j) ls).length < az:=by
      have q1:=xJ ((((qs.take j).zip ls).map fun p=>((Sum.inr p.1:Key),V.ref p.2))) []
      rw [av,GH,cN] at q1
      simp only [cy] at q1
      exact bz q1 (by omega)
    refine ⟨_,rfl,_,rfl,d,_,rfl,o7.k (k:=Sum.inr nm) hG' lt,?_⟩
    have fz:H z=none:=sm.free hz
    have nin:z∉ls:=fun c=>by
      have q1:=(li z c).2
      rw [hz] at q1
      cases q1
    refine ⟨_,ls++[z],rfl,jlt,?_,by rw [aB,ll]; rfl,rS nd nin,fun y hy=>?_,?_⟩
    · show upd _ d _ d=_
      rw [ah]
      show some (HO.dK (fH (quT (qs.take j) ls) (Sum.inr nm) (.ref z)))=some (HO.dK (quT (qs.take (j + 1)) (ls++[z])))
      unfold quT
      rw [D0 ll hnm,ba]
      unfold pB
      rw [List.foldl_append]
      rfl
    · rcases aU.mp hy with c | c
      · obtain ⟨c1,c2⟩:=li y c
        refine ⟨c1,?_⟩
        rw [aG (fc c2 hG (by intro e; cases e)),aG (aN c2 hz)]
        exact c2
      · rw [au.mp c]
        refine ⟨fz,?_⟩
        rw [aG nzd.symm]
        exact ah
    · intro c o hc
      have c2:=sm _ _ hc
      have cd:c≠d:=aN hc hd
      rw [aG cd,aG (aN c2 hz)]
      exact c2
  · rintro σ G ⟨v4,ls,rfl,jl,hG,ll,nd,li,sm⟩
    rw [av] at ll hG
    rw [eC] at hG
    refine ⟨_,rfl,t,_,_,_,rfl,rfl,SqT.of (sm _ _ ht),a1,b,vb,_,rfl,sm _ _ hb,mV.same sm hps,by rw [av]; omega,fun e he=>?_⟩
    have s2:bF G (upd G e (.dK (JF ps))):=aH he _
    refine ⟨_,rfl,?_⟩
    intro x dx' nx ndx nex
    refine ⟨x,dx',_,_,_,_,rfl,ah,fun H' hx bt=>⟨rfl,k x dx' e d ls H' ?_⟩⟩
    have up:∀ {c:aa} {o:HO},upd G e (.dK (JF ps)) c=some o->H' c=some o:=fun {c o} hc=>by
      have cx:c≠x:=aN hc nx
      refine bt c o ?_ cx
      rw [aG cx,aG (aN hc ndx)]
      exact hc
    exact ⟨hx,up ah,up (s2 _ _ hG),ll,nd,fun z hz=>⟨(li z hz).1,up (s2 _ _ (li z hz).2)⟩,sm.free (s2.free nx),sm.free he,hd,aN hG he,fun c o hc=>up (s2 _ _ (sm _ _ hc))⟩
end
end My
namespace My
open PySem L2
section
variable {κ:Type} [DecidableEq κ]
theorem zt:∀ (ps m:List (κ×V)),((m++ps).map (·.1)).Nodup->pB ps m=m++ps
  | [],m,_=>by simp [pB]
  | p :: r,m,h=>by
    have nk:fZ m p.1=none:=by
      cases e:fZ m p.1 with
      | none=>rfl
      | some v =>
        exfalso
        rw [ba,cC] at h
        exact (g9.mp h).2.2 p.1 (vY e) p.1 aJ rfl
    show pB r (fH m p.1 p.2)=_
    rw [lK p.2 nk,zt r (m++[(p.1,p.2)]) (by rw [dQ]; exact h),dQ]
    rfl
end
end My
namespace My
open PySem L2
def Ea:List Str:=["plus","less","times","part","rest","below","same"]
inductive Fm where
  | num (n:Int)
  | box (x:Str)
  | long (x:Str)
  | got (j:Bool)
  | now
  | two (k:Str) (f g:Fm)
def Fm.depth:Fm->Nat
  | .two _ f g=>max f.depth g.depth + 1
  | _=>1
inductive Rs where
  | ok (r:Int)
  | nought
  | great
def mX (k:Str) (a b:Int):Rs:=
  if k="plus" then .ok (a + b) else if k="less" then .ok (a - b) else if k="times" then .ok (a * b) else if k="below" then .ok (if a < b then 1 else 0)
  else if k="same" then .ok (if a=b then 1 else 0) else if b=0 then .nought else if k="part" then .ok (a.fdiv b) else .ok (a.fmod b)
def pC (r:Int):Int:=if r < 0 then -r else r
def cap:Rs->Rs
  | .ok r=>if 10 ^ 15 < pC r then .great else .ok r
  | .nought=>.nought
  | .great=>.great
structure tD where
  bx:Str->Int
  lg:Str->Nat
  g0:Int
  g1:Int
  nw:Int
def ev (e:tD):Fm->Rs
  | .num n=>.ok n
  | .box x=>.ok (e.bx x)
  | .long x=>.ok (e.lg x)
  | .got j=>.ok (if j then e.g1 else e.g0)
  | .now=>.ok e.nw
  | .two k f g=>match ev e f with
    | .ok a=>(match ev e g with
      | .ok b=>cap (mX k a b)
      | .nought=>.nought
      | .great=>.great)
    | .nought=>.nought
    | .great=>.great
def Wo (a:Int):Prop:=-(10 ^ 15)<=a/\a<=10 ^ 15
structure tD.Ok (e:tD) (bs qs:List Str):Prop where
  bx:∀ x∈bs,Wo (e.bx x)
  lg:∀ x∈qs,e.lg x<=1000
  g0:Wo e.g0
  g1:Wo e.g1
  nw:Wo e.nw
inductive ju (bs qs:List Str) (H:Hp):V->Fm->Prop where
  | num {t:aa} {n:Int}:H t=some (.tup [.str "number",.int n])->Wo n->ju bs qs H (.ref t) (.num n)
  | box {t:aa} {x:Str}:H t=some (.tup [.str "box",.str x])->x∈bs->ju bs qs H (.ref t) (.box x)
  | long {t:aa} {x:Str}:H t=some (.tup [.str "long",.str x])->x∈qs->ju bs qs H (.ref t) (.long x)
  | got {t:aa} {j:Bool}:H t=some (.tup [.str "got",.int (if j then 1 else 0)])->ju bs qs H (.ref t) (.got j)
  | now {t:aa}:H t=some (.tup [.str "now"])->ju bs qs H (.ref t) .now
  | two {t:aa} {k:Str} {u v:V} {f g:Fm}:H t=some (.tup [.str k,u,v])->k∈Ea->ju bs qs H u f->ju bs qs H v g->ju bs qs H (.ref t) (.two k f g)
theorem ju.mono {bs qs:List Str} {H H':Hp} {v:V} {f:Fm} (h:ju bs qs H v f) (s:∀ t xs,H t=some (.tup xs)->H' t=some (.tup xs)):ju bs qs H' v f:=by
  induction h with
  | num h1 h2=>exact .num (s _ _ h1) h2
  | box h1 h2=>exact .box (s _ _ h1) h2
  | long h1 h2=>exact .long (s _ _ h1) h2
  | got h1=>exact .got (s _ _ h1)
  | now h1=>exact .now (s _ _ h1)
  | two h1 h2 _ _ i1 i2=>exact .two (s _ _ h1) h2 i1 i2
theorem ju.same {bs qs:List Str} {H H':Hp} {v:V} {f:Fm} (h:ju bs qs H v f) (s:bF H H'):ju bs qs H' v f:=h.mono fun _ _ e=>s _ _ e
theorem Eb {r:Int} (h:¬ 10 ^ 15 < pC r):Wo r:=by
  unfold pC at h
  unfold Wo
  split at h <;> omega
theorem Ec {r:Int} (h:Wo r):¬ 10 ^ 15 < pC r:=by
  unfold Wo at h
  unfold pC
  split <;> omega
theorem JG {x:Rs} {r:Int} (h:cap x=.ok r):Wo r:=by
  cases x with
  | ok y =>
    unfold cap at h
    dsimp only at h
    by_cases c:10 ^ 15 < pC y
    · rw [if_pos c] at h
      cases h
    · rw [if_neg c] at h
      cases h
      exact Eb c
  | nought=>cases h
  | great=>cases h
theorem lg_wo {n:Nat} (h:n<=1000):Wo (n:Int):=by
  unfold Wo
  omega
theorem rB {bs qs:List Str} {H:Hp} {e:tD} (ok:e.Ok bs qs) {v:V} {f:Fm} (h:ju bs qs H v f):∀ {r:Int},ev e f=.ok r->Wo r:=by
  induction h with
  | num h1 h2 =>
    intro r q
    unfold ev at q
    cases q
    exact h2
  | box h1 h2 =>
    intro r q
    unfold ev at q
    cases q
    exact ok.bx _ h2
  | long h1 h2 =>
    intro r q
    unfold ev at q
    cases q
    exact lg_wo (ok.lg _ h2)
  | @got t j h1 =>
    intro r q
    unfold ev at q
    cases q
    cases j
    · exact ok.g0
    · exact ok.g1
  | now h1 =>
    intro r q
    unfold ev at q
    cases q
    exact ok.nw
  | @two t k u v f g h1 h2 _ _ i1 i2 =>
    intro r q
    unfold ev at q
    cases e1:ev e f with
    | ok a =>
      rw [e1] at q
      cases e2:ev e g with
      | ok b =>
        rw [e2] at q
        exact JG q
      | nought=>rw [e2] at q; cases q
      | great=>rw [e2] at q; cases q
    | nought=>rw [e1] at q; cases q
    | great=>rw [e1] at q; cases q
def vk (CN CG:aa) (r:Rs) (Q:VK) (E:XK) (H:Hp):Prop:=match r with
  | .ok r=>Q (.int r) H
  | .nought=>E (.ref CN) none H
  | .great=>E (.ref CG) none H
section
variable {P:aO} {w:bj} {K:af} {mg:Str->Option ae} {base:cb} {f fD fT fL CN CG CM CS:aa} {fd fdD fdT fdL:bG}
structure Fts (K:af) (mg:Str->Option ae) (CN CG:aa):Prop where
  mN:mg "Nought"=some (.ref CN)
  mG:mg "Great"=some (.ref CG)
  xN:cX K CN pJ "ValueError.__new__"=true
  xG:cX K CG pJ "ValueError.__new__"=true
  nn:cQ K (.ref CN) (.ref CN)=some true
  gn:cQ K (.ref CG) (.ref CN)=some false
  gg:cQ K (.ref CG) (.ref CG)=some true
def Io (CN:aa):Sp:=fun vs H Q E=>∃ (k:Str) (a b:Int),vs=[.str k,.int a,.int b]/\Wo b/\(b=0->E (.ref CN) none H)/\(¬ b=0->k="part"->Q (.int (a.fdiv b)) H)/\(¬ b=0->¬ k="part"->Q (.int (a.fmod b)) H)
theorem scDv:bD ["kind","first","second"] ["kind","first","second"] (aP dC):=⟨rfl,rfl,rfl,by decide +kernel,rfl,by decide +kernel,by decide +kernel⟩
theorem wB {a b:Int} (h:V.int a=V.int b):a=b:=V.int.inj h
theorem ra {a b:Str} (h:V.str a=V.str b):a=b:=V.str.inj h
theorem JH (D:Df K mg "number_of_division" dC ["kind","first","second"] f fd) (T:Fts K mg CN CG):bg P w K mg base (CXo P w) 1 f fd ["kind","first","second"] (Io CN):=by
  refine D.F.okX scDv (fun vs H Q E h=>?_) (fun cdv A outer s H vs Q E hr h=>?_)
  · obtain ⟨k,a,b,rfl,_⟩:=h
    rfl
  obtain ⟨k,a,b,rfl,hb,h1,h2,h3⟩:=h
  refine ⟨_,ax (c9 (bZ gc (pv 2) aD (cB _)) (aF (jY dy rfl rfl T.mN T.xN (ai bC ay))) cE)
    (ax (c9 (bZ gc (pv 0) bC (cB _)) (aF (bV (cS Dr (pv 1) (pv 2)))) cE)
    (aF (bV (cS FM (pv 1) (pv 2))))),?_⟩
  refine ⟨_,rfl,rfl,_,rfl,?_⟩
  refine jj (fun c=>?_) (fun c=>?_)
  · exact ⟨(by show 1<=az; decide),h1 (wB (jr c))⟩
  · have nb:¬ b=0:=fun z=>jD c (by rw [z])
    refine ⟨_,rfl,rfl,_,rfl,?_⟩
    refine jj (fun c2=>?_) (fun c2=>?_)
    · refine ⟨_,rfl,_,rfl,_,_,rfl,rfl,⟨nb,?_⟩,h2 nb (ra (jr c2))⟩
      unfold Wo at hb
      omega
    · exact ⟨_,rfl,_,rfl,_,_,rfl,rfl,nb,h3 nb (fun z=>jD c2 (by rw [z]))⟩
def Iq (CN CG:aa):Sp:=fun vs H Q E=>∃ (k:Str) (a b:Int),vs=[.str k,.int a,.int b]/\Wo a/\Wo b/\vk CN CG (mX k a b) Q E H
theorem scTw:bD ["kind","first","second"] ["kind","first","second"] (aP gm):=⟨rfl,rfl,rfl,by decide +kernel,rfl,by decide +kernel,by decide +kernel⟩
theorem JI (D:Df K mg "number_of_two" gm ["kind","first","second"] f fd) (DD:Df K mg "number_of_division" dC ["kind","first","second"] fD fdD) (T:Fts K mg CN CG) :
    bg P w K mg base (CXo P w) 2 f fd ["kind","first","second"] (Iq CN CG):=by
  have GD:bg P w K mg base (CXo P w) 1 fD fdD ["kind","first","second"] (Io CN):=JH DD T
  refine D.F.okX scTw (fun vs H Q E h=>?_) (fun cdv A outer s H vs Q E hr h=>?_)
  · obtain ⟨k,a,b,rfl,_⟩:=h
    rfl
  obtain ⟨k,a,b,rfl,ha,hb,h⟩:=h
  unfold mX at h
  refine ⟨_,ax (c9 (bZ gc (pv 0) bC (cB _)) (aF (bV (cS gz (pv 1) (pv 2)))) cE)
    (ax (c9 (bZ gc (pv 0) bC (cB _)) (aF (bV (cS sE (pv 1) (pv 2)))) cE)
    (ax (c9 (bZ gc (pv 0) bC (cB _)) (aF (bV (cS pF (pv 1) (pv 2)))) cE)
    (ax (c9 (bZ gc (pv 0) bC (cB _)) (aF (bV (nG (bZ uF (pv 1) (pv 2) (cB _)) aD aD))) cE)
    (ax (c9 (bZ gc (pv 0) bC (cB _)) (aF (bV (nG (bZ gc (pv 1) (pv 2) (cB _)) aD aD))) cE)
    (aF (bV (cw GD hr rfl DD.m DD.F.kp DD.b .nil (dy.passes fun _ _ _ z=>z) (ai (pv 0) (ai (pv 1) (ai (pv 2) ay)))))))))),?_⟩
  refine ⟨_,rfl,rfl,_,rfl,jj (fun c=>?_) (fun c=>?_)⟩
  · rw [if_pos (ra (jr c))] at h
    exact ⟨_,rfl,_,rfl,_,_,rfl,rfl,h⟩
  rw [if_neg fun z=>jD c (by rw [z])] at h
  refine ⟨_,rfl,rfl,_,rfl,jj (fun c=>?_) (fun c=>?_)⟩
  · rw [if_pos (ra (jr c))] at h
    exact ⟨_,rfl,_,rfl,_,_,rfl,rfl,h⟩
  rw [if_neg fun z=>jD c (by rw [z])] at h
  refine ⟨_,rfl,rfl,_,rfl,jj (fun c=>?_) (fun c=>?_)⟩
  · rw [if_pos (ra (jr c))] at h
    refine ⟨_,rfl,_,rfl,_,_,rfl,rfl,.inl ⟨?_,?_⟩,h⟩
    · unfold Wo at ha; omega
    · unfold Wo at ha; omega
  rw [if_neg fun z=>jD c (by rw [z])] at h
  refine ⟨_,rfl,rfl,_,rfl,jj (fun c=>?_) (fun c=>?_)⟩
  · rw [if_pos (ra (jr c))] at h
    refine ⟨_,rfl,_,rfl,_,_,rfl,rfl,_,rfl,jj (fun c2=>?_) (fun c2=>?_)⟩
    · rw [if_pos (jr c2)] at h
      exact h
    · rw [if_neg (jD c2)] at h
      exact h
  rw [if_neg fun z=>jD c (by rw [z])] at h
  refine ⟨_,rfl,rfl,_,rfl,jj (fun c=>?_) (fun c=>?_)⟩
  · rw [if_pos (ra (jr c))] at h
    refine ⟨_,rfl,_,rfl,rfl,_,rfl,jj (fun c2=>?_) (fun c2=>?_)⟩
    · rw [if_pos (wB (jr c2))] at h
      exact h
    · rw [if_neg fun z=>jD c2 (by rw [z])] at h
      exact h
  rw [if_neg fun z=>jD c (by rw [z])] at h
  refine ⟨_,rfl,_,rfl,_,rfl,k,a,b,rfl,hb,fun z=>?_,fun z1 z2=>?_,fun z1 z2=>?_⟩
  · rw [if_pos z] at h
    exact h
  · rw [if_neg z1,if_pos z2] at h
    exact h
  · rw [if_neg z1,if_neg z2] at h
    exact h
structure Holds (K:af) (CS:aa) (bs qs:List Str) (H:Hp) (st gl:aa) (e:tD):Prop where
  ex:∃ (dx bd qd:aa) (fs:List (Str×V)) (bk qk:List (Key×V)),H st=some (.ins CS dx fs)/\fs.lookup ("boxes":Str)=some (.ref bd)/\fs.lookup ("queues":Str)=some (.ref qd)/\H bd=some (.dK bk)/\H qd=some (.dK qk) /\
    (∀ x∈bs,fZ bk (Sum.inr x)=some (.int (e.bx x)))/\(∀ x∈qs,∃ l xs,fZ qk (Sum.inr x)=some (.ref l)/\H l=some (.lst xs)/\xs.length=e.lg x)
  hgl:H gl=some (.lst [.int e.g0,.int e.g1])
def Ed (K:af) (CS:aa) (bs qs:List Str):Sp:=fun vs H Q _=>∃ (v:V) (F:Fm) (st gl:aa) (e:tD),vs=[v,.ref st,.int e.nw,.ref gl]/\ju bs qs H v F/\F.depth<=1/\Holds K CS bs qs H st gl e/\∀ r,ev e F=.ok r->Q (.int r) H
theorem scLf:bD ["formula","state","now","got","kind"] ["formula","state","now","got"] (aP fy):=⟨rfl,rfl,rfl,by decide +kernel,rfl,by decide +kernel,by decide +kernel⟩
theorem Ee:¬ (("box":Str)="number")/\¬ (("long":Str)="number")/\¬ (("long":Str)="box")/\¬ (("got":Str)="number")/\¬ (("got":Str)="box")/\¬ (("got":Str)="long")/\¬ (("now":Str)="number")/\¬ (("now":Str)="box")/\¬ (("now":Str)="long")/\¬ (("now":Str)="got"):=by decide +kernel
theorem rO {a b:Str} (h:¬ a=b):decide (V.str a=V.str b)=false:=decide_eq_false fun z=>h (V.str.inj z)
theorem BF (a:Str):decide (V.str a=V.str a)=true:=decide_eq_true rfl
theorem lU {c:Bool} {b:Bool} {p q:Prop} (h:c=b) (t:if b=true then p else q):if c=true then p else q:=by
  rw [h]
  exact t
theorem GJ {bs qs:List Str} (D:Df K mg "number_of_leaf" fy ["formula","state","now","got"] f fd) (T:MdT K mg CM CS) (B:Bl mg):bg P w K mg base CX0 1 f fd ["formula","state","now","got"] (Ed K CS bs qs):=by
  refine D.F.ok scLf (fun vs H Q E h=>?_) (fun cdv A outer s H vs Q E hr h=>?_)
  · obtain ⟨v,F,st,gl,e,rfl,_⟩:=h
    rfl
  obtain ⟨v,F,st,gl,e,rfl,hF,hd,⟨⟨dx,bd,qd,fs,bk,qk,h1,h2,h3,h4,h5,h6,h7⟩,h8⟩,q⟩:=h
  have hu:=ji hr
  refine ⟨_,ax (bK (i:=4) scLf.nd rfl (Or.inl rfl) (bP b8 (pv 0) aD (fun _ _=>rfl)))
    (ax (c9 (bZ gc (pv 4) bC (cB _)) (aF (bV (bP b8 (pv 0) aD (fun _ _=>rfl)))) cE)
    (ax (c9 (bZ gc (pv 4) bC (cB _)) (aF (bV (mr hu (cq (pv 1) rfl) (bP b8 (pv 0) aD (fun _ _=>rfl)) (fun _ _=>rfl)))) cE)
    (ax (c9 (bZ gc (pv 4) bC (cB _)) (aF (bV (cZ gH (by rfl) B.len df (ai (mr hu (cq (pv 1) rfl) (bP b8 (pv 0) aD (fun _ _=>rfl)) (fun _ _=>rfl)) ay)))) cE)
    (ax (c9 (bZ gc (pv 4) bC (cB _)) (aF (bV (bP eY (pv 3) (bP b8 (pv 0) aD (fun _ _=>rfl)) (fun _ _=>rfl)))) cE)
    (aF (bV (pv 2))))))),?_⟩
  obtain ⟨k1,k2,k3,k4,k5,k6,k7,k8,k9,k10⟩:=Ee
  cases hF with
  | @num t n ht hn =>
    refine ⟨_,rfl,t,_,_,_,rfl,rfl,SqT.of ht,rfl,_,rfl,rfl,_,rfl,lU (BF _) (gJ ?_)⟩
    exact ⟨_,rfl,t,_,_,_,rfl,rfl,SqT.of ht,rfl,q _ rfl⟩
  | @box t x ht hx =>
    refine ⟨_,rfl,t,_,_,_,rfl,rfl,SqT.of ht,rfl,_,rfl,rfl,_,rfl,lU (rO k1) (fG ?_)⟩
    refine ⟨_,rfl,rfl,_,rfl,lU (BF _) (gJ ?_)⟩
    exact ⟨_,rfl,st,CS,dx,_,_,rfl,h1,T.clS,T.nB,h2,_,rfl,t,_,_,_,rfl,rfl,SqT.of ht,rfl,bd,_,rfl,(by have z:=hZ.k (k:=Sum.inr x) h4; rw [h6 x hx] at z; exact z),q _ rfl⟩
  | @long t x ht hx =>
    obtain ⟨l,xs,g1,g2,g3⟩:=h7 x hx
    refine ⟨_,rfl,t,_,_,_,rfl,rfl,SqT.of ht,rfl,_,rfl,rfl,_,rfl,lU (rO k2) (fG ?_)⟩
    refine ⟨_,rfl,rfl,_,rfl,lU (rO k3) (fG ?_)⟩
    refine ⟨_,rfl,rfl,_,rfl,lU (BF _) (gJ ?_)⟩
    exact ⟨_,rfl,st,CS,dx,_,_,rfl,h1,T.clS,T.nQ,h3,_,rfl,t,_,_,_,rfl,rfl,SqT.of ht,rfl,qd,_,rfl,(by have z:=hZ.k (k:=Sum.inr x) h5; rw [g1] at z; exact z),l,xs,rfl,.inl (SqL.of g2),q _ (by rw [g3]; rfl)⟩
  | @got t j ht =>
    refine ⟨_,rfl,t,_,_,_,rfl,rfl,SqT.of ht,rfl,_,rfl,rfl,_,rfl,lU (rO k4) (fG ?_)⟩
    refine ⟨_,rfl,rfl,_,rfl,lU (rO k5) (fG ?_)⟩
    refine ⟨_,rfl,rfl,_,rfl,lU (rO k6) (fG ?_)⟩
    refine ⟨_,rfl,rfl,_,rfl,lU (BF _) (gJ ?_)⟩
    cases j
    · exact ⟨_,rfl,_,rfl,t,_,_,_,rfl,rfl,SqT.of ht,rfl,gl,_,_,_,rfl,rfl,SqL.of h8,rfl,q _ rfl⟩
    · exact ⟨_,rfl,_,rfl,t,_,_,_,rfl,rfl,SqT.of ht,rfl,gl,_,_,_,rfl,rfl,SqL.of h8,rfl,q _ rfl⟩
  | @now t ht =>
    refine ⟨_,rfl,t,_,_,_,rfl,rfl,SqT.of ht,rfl,_,rfl,rfl,_,rfl,lU (rO k7) (fG ?_)⟩
    refine ⟨_,rfl,rfl,_,rfl,lU (rO k8) (fG ?_)⟩
    refine ⟨_,rfl,rfl,_,rfl,lU (rO k9) (fG ?_)⟩
    refine ⟨_,rfl,rfl,_,rfl,lU (rO k10) (fG ?_)⟩
    exact ⟨_,rfl,q _ rfl⟩
  | @two t k u v f1 f2 ht hk h1 h2 =>
    have z1:0 < f1.depth:=by cases f1 <;> exact zu _
    unfold Fm.depth at hd
    omega
def Ef (K:af) (CS CN CG:aa) (bs qs:List Str) (n:Nat):Sp:=fun vs H Q E=>∃ (v:V) (F:Fm) (st gl:aa) (e:tD),vs=[v,.ref st,.int e.nw,.ref gl]/\ju bs qs H v F/\F.depth<=n/\Holds K CS bs qs H st gl e/\e.Ok bs qs/\vk CN CG (ev e F) Q E H
theorem Eg:bD ["formula","state","now","got","first","second","number"] ["formula","state","now","got"] (aP j0):=⟨rfl,rfl,rfl,by decide +kernel,rfl,by decide +kernel,by decide +kernel⟩
theorem GK {bs qs:List Str} {H:Hp} {v:V} {F:Fm} (h:ju bs qs H v F):(∃ t xs,v=.ref t/\H t=some (.tup xs)/\¬ (xs.length:Int)=3/\F.depth<=1/\∀ e:tD,∃ r,ev e F=.ok r) \/
    ∃ t k u w f g,v=.ref t/\F=.two k f g/\H t=some (.tup [.str k,u,w])/\k∈Ea/\ju bs qs H u f/\ju bs qs H w g:=by
  cases h with
  | num h1 h2=>exact .inl ⟨_,_,rfl,h1,by show ¬ ((2:Nat):Int)=3; decide,aE _,fun e=>⟨_,rfl⟩⟩
  | box h1 h2=>exact .inl ⟨_,_,rfl,h1,by show ¬ ((2:Nat):Int)=3; decide,aE _,fun e=>⟨_,rfl⟩⟩
  | long h1 h2=>exact .inl ⟨_,_,rfl,h1,by show ¬ ((2:Nat):Int)=3; decide,aE _,fun e=>⟨_,rfl⟩⟩
  | got h1=>exact .inl ⟨_,_,rfl,h1,by show ¬ ((2:Nat):Int)=3; decide,aE _,fun e=>⟨_,rfl⟩⟩
  | now h1=>exact .inl ⟨_,_,rfl,h1,by show ¬ ((1:Nat):Int)=3; decide,aE _,fun e=>⟨_,rfl⟩⟩
  | two h1 h2 h3 h4=>exact .inr ⟨_,_,_,_,_,_,rfl,rfl,h1,h2,h3,h4⟩
theorem GV {bs qs:List Str} {n:Nat} (D:Df K mg "worth_of" j0 ["formula","state","now","got"] f fd) (DT:Df K mg "number_of_two" gm ["kind","first","second"] fT fdT) (DD:Df K mg "number_of_division" dC ["kind","first","second"] fD fdD)
    (DL:Df K mg "number_of_leaf" fy ["formula","state","now","got"] fL fdL) (T:Fts K mg CN CG) (TM:MdT K mg CM CS) (B:Bl mg) (G:bg P w K mg base (CXo P w) (n + 2) f fd ["formula","state","now","got"] (Ef K CS CN CG bs qs n)) :
    bg P w K mg base (CXo P w) (n + 3) f fd ["formula","state","now","got"] (Ef K CS CN CG bs qs (n + 1)):=by
  have GT:bg P w K mg base (CXo P w) 2 fT fdT ["kind","first","second"] (Iq CN CG):=JI DT DD T
  have GL:bg P w K mg base CX0 1 fL fdL ["formula","state","now","got"] (Ed K CS bs qs):=GJ DL TM B
  refine D.F.okX Eg (fun vs H Q E h=>?_) (fun cdv A outer s H vs Q E hr h=>?_)
  · obtain ⟨v,F,st,gl,e,rfl,_⟩:=h
    rfl
  obtain ⟨v,F,st,gl,e,rfl,hF,hd,ho,eo,h⟩:=h
  have r2:dN 2 _:=hr.mono (by omega)
  have r1:dN 1 _:=hr.mono (by omega)
  refine ⟨_,ax (c9 (bZ gc (cZ gH (by rfl) B.len df (ai (pv 0) ay)) aD (cB _))
      (ax (bK (i:=4) Eg.nd rfl (Or.inl rfl) (cw G hr rfl D.m D.F.kp D.b .nil (dy.passes fun _ _ _ z=>z) (ai (bP b8 (pv 0) aD (fun _ _=>rfl)) (ai (pv 1) (ai (pv 2) (ai (pv 3) ay))))))
      (ax (bK (i:=5) Eg.nd rfl (Or.inl rfl) (cw G hr rfl D.m D.F.kp D.b .nil (dy.passes fun _ _ _ z=>z) (ai (bP b8 (pv 0) aD (fun _ _=>rfl)) (ai (pv 1) (ai (pv 2) (ai (pv 3) ay))))))
      (aF (bK (i:=6) Eg.nd rfl (Or.inl rfl) (cw GT r2 rfl DT.m DT.F.kp DT.b .nil (dy.passes fun _ _ _ z=>z) (ai (bP b8 (pv 0) aD (fun _ _=>rfl)) (ai (pv 4) (ai (pv 5) ay))))))))
      (aF (bK (i:=6) Eg.nd rfl (Or.inl rfl) (cw GL r1 rfl DL.m DL.F.kp DL.b .nil cL (ai (pv 0) (ai (pv 1) (ai (pv 2) (ai (pv 3) ay))))))))
    (ax (c9 (bZ xl (cZ CO (by rfl) B.abs boot_abs (ai (pv 6) ay)) (cS yS aD aD) (cB _)) (aF (jY dy rfl rfl T.mG T.xG (ai bC ay))) cE)
    (aF (bV (pv 6)))),?_⟩
  have c15:FK 10 15:=⟨by decide,by decide,by decide⟩
  have l1:1<=az:=by decide
  rcases GK hF with ⟨t,xs,rfl,ht,hx,hd1,hv⟩ | ⟨t,k,u,v',f1,f2,rfl,rfl,ht,hk,h1,h2⟩
  · obtain ⟨r,hr'⟩:=hv e
    refine ⟨_,rfl,t,_,rfl,.inr (SqT.of ht),rfl,_,rfl,jj (fun c=>absurd (wB (jr c)) hx) (fun c=>?_)⟩
    refine ⟨_,rfl,_,rfl,_,rfl,_,rfl,.ref t,F,st,gl,e,rfl,hF,hd1,ho,fun r' hr2=>?_⟩
    refine ⟨_,rfl,_,rfl,_,_,rfl,rfl,c15,_,_,rfl,rfl,_,rfl,jj (fun c=>?_) (fun c=>?_)⟩
    · exact absurd (jr c) (Ec (rB eo hF hr2))
    · rw [hr2] at h
      exact ⟨_,rfl,h⟩
  · have d1:f1.depth<=n:=by
      unfold Fm.depth at hd
      omega
    have d2:f2.depth<=n:=by
      unfold Fm.depth at hd
      omega
    refine ⟨_,rfl,t,_,rfl,.inr (SqT.of ht),rfl,_,rfl,jj (fun c=>?_) (fun c=>absurd rfl (jD c))⟩
    refine ⟨_,rfl,t,_,_,_,rfl,rfl,SqT.of ht,rfl,_,rfl,_,rfl,_,rfl,u,f1,st,gl,e,rfl,h1,d1,ho,eo,?_⟩
    unfold ev at h
    cases e1:ev e f1 with
    | nought=>rw [e1] at h; exact h
    | great=>rw [e1] at h; exact h
    | ok a =>
      rw [e1] at h
      refine ⟨_,rfl,t,_,_,_,rfl,rfl,SqT.of ht,rfl,_,rfl,_,rfl,_,rfl,v',f2,st,gl,e,rfl,h2,d2,ho,eo,?_⟩
      cases e2:ev e f2 with
      | nought=>rw [e2] at h; exact h
      | great=>rw [e2] at h; exact h
      | ok b =>
        rw [e2] at h
        have h:vk CN CG (cap (mX k a b)) Q E H:=h
        refine ⟨_,rfl,t,_,_,_,rfl,rfl,SqT.of ht,rfl,_,rfl,_,rfl,k,a,b,rfl,rB eo h1 e1,rB eo h2 e2,?_⟩
        cases e3:mX k a b with
        | nought=>rw [e3] at h; exact h
        | great=>rw [e3] at h; exact h
        | ok r =>
          rw [e3] at h
          have h':vk CN CG (if 10 ^ 15 < pC r then .great else .ok r) Q E H:=h
          refine ⟨_,rfl,_,rfl,_,_,rfl,rfl,c15,_,_,rfl,rfl,_,rfl,jj (fun c=>?_) (fun c=>?_)⟩
          · rw [if_pos (show 10 ^ 15 < pC r from jr c)] at h'
            exact ⟨l1,h'⟩
          · rw [if_neg (show ¬ 10 ^ 15 < pC r from jD c)] at h'
            exact ⟨_,rfl,h'⟩
theorem BG (F:Fm):0 < F.depth:=by cases F <;> exact zu _
theorem Ir {bs qs:List Str} (D:Df K mg "worth_of" j0 ["formula","state","now","got"] f fd) (DT:Df K mg "number_of_two" gm ["kind","first","second"] fT fdT) (DD:Df K mg "number_of_division" dC ["kind","first","second"] fD fdD)
    (DL:Df K mg "number_of_leaf" fy ["formula","state","now","got"] fL fdL) (T:Fts K mg CN CG) (TM:MdT K mg CM CS) (B:Bl mg):∀ n:Nat,bg P w K mg base (CXo P w) (n + 2) f fd ["formula","state","now","got"] (Ef K CS CN CG bs qs n)
  | 0=>by
    have no:∀ vs H Q E,¬ Ef K CS CN CG bs qs 0 vs H Q E:=fun vs H Q E h=>by
      obtain ⟨v,F,st,gl,e,_,_,hd,_⟩:=h
      have:=BG F
      omega
    exact ⟨fun vs H Q E h=>absurd h (no vs H Q E),fun A outer s H args us vs Q E _ _ _ _ h=>absurd h (no vs H Q E)⟩
  | n + 1=>GV D DT DD DL T TM B (Ir D DT DD DL T TM B n)
end
end My
namespace My
open PySem L2
mutual
inductive Dd where
  | put (x:Str) (f:Fm)
  | push (q:Str) (f:Fm)
  | pull (q x:Str) (o:Ds)
  | draw (x:Str) (f:Fm)
  | send (to:Int) (sg:Str) (sp:Fm) (rk:Int) (a b:Fm)
  | ife (f:Fm) (t e:Ds)
  | fin
inductive Ds where
  | nil
  | cons (d:Dd) (r:Ds)
end
inductive Flt where
  | nought
  | great
  | full
  | dry
  | span
  | late
structure Ev where
  t:Int
  r:Int
  fr:Int
  c:Int
  to:Int
  sg:Str
  a:Int
  b:Int
structure Wk where
  bx:List (Str×Int)
  qu:List (Str×List Int)
  dr:Nat
  se:Int
  wr:List Str
  out:List Ev
  en:Bool
  rk:List Fm
  qn:List Str
def Wk.len (w:Wk):Nat:=w.out.length + w.rk.length
def o9 (ps:List (Str×Int)) (x:Str):Int:=(ps.lookup x).getD 0
def iU (ps:List (Str×List Int)) (x:Str):List Int:=(ps.lookup x).getD []
def lD {α:Type} (ps:List (Str×α)) (x:Str) (n:α):List (Str×α):=ps.map fun p=>if p.1=x then (p.1,n) else p
def lE (xs:List Str) (x:Str):List Str:=if x∈xs then xs else xs++[x]
def uw (h:Ev) (w:Wk):tD:=⟨o9 w.bx,fun q=>(iU w.qu q).length,h.a,h.b,h.t⟩
def rck (h:Ev) (w:Wk) (f:Fm) (k:Wk->Int->Except Flt Wk):Except Flt Wk:=match ev (uw h w) f with
  | .ok n=>k {w with rk:=w.rk++[f]} n
  | .nought=>.error .nought
  | .great=>.error .great
def xZ (w:Wk) (x:Str) (n:Int):Wk:={w with bx:=lD w.bx x n,wr:=lE w.wr x}
def Iu (h:Ev) (w:Wk) (to:Int) (sg:Str) (rk t a b:Int):Wk:={w with se:=w.se + 1,out:=w.out++[⟨t,rk,h.to,w.se,to,sg,a,b⟩]}
mutual
def doD (h:Ev) (ds:List Int):Dd->Wk->Except Flt Wk
  | .put x f,w=>rck h w f fun w n=>.ok (xZ w x n)
  | .push q f,w=>rck h w f fun w n=>if 30<=(iU w.qu q).length then .error .full else .ok {w with qu:=lD w.qu q (iU w.qu q++[n]),wr:=lE w.wr q,qn:=lE w.qn q}
  | .pull q x o,w=>match iU w.qu q with
    | []=>doS h ds o {w with qn:=lE w.qn q}
    | n :: ns=>.ok {w with qu:=lD w.qu q ns,bx:=lD w.bx x n,wr:=lE (lE w.wr x) q,qn:=lE w.qn q}
  | .draw x f,w=>rck h w f fun w n=>if n < 1 then .error .nought else if ds=[] then .error .dry else .ok (xZ {w with dr:=w.dr + 1} x (ds.getD (w.dr % ds.length) 0 % n))
  | .send to sg sp rk a b,w=>rck h w sp fun w n=>if n < 1\/10 ^ 6 < n then .error .span else rck h w a fun w x=>rck h w b fun w y=>if 10 ^ 12 < h.t + n then .error .late else .ok (Iu h w to sg rk (h.t + n) x y)
  | .ife f t e,w=>rck h w f fun w n=>if n=0 then doS h ds e w else doS h ds t w
  | .fin,w=>.ok {w with en:=true}
def doS (h:Ev) (ds:List Int):Ds->Wk->Except Flt Wk
  | .nil,w=>.ok w
  | .cons d r,w=>match doD h ds d w with
    | .ok w'=>doS h ds r w'
    | .error e=>.error e
end
mutual
def Dd.deep:Dd->Nat
  | .pull _ _ o=>o.deep + 1
  | .ife _ t e=>max t.deep e.deep + 1
  | _=>0
def Ds.deep:Ds->Nat
  | .nil=>0
  | .cons d r=>max d.deep r.deep
end
def j3 (H:Hp) (R:List V->Prop) (v:V):Prop:=∃ l vs,v=.ref l/\H l=some (.lst vs)/\vs.length < 1000/\R vs
def FmI (bs qs:List Str) (H:Hp) (v:V) (f:Fm):Prop:=ju bs qs H v f/\f.depth<=15
mutual
def dZ (bs qs:List Str) (H:Hp):Dd->V->Prop
  | .put x f,v=>∃ t u,v=.ref t/\H t=some (.tup [.str "put",.str x,u])/\x∈bs/\FmI bs qs H u f
  | .push q f,v=>∃ t u,v=.ref t/\H t=some (.tup [.str "push",.str q,u])/\q∈qs/\FmI bs qs H u f
  | .pull q x o,v=>∃ t u,v=.ref t/\H t=some (.tup [.str "pull",.str q,.str x,u])/\q∈qs/\x∈bs/\j3 H (eV bs qs H o) u
  | .draw x f,v=>∃ t u,v=.ref t/\H t=some (.tup [.str "draw",.str x,u])/\x∈bs/\FmI bs qs H u f
  | .send to sg sp rk a b,v=>∃ t u u1 u2,v=.ref t/\H t=some (.tup [.str "send",.int to,.str sg,u,.int rk,u1,u2])/\FmI bs qs H u sp/\FmI bs qs H u1 a/\FmI bs qs H u2 b
  | .ife f x y,v=>∃ t u u1 u2,v=.ref t/\H t=some (.tup [.str "if",u,u1,u2])/\FmI bs qs H u f/\j3 H (eV bs qs H x) u1/\j3 H (eV bs qs H y) u2
  | .fin,v=>∃ t,v=.ref t/\H t=some (.tup [.str "end"])
def eV (bs qs:List Str) (H:Hp):Ds->List V->Prop
  | .nil,vs=>vs=[]
  | .cons d r,vs=>∃ v vr,vs=v :: vr/\dZ bs qs H d v/\eV bs qs H r vr
end
theorem j3.same {H H':Hp} (s:bF H H') {R R':List V->Prop} (f:∀ vs,R vs->R' vs) {v:V} (h:j3 H R v):j3 H' R' v:=by
  obtain ⟨l,vs,e,h1,h2,h3⟩:=h
  exact ⟨l,vs,e,s _ _ h1,h2,f vs h3⟩
theorem FmI.same {bs qs:List Str} {H H':Hp} (s:bF H H') {v:V} {f:Fm} (h:FmI bs qs H v f):FmI bs qs H' v f:=⟨h.1.same s,h.2⟩
mutual
theorem dZ.same {bs qs:List Str} {H H':Hp} (s:bF H H'):∀ (d:Dd) (v:V),dZ bs qs H d v->dZ bs qs H' d v
  | .put x f,v,h=>by
    obtain ⟨t,u,e,h1,h2,h3⟩:=(by simpa only [dZ] using h)
    simp only [dZ]
    exact ⟨t,u,e,s _ _ h1,h2,h3.same s⟩
  | .push q f,v,h=>by
    obtain ⟨t,u,e,h1,h2,h3⟩:=(by simpa only [dZ] using h)
    simp only [dZ]
    exact ⟨t,u,e,s _ _ h1,h2,h3.same s⟩
  | .pull q x o,v,h=>by
    obtain ⟨t,u,e,h1,h2,h3,h4⟩:=(by simpa only [dZ] using h)
    simp only [dZ]
    exact ⟨t,u,e,s _ _ h1,h2,h3,h4.same s (eV.same s o)⟩
  | .draw x f,v,h=>by
    obtain ⟨t,u,e,h1,h2,h3⟩:=(by simpa only [dZ] using h)
    simp only [dZ]
    exact ⟨t,u,e,s _ _ h1,h2,h3.same s⟩
  | .send to sg sp rk a b,v,h=>by
    obtain ⟨t,u,u1,u2,e,h1,h2,h3,h4⟩:=(by simpa only [dZ] using h)
    simp only [dZ]
    exact ⟨t,u,u1,u2,e,s _ _ h1,h2.same s,h3.same s,h4.same s⟩
  | .ife f x y,v,h=>by
    obtain ⟨t,u,u1,u2,e,h1,h2,h3,h4⟩:=(by simpa only [dZ] using h)
    simp only [dZ]
    exact ⟨t,u,u1,u2,e,s _ _ h1,h2.same s,h3.same s (eV.same s x),h4.same s (eV.same s y)⟩
  | .fin,v,h=>by
    obtain ⟨t,e,h1⟩:=(by simpa only [dZ] using h)
    simp only [dZ]
    exact ⟨t,e,s _ _ h1⟩
theorem eV.same {bs qs:List Str} {H H':Hp} (s:bF H H'):∀ (d:Ds) (vs:List V),eV bs qs H d vs->eV bs qs H' d vs
  | .nil,vs,h=>by
    simpa only [eV] using h
  | .cons d r,vs,h=>by
    obtain ⟨v,vr,e,h1,h2⟩:=(by simpa only [eV] using h)
    simp only [eV]
    exact ⟨v,vr,e,dZ.same s d v h1,eV.same s r vr h2⟩
end
def jB (H:Hp) (v:V) (e:Ev):Prop:=∃ t k,v=.ref t/\H t=some (.tup [.ref k,.int e.to,.str e.sg,.int e.a,.int e.b])/\H k=some (.tup [.int e.t,.int e.r,.int e.fr,.int e.c])
theorem jB.same {H H':Hp} (s:bF H H') {v:V} {e:Ev} (h:jB H v e):jB H' v e:=by
  obtain ⟨t,k,e1,h1,h2⟩:=h
  exact ⟨t,k,e1,s _ _ h1,s _ _ h2⟩
def boK (ps:List (Str×Int)):List (Key×V):=ps.map fun p=>((Sum.inr p.1:Key),V.int p.2)
def quK (ps:List (Str×aa)):List (Key×V):=ps.map fun p=>((Sum.inr p.1:Key),V.ref p.2)
def wrK (xs:List Str):List (Key×V):=xs.map fun x=>((Sum.inr x:Key),V.bl true)
theorem qq {α:Type} (g:α->V) (x:Str):∀ ps:List (Str×α),fZ (ps.map fun p=>((Sum.inr p.1:Key),g p.2)) (Sum.inr x)=(ps.lookup x).map g
  | []=>rfl
  | p :: ps=>by
    rw [cC]
    by_cases c:p.1=x
    · rw [iN (by rw [c])]
      obtain ⟨a,b⟩:=p
      dsimp only at c
      subst c
      rw [aZ]
      rfl
    · rw [iw (fun z=>c (je z)),qq g x ps]
      obtain ⟨a,b⟩:=p
      dsimp only at c
      rw [cg]
      have:(x == a)=false:=beq_eq_false_iff_ne.mpr fun z=>c z.symm
      rw [this]
theorem GY {α:Type} (g:α->V) (x:Str) (n:α) {ps:List (Str×α)} (h:(ps.lookup x).isSome=true):fH (ps.map fun p=>((Sum.inr p.1:Key),g p.2)) (Sum.inr x) (g n)=(lD ps x n).map fun p=>((Sum.inr p.1:Key),g p.2):=by
  unfold fH
  rw [jk,qq,lA,h,if_pos rfl]
  unfold lD
  rw [gv,gv]
  apply j4
  intro p _
  by_cases c:p.1=x
  · simp only [pe,c,if_true]
  · simp only [pe,if_neg c,if_neg (fun z=>c (je z):¬ (Sum.inr p.1:Key)=Sum.inr x)]
theorem Ay (xs:List Str) (x:Str):fZ (wrK xs) (Sum.inr x)=if x∈xs then some (.bl true) else none:=by
  induction xs with
  | nil=>rfl
  | cons y xs ih =>
    unfold wrK at ih |-
    rw [cC]
    by_cases c:y=x
    · rw [iN (by rw [c]),if_pos (by rw [c]; exact aJ)]
    · rw [iw (fun z=>c (je z)),ih]
      by_cases m:x∈xs
      · rw [if_pos m,if_pos (aj _ m)]
      · rw [if_neg m,if_neg]
        intro z
        rcases ak.mp z with z | z
        · exact c z.symm
        · exact m z
theorem Az (xs:List Str) (x:Str):fH (wrK xs) (Sum.inr x) (.bl true)=wrK (lE xs x):=by
  unfold fH
  rw [jk,Ay]
  by_cases m:x∈xs
  · rw [if_pos m]
    unfold lE
    rw [if_pos m]
    show (if true=true then _ else _)=_
    rw [if_pos rfl]
    unfold wrK
    rw [gv]
    apply j4
    intro y _
    by_cases c:y=x
    · simp only [pe,c,if_true]
    · simp only [pe,if_neg (fun z=>c (je z):¬ (Sum.inr y:Key)=Sum.inr x)]
  · rw [if_neg m]
    unfold lE
    rw [if_neg m]
    show (if false=true then _ else _)=_
    rw [if_neg (by decide)]
    unfold wrK
    rw [ba]
    rfl
theorem vm {α:Type} (ps:List (Str×α)) (x:Str) (n:α):(lD ps x n).map (·.1)=ps.map (·.1):=by
  unfold lD
  rw [gv]
  apply j4
  intro p _
  show (if p.1=x then (p.1,n) else p).1=p.1
  split <;> rfl
theorem lV {α:Type} {x:Str}:∀ {ps:List (Str×α)},x∈ps.map (·.1)->∃ a,ps.lookup x=some a/\(x,a)∈ps
  | [],h=>by cases h
  | p :: ps,h=>by
    obtain ⟨k,a⟩:=p
    by_cases c:x=k
    · subst c
      exact ⟨a,aZ,aJ⟩
    · have h':x∈ps.map (·.1):=by
        rcases ak.mp h with z | z
        · exact absurd z c
        · exact z
      obtain ⟨b,h1,h2⟩:=lV h'
      refine ⟨b,?_,aj _ h2⟩
      rw [cg,beq_eq_false_iff_ne.mpr c]
      exact h1
theorem x5 {α:Type} {x:Str} {n:α} {ps:List (Str×α)} {q:Str×α} (h:q∈lD ps x n):q∈ps\/q.2=n:=by
  obtain ⟨p,hp,e⟩:=bH.mp h
  by_cases c:p.1=x
  · rw [if_pos c] at e
    subst e
    exact .inr rfl
  · rw [if_neg c] at e
    subst e
    exact .inl hp
end My
namespace My
open PySem L2
structure DT (K:af) (mg:Str->Option ae) (CD:aa):Prop where
  cl:Cls K CD
  nM:dG K CD "machine"
  nH:dG K CD "happening"
  nS:dG K CD "state"
  nW:dG K CD "written"
  nO:dG K CD "outgoing"
  nE:dG K CD "ends"
  nR:dG K CD "reckoned"
  nQ:dG K CD "queued"
  mD:mg "Doing"=some (.ref CD)
def dF (m h:V) (st wd od:aa) (en:Bool) (rd ud:aa):List (Str×V):=[("machine",m),("happening",h),("state",.ref st),("written",.ref wd),("outgoing",.ref od),("ends",.bl en),("reckoned",.ref rd),("queued",.ref ud)]
abbrev zv:List Str:=["machine","happening","state","written","outgoing","ends","reckoned","queued"]
theorem JJ (m h:V) (st wd od:aa) (en:Bool) (rd ud:aa):(dF m h st wd od en rd ud).lookup ("machine":Str)=some m:=aZ
theorem dE {k x:Str} {v:V} {r:List (Str×V)} (h:(x == k)=false):((k,v) :: r).lookup x=r.lookup x:=by rw [cg,h]
theorem GZ (m h:V) (st wd od:aa) (en:Bool) (rd ud:aa):(dF m h st wd od en rd ud).lookup ("happening":Str)=some h:=by
  unfold dF
  rw [dE (by decide +kernel),aZ]
theorem ux (m h:V) (st wd od:aa) (en:Bool) (rd ud:aa):(dF m h st wd od en rd ud).lookup ("state":Str)=some (.ref st):=by
  unfold dF
  rw [dE (by decide +kernel),dE (by decide +kernel),aZ]
theorem Eh (m h:V) (st wd od:aa) (en:Bool) (rd ud:aa):(dF m h st wd od en rd ud).lookup ("written":Str)=some (.ref wd):=by
  unfold dF
  rw [dE (by decide +kernel),dE (by decide +kernel),dE (by decide +kernel),aZ]
theorem dF_o (m h:V) (st wd od:aa) (en:Bool) (rd ud:aa):(dF m h st wd od en rd ud).lookup ("outgoing":Str)=some (.ref od):=by
  unfold dF
  rw [dE (by decide +kernel),dE (by decide +kernel),dE (by decide +kernel),dE (by decide +kernel),aZ]
theorem dF_e (m h:V) (st wd od:aa) (en:Bool) (rd ud:aa):(dF m h st wd od en rd ud).lookup ("ends":Str)=some (.bl en):=by
  unfold dF
  rw [dE (by decide +kernel),dE (by decide +kernel),dE (by decide +kernel),dE (by decide +kernel),dE (by decide +kernel),aZ]
theorem dF_r (m h:V) (st wd od:aa) (en:Bool) (rd ud:aa):(dF m h st wd od en rd ud).lookup ("reckoned":Str)=some (.ref rd):=by
  unfold dF
  rw [dE (by decide +kernel),dE (by decide +kernel),dE (by decide +kernel),dE (by decide +kernel),dE (by decide +kernel),dE (by decide +kernel),aZ]
theorem dF_u (m h:V) (st wd od:aa) (en:Bool) (rd ud:aa):(dF m h st wd od en rd ud).lookup ("queued":Str)=some (.ref ud):=by
  unfold dF
  rw [dE (by decide +kernel),dE (by decide +kernel),dE (by decide +kernel),dE (by decide +kernel),dE (by decide +kernel),dE (by decide +kernel),dE (by decide +kernel),aZ]
theorem mY (m h:V) (st wd od:aa) (en:Bool) (rd ud:aa) {x:Str} (hx:zv.contains x=false):(dF m h st wd od en rd ud).lookup x=none:=by
  have z:∀ k∈zv,(x == k)=false:=fun k hk=>beq_eq_false_iff_ne.mpr fun e=>by
    rw [e,zw.mpr hk] at hx
    cases hx
  unfold dF
  rw [dE (z _ (by simp)),dE (z _ (by simp)),dE (z _ (by simp)),dE (z _ (by simp)),dE (z _ (by simp)),dE (z _ (by simp)),dE (z _ (by simp)),dE (z _ (by simp))]
  rfl
theorem sne {a b:Str} (h:(a == b)=false):¬ a=b:=fun e=>by
  rw [e,beq_self_eq_true] at h
  cases h
theorem JK (m h:V) (st wd od:aa) (en:Bool) (rd ud:aa):cM "queued" (.ref ud) (cM "reckoned" (.ref rd) (cM "ends" (.bl en) (cM "outgoing" (.ref od) (cM "written" (.ref wd) (cM "state" (.ref st) (cM "happening" h (cM "machine" m [])))))))=dF m h st wd od en rd ud:=by
  simp only [dF,cM,if_neg (sne (a:="machine") (b:="happening") (by decide +kernel)),if_neg (sne (a:="machine") (b:="state") (by decide +kernel)),if_neg (sne (a:="machine") (b:="written") (by decide +kernel)),if_neg (sne (a:="machine") (b:="outgoing") (by decide +kernel)),if_neg (sne (a:="machine") (b:="ends") (by decide +kernel)),if_neg (sne (a:="machine") (b:="reckoned") (by decide +kernel)),if_neg (sne (a:="machine") (b:="queued") (by decide +kernel)),if_neg (sne (a:="happening") (b:="state") (by decide +kernel)),if_neg (sne (a:="happening") (b:="written") (by decide +kernel)),if_neg (sne (a:="happening") (b:="outgoing") (by decide +kernel)),if_neg (sne (a:="happening") (b:="ends") (by decide +kernel)),if_neg (sne (a:="happening") (b:="reckoned") (by decide +kernel)),if_neg (sne (a:="happening") (b:="queued") (by decide +kernel)),if_neg (sne (a:="state") (b:="written") (by decide +kernel)),if_neg (sne (a:="state") (b:="outgoing") (by decide +kernel)),if_neg (sne (a:="state") (b:="ends") (by decide +kernel)),if_neg (sne (a:="state") (b:="reckoned") (by decide +kernel)),if_neg (sne (a:="state") (b:="queued") (by decide +kernel)),if_neg (sne (a:="written") (b:="outgoing") (by decide +kernel)),if_neg (sne (a:="written") (b:="ends") (by decide +kernel)),if_neg (sne (a:="written") (b:="reckoned") (by decide +kernel)),if_neg (sne (a:="written") (b:="queued") (by decide +kernel)),if_neg (sne (a:="outgoing") (b:="ends") (by decide +kernel)),if_neg (sne (a:="outgoing") (b:="reckoned") (by decide +kernel)),if_neg (sne (a:="outgoing") (b:="queued") (by decide +kernel)),if_neg (sne (a:="ends") (b:="reckoned") (by decide +kernel)),if_neg (sne (a:="ends") (b:="queued") (by decide +kernel)),if_neg (sne (a:="reckoned") (b:="queued") (by decide +kernel))]
theorem JL (m h:V) (st wd od:aa) (en e2:Bool) (rd ud:aa):cM "ends" (.bl e2) (dF m h st wd od en rd ud)=dF m h st wd od e2 rd ud:=by
  simp only [dF,cM,if_neg (sne (a:="machine") (b:="ends") (by decide +kernel)),if_neg (sne (a:="happening") (b:="ends") (by decide +kernel)),if_neg (sne (a:="state") (b:="ends") (by decide +kernel)),if_neg (sne (a:="written") (b:="ends") (by decide +kernel)),if_neg (sne (a:="outgoing") (b:="ends") (by decide +kernel)),if_true]
theorem jc (b q d e:V):mH b q d e=([("boxes",b),("queues",q),("drawn",d),("sent",e)]:List (Str×V)):=by
  simp only [mH,cM,if_neg (sne (a:="boxes") (b:="queues") (by decide +kernel)),if_neg (sne (a:="boxes") (b:="drawn") (by decide +kernel)),if_neg (sne (a:="boxes") (b:="sent") (by decide +kernel)),if_neg (sne (a:="queues") (b:="drawn") (by decide +kernel)),if_neg (sne (a:="queues") (b:="sent") (by decide +kernel)),if_neg (sne (a:="drawn") (b:="sent") (by decide +kernel))]
theorem JM (b q d e d':V):cM "drawn" d' (mH b q d e)=mH b q d' e:=by
  rw [jc,jc]
  simp only [cM,if_neg (sne (a:="boxes") (b:="drawn") (by decide +kernel)),if_neg (sne (a:="queues") (b:="drawn") (by decide +kernel)),if_true]
theorem JN (b q d e e':V):cM "sent" e' (mH b q d e)=mH b q d e':=by
  rw [jc,jc]
  simp only [cM,if_neg (sne (a:="boxes") (b:="sent") (by decide +kernel)),if_neg (sne (a:="queues") (b:="sent") (by decide +kernel)),if_neg (sne (a:="drawn") (b:="sent") (by decide +kernel)),if_true]
theorem Ei (b q d e:V):(mH b q d e).lookup ("boxes":Str)=some b:=by rw [jc,aZ]
theorem Ha (b q d e:V):(mH b q d e).lookup ("queues":Str)=some q:=by rw [jc,dE (by decide +kernel),aZ]
theorem Hc (b q d e:V):(mH b q d e).lookup ("drawn":Str)=some d:=by rw [jc,dE (by decide +kernel),dE (by decide +kernel),aZ]
theorem Hd (b q d e:V):(mH b q d e).lookup ("sent":Str)=some e:=by rw [jc,dE (by decide +kernel),dE (by decide +kernel),dE (by decide +kernel),aZ]
theorem st_no (b q d e:V) {x:Str} (hx:(["boxes","queues","drawn","sent"]:List Str).contains x=false):(mH b q d e).lookup x=none:=by
  have z:∀ k∈(["boxes","queues","drawn","sent"]:List Str),(x == k)=false:=fun k hk=>beq_eq_false_iff_ne.mpr fun e=>by
    rw [e,zw.mpr hk] at hx
    cases hx
  rw [jc,dE (z _ (by simp)),dE (z _ (by simp)),dE (z _ (by simp)),dE (z _ (by simp))]
  rfl
theorem Ej (b q d e:V):(mH b q d e).length < 1000:=by
  rw [jc]
  show 4 < 1000
  decide
theorem JO (m h:V) (st wd od:aa) (en:Bool) (rd ud:aa):(dF m h st wd od en rd ud).length < 1000:=by show 8 < 1000; decide
structure Lay where
  d:aa
  dx:aa
  st:aa
  dxs:aa
  bd:aa
  qd:aa
  wd:aa
  od:aa
  rd:aa
  ud:aa
  m:V
  hv:V
  qa:List (Str×aa)
def Lay.all (L:Lay):List aa:=L.d :: L.st :: L.bd :: L.qd :: L.wd :: L.od :: L.rd :: L.ud :: L.qa.map (·.2)
def gb (G:Hp):List (Str×aa)->List (Str×List Int)->Prop:=aW fun p q=>p.1=q.1/\G p.2=some (.lst (q.2.map V.int))
structure pf (bs qs:List Str) (w:Wk):Prop where
  kb:w.bx.map (·.1)=bs
  kq:w.qu.map (·.1)=qs
  nb:bs.Nodup
  nq:qs.Nodup
  wb:∀ p∈w.bx,Wo p.2
  wq:∀ p∈w.qu,p.2.length<=30/\∀ n∈p.2,Wo n
  nw:w.wr.Nodup
  sw:∀ x∈w.wr,x∈bs++qs
  nu:w.qn.Nodup
  su:∀ x∈w.qn,x∈bs++qs
  wo:∀ e∈w.out,Wo e.a/\Wo e.b
  fw:(bs++qs).length < 100
structure Dg (CD CS:aa) (bs qs:List Str) (H0 G:Hp) (L:Lay) (h:Ev) (ds:List Int) (w:Wk):Prop where
  sm:bF H0 G
  hd:G L.d=some (.ins CD L.dx (dF L.m L.hv L.st L.wd L.od w.en L.rd L.ud))
  hst:G L.st=some (.ins CS L.dxs (mH (.ref L.bd) (.ref L.qd) (.int w.dr) (.int w.se)))
  hb:G L.bd=some (.dK (boK w.bx))
  hq:G L.qd=some (.dK (quK L.qa))
  hl:gb G L.qa w.qu
  hw:G L.wd=some (.dK (wrK w.wr))
  ho:∃ vs,G L.od=some (.lst vs)/\aW (jB G) vs w.out
  hr:∃ rs,G L.rd=some (.lst rs)/\aW (FmI bs qs H0) rs w.rk
  hu:G L.ud=some (.dK (wrK w.qn))
  hh:jB H0 L.hv h
  hm:∃ t x1 x2 x3 x4 dl,L.m=.ref t/\H0 t=some (.tup [x1,x2,x3,.ref dl,x4])/\H0 dl=some (.lst (ds.map V.int))
  nd:L.all.Nodup
  fr:∀ a∈L.all,H0 a=none
  ok:pf bs qs w
  wt:Wo h.t
  wa:Wo h.a
  wb:Wo h.b
section
variable {CD CS:aa} {bs qs:List Str} {H0 G G':Hp} {L:Lay} {h:Ev} {ds:List Int} {w:Wk}
theorem gb.keep (k:∀ a u,G a=some u->a∈L.qa.map (·.2)->G' a=some u) {qa:List (Str×aa)} {qu:List (Str×List Int)} (sub:∀ p∈qa,p∈L.qa) (q:gb G qa qu):gb G' qa qu:=by
  unfold gb at q |-
  induction q with
  | nil=>exact .nil
  | cons a _ ih=>exact .cons ⟨a.1,k _ _ a.2 (bH.mpr ⟨_,sub _ aJ,rfl⟩)⟩ (ih fun p hp=>sub p (aj _ hp))
theorem Paired.mono {α β:Type} {R S:α->β->Prop} (f:∀ a b,R a b->S a b) {xs:List α} {ys:List β} (r:aW R xs ys):aW S xs ys:=L2.Paired.imp' f r
theorem Dg.same (g:Dg CD CS bs qs H0 G L h ds w) (s:bF G G'):Dg CD CS bs qs H0 G' L h ds w:=by
  obtain ⟨vs,o1,o2⟩:=g.ho
  obtain ⟨rs,r1,r2⟩:=g.hr
  exact ⟨g.sm.trans s,s _ _ g.hd,s _ _ g.hst,s _ _ g.hb,s _ _ g.hq,g.hl.keep (L:=L) (fun a u e _=>s _ _ e) (fun _ hp=>hp),s _ _ g.hw,⟨vs,s _ _ o1,Paired.mono (fun _ _ z=>z.same s) o2⟩,⟨rs,s _ _ r1,r2⟩,s _ _ g.hu,g.hh,g.hm,g.nd,g.fr,g.ok,g.wt,g.wa,g.wb⟩
structure Lay.Ne (L:Lay):Prop where
  ds:L.d≠L.st
  db:L.d≠L.bd
  dq:L.d≠L.qd
  dw:L.d≠L.wd
  do_:L.d≠L.od
  dr:L.d≠L.rd
  du:L.d≠L.ud
  dl:∀ a∈L.qa.map (·.2),L.d≠a
  sb:L.st≠L.bd
  sq:L.st≠L.qd
  sw:L.st≠L.wd
  so:L.st≠L.od
  sr:L.st≠L.rd
  su:L.st≠L.ud
  sl:∀ a∈L.qa.map (·.2),L.st≠a
  bq:L.bd≠L.qd
  bw:L.bd≠L.wd
  bo:L.bd≠L.od
  br:L.bd≠L.rd
  bu:L.bd≠L.ud
  bl:∀ a∈L.qa.map (·.2),L.bd≠a
  qw:L.qd≠L.wd
  qo:L.qd≠L.od
  qr:L.qd≠L.rd
  qu:L.qd≠L.ud
  ql:∀ a∈L.qa.map (·.2),L.qd≠a
  wo:L.wd≠L.od
  wr:L.wd≠L.rd
  wu:L.wd≠L.ud
  wl:∀ a∈L.qa.map (·.2),L.wd≠a
  or:L.od≠L.rd
  ou:L.od≠L.ud
  ol:∀ a∈L.qa.map (·.2),L.od≠a
  ru:L.rd≠L.ud
  rl:∀ a∈L.qa.map (·.2),L.rd≠a
  ul:∀ a∈L.qa.map (·.2),L.ud≠a
  ll:(L.qa.map (·.2)).Nodup
theorem Lay.ne (nd:L.all.Nodup):L.Ne:=by
  unfold Lay.all at nd
  have cut:∀ {a:aa} {xs:List aa},(a :: xs).Nodup->(∀ b∈xs,a≠b)/\xs.Nodup:=fun {a xs} z=>by
    obtain ⟨z1,z2⟩:=bh.mp z
    exact ⟨fun b hb e=>z1 (by rw [e]; exact hb),z2⟩
  obtain ⟨a1,nd⟩:=cut nd
  obtain ⟨a2,nd⟩:=cut nd
  obtain ⟨a3,nd⟩:=cut nd
  obtain ⟨a4,nd⟩:=cut nd
  obtain ⟨a5,nd⟩:=cut nd
  obtain ⟨a6,nd⟩:=cut nd
  obtain ⟨a7,nd⟩:=cut nd
  obtain ⟨a8,nd⟩:=cut nd
  have i1:∀ {b:aa} {xs:List aa},b∈b :: xs:=aJ
  have i2:∀ {a b:aa} {xs:List aa},b∈xs->b∈a :: xs:=fun z=>aj _ z
  exact ⟨a1 _ i1,a1 _ (i2 i1),a1 _ (i2 (i2 i1)),a1 _ (i2 (i2 (i2 i1))),a1 _ (i2 (i2 (i2 (i2 i1)))),a1 _ (i2 (i2 (i2 (i2 (i2 i1))))),a1 _ (i2 (i2 (i2 (i2 (i2 (i2 i1)))))),fun a ha=>a1 _ (i2 (i2 (i2 (i2 (i2 (i2 (i2 ha))))))),a2 _ i1,a2 _ (i2 i1),a2 _ (i2 (i2 i1)),a2 _ (i2 (i2 (i2 i1))),a2 _ (i2 (i2 (i2 (i2 i1)))),a2 _ (i2 (i2 (i2 (i2 (i2 i1))))),fun a ha=>a2 _ (i2 (i2 (i2 (i2 (i2 (i2 ha)))))),a3 _ i1,a3 _ (i2 i1),a3 _ (i2 (i2 i1)),a3 _ (i2 (i2 (i2 i1))),a3 _ (i2 (i2 (i2 (i2 i1)))),fun a ha=>a3 _ (i2 (i2 (i2 (i2 (i2 ha))))),a4 _ i1,a4 _ (i2 i1),a4 _ (i2 (i2 i1)),a4 _ (i2 (i2 (i2 i1))),fun a ha=>a4 _ (i2 (i2 (i2 (i2 ha)))),a5 _ i1,a5 _ (i2 i1),a5 _ (i2 (i2 i1)),fun a ha=>a5 _ (i2 (i2 (i2 ha))),a6 _ i1,a6 _ (i2 i1),fun a ha=>a6 _ (i2 (i2 ha)),a7 _ i1,fun a ha=>a7 _ (i2 ha),fun a ha=>a8 _ ha,nd⟩
theorem kT {a:aa} {o:HO} (nt:∀ xs,G a≠some (.tup xs)) {vs:List V} {es:List Ev} (r:aW (jB G) vs es):aW (jB (upd G a o)) vs es:=
  Paired.mono (fun v e z=>by
    obtain ⟨t,k,e1,h1,h2⟩:=z
    refine ⟨t,k,e1,?_,?_⟩
    · rw [aG fun y=>nt _ (by rw [<- y]; exact h1)]
      exact h1
    · rw [aG fun y=>nt _ (by rw [<- y]; exact h2)]
      exact h2) r
theorem Dg.sm_upd (g:Dg CD CS bs qs H0 G L h ds w) {a:aa} (ha:a∈L.all) (o:HO):bF H0 (upd G a o):=fun b u e=>by
  rw [aG (aN e (g.fr a ha))]
  exact g.sm _ _ e
theorem in_d:L.d∈L.all:=aJ
theorem Iv:L.st∈L.all:=aj _ aJ
theorem Iw:L.bd∈L.all:=aj _ (aj _ aJ)
theorem in_qd:L.qd∈L.all:=aj _ (aj _ (aj _ aJ))
theorem in_wd:L.wd∈L.all:=aj _ (aj _ (aj _ (aj _ aJ)))
theorem Iy:L.od∈L.all:=aj _ (aj _ (aj _ (aj _ (aj _ aJ))))
theorem in_rd:L.rd∈L.all:=aj _ (aj _ (aj _ (aj _ (aj _ (aj _ aJ)))))
theorem in_ud:L.ud∈L.all:=aj _ (aj _ (aj _ (aj _ (aj _ (aj _ (aj _ aJ))))))
theorem in_l {a:aa} (h:a∈L.qa.map (·.2)):a∈L.all:=aj _ (aj _ (aj _ (aj _ (aj _ (aj _ (aj _ (aj _ h)))))))
theorem bL {o o':HO} {a b:aa} (e:G a=some o) (n:a≠b):upd G b o' a=some o:=by rw [aG n]; exact e
theorem kU {o:HO} {a:aa} (e:G a=some o) (n:∀ xs,o≠.tup xs):∀ xs,G a≠some (.tup xs):=fun xs z=>by
  rw [e] at z
  cases z
  exact n xs rfl
theorem Dg.box (g:Dg CD CS bs qs H0 G L h ds w) {x:Str} {n:Int} (wn:Wo n):Dg CD CS bs qs H0 (upd G L.bd (.dK (boK (lD w.bx x n)))) L h ds {w with bx:=lD w.bx x n}:=by
  have N:=Lay.ne g.nd
  obtain ⟨vs,o1,o2⟩:=g.ho
  obtain ⟨rs,r1,r2⟩:=g.hr
  refine ⟨g.sm_upd Iw _,bL g.hd N.db,bL g.hst N.sb,ah,bL g.hq N.bq.symm,g.hl.keep (L:=L) (fun a u e m=>bL e (N.bl a m).symm) (fun _ hp=>hp),bL g.hw N.bw.symm,⟨vs,bL o1 N.bo.symm,kT (kU g.hb (fun _ z=>by cases z)) o2⟩,⟨rs,bL r1 N.br.symm,r2⟩,bL g.hu N.bu.symm,g.hh,g.hm,g.nd,g.fr,?_,g.wt,g.wa,g.wb⟩
  obtain ⟨kb,kq,nb,nq,wb,wq,nw,sw,nu,su,wo,fw⟩:=g.ok
  refine ⟨(vm _ _ _).trans kb,kq,nb,nq,fun p hp=>?_,wq,nw,sw,nu,su,wo,fw⟩
  rcases x5 hp with z | z
  · exact wb p z
  · rw [z]
    exact wn
theorem AA {xs:List Str} {x:Str} (h:xs.Nodup):(lE xs x).Nodup:=by
  unfold lE
  by_cases c:x∈xs
  · rw [if_pos c]
    exact h
  · rw [if_neg c]
    refine g9.mpr ⟨h,by simp,fun a ha b hb=>?_⟩
    rw [au.mp hb]
    exact fun z=>c (by rw [<- z]; exact ha)
theorem x8 {xs:List Str} {x y:Str} (h:y∈lE xs x):y∈xs\/y=x:=by
  unfold lE at h
  by_cases c:x∈xs
  · rw [if_pos c] at h
    exact .inl h
  · rw [if_neg c] at h
    rcases aU.mp h with z | z
    · exact .inl z
    · exact .inr (au.mp z)
theorem Ek {xs:List Str}:∀ {ys:List Str},xs.Nodup->(∀ x∈xs,x∈ys)->xs.length<=ys.length:=by
  induction xs with
  | nil=>intro ys _ _; exact bA _
  | cons x xs ih =>
    intro ys nd s
    obtain ⟨n1,n2⟩:=bh.mp nd
    have hx:x∈ys:=s x aJ
    have:=ih (ys:=ys.erase x) n2 fun z hz=>(AB (fun e=>n1 (by rw [<- e]; exact hz))).mpr (s z (aj _ hz))
    rw [xg hx] at this
    have:=nA hx
    rw [aL]
    omega
theorem pf.few (k:pf bs qs w):w.wr.length < 100:=bz (Ek k.nw k.sw) k.fw
theorem pf.few2 (k:pf bs qs w):w.qn.length < 100:=bz (Ek k.nu k.su) k.fw
theorem AC (xs:List Str):(wrK xs).length=xs.length:=av _
theorem iR:1000 < az:=by decide
theorem Dg.wrote (g:Dg CD CS bs qs H0 G L h ds w) {x:Str} (hx:x∈bs++qs):Dg CD CS bs qs H0 (upd G L.wd (.dK (wrK (lE w.wr x)))) L h ds {w with wr:=lE w.wr x}:=by
  have N:=Lay.ne g.nd
  obtain ⟨vs,o1,o2⟩:=g.ho
  obtain ⟨rs,r1,r2⟩:=g.hr
  refine ⟨g.sm_upd in_wd _,bL g.hd N.dw,bL g.hst N.sw,bL g.hb N.bw,bL g.hq N.qw,g.hl.keep (L:=L) (fun a u e m=>bL e (N.wl a m).symm) (fun _ hp=>hp),ah,⟨vs,bL o1 N.wo.symm,kT (kU g.hw (fun _ z=>by cases z)) o2⟩,⟨rs,bL r1 N.wr.symm,r2⟩,bL g.hu N.wu.symm,g.hh,g.hm,g.nd,g.fr,?_,g.wt,g.wa,g.wb⟩
  obtain ⟨kb,kq,nb,nq,wb,wq,nw,sw,nu,su,wo,fw⟩:=g.ok
  refine ⟨kb,kq,nb,nq,wb,wq,AA nw,fun y hy=>?_,nu,su,wo,fw⟩
  rcases x8 hy with z | z
  · exact sw y z
  · rw [z]
    exact hx
theorem gb.at_ {x:Str}:∀ {qa:List (Str×aa)} {qu:List (Str×List Int)},gb G qa qu->x∈qu.map (·.1)->∃ l,qa.lookup x=some l/\G l=some (.lst ((iU qu x).map V.int))/\l∈qa.map (·.2)
  | _,_,.nil,m=>by cases m
  | (k,l) :: qa,(k',xs) :: qu,.cons a b,m=>by
    obtain ⟨e,ha⟩:=a
    dsimp only at e ha
    subst e
    by_cases c:x=k
    · subst c
      refine ⟨l,aZ,?_,aJ⟩
      unfold iU
      rw [aZ]
      exact ha
    · have m':x∈qu.map (·.1):=by
        rcases ak.mp m with z | z
        · exact absurd z c
        · exact z
      obtain ⟨l',h1,h2,h3⟩:=gb.at_ b m'
      refine ⟨l',?_,?_,aj _ h3⟩
      · rw [cg,beq_eq_false_iff_ne.mpr c]
        exact h1
      · unfold iU at h2 |-
        rw [cg,beq_eq_false_iff_ne.mpr c]
        exact h2
theorem oq {α:Type} {x:Str} {a:α}:∀ {ps:List (Str×α)},ps.lookup x=some a->(x,a)∈ps
  | [],h=>by cases h
  | (k,b) :: ps,h=>by
    by_cases c:x=k
    · subst c
      rw [aZ] at h
      cases h
      exact aJ
    · rw [cg,beq_eq_false_iff_ne.mpr c] at h
      exact aj _ (oq h)
theorem BH {α:Type} {x:Str} {n:α} {ps:List (Str×α)} (h:x∉ps.map (·.1)):lD ps x n=ps:=by
  unfold lD
  have:∀ p∈ps,(if p.1=x then (p.1,n) else p)=p:=fun p hp=>if_neg fun e=>h (bH.mpr ⟨p,hp,e⟩)
  rw [j4 this]
  exact List.map_id _
theorem gb.set {x:Str} {l:aa} {ns:List Int}:∀ {qa:List (Str×aa)} {qu:List (Str×List Int)},gb G qa qu->(qa.map (·.2)).Nodup->(qu.map (·.1)).Nodup->qa.lookup x=some l->gb (upd G l (.lst (ns.map V.int))) qa (lD qu x ns)
  | _,_,.nil,_,_,e=>by cases e
  | (k,l0) :: qa,(k',xs) :: qu,.cons a b,nd,nk,e=>by
    obtain ⟨ek,ha⟩:=a
    dsimp only at ek ha
    subst ek
    obtain ⟨n1,n2⟩:=bh.mp nd
    obtain ⟨m1,m2⟩:=bh.mp nk
    by_cases c:x=k
    · subst c
      rw [aZ] at e
      cases e
      show gb _ _ ((if x=x then (x,ns) else (x,xs)) :: lD qu x ns)
      rw [if_pos rfl,BH m1]
      refine .cons ⟨rfl,ah⟩ ?_
      refine gb.keep (L:=⟨0,0,0,0,0,0,0,0,0,0,.non,.non,qa⟩) (G:=G) (fun a u e m=>bL e fun z=>n1 (by rw [<- z]; exact m)) (fun _ hp=>hp) b
    · rw [cg,beq_eq_false_iff_ne.mpr c] at e
      show gb _ _ ((if k=x then (k,ns) else (k,xs)) :: lD qu x ns)
      rw [if_neg fun z=>c z.symm]
      refine .cons ⟨rfl,bL ha fun z=>n1 ?_⟩ (gb.set b n2 m2 e)
      show l0∈qa.map (·.2)
      rw [show l0=l from z]
      exact bH.mpr ⟨_,oq e,rfl⟩
theorem Dg.queue (g:Dg CD CS bs qs H0 G L h ds w) {x:Str} {l:aa} {ns:List Int} (hl:L.qa.lookup x=some l) (len:ns.length<=30) (wn:∀ n∈ns,Wo n):Dg CD CS bs qs H0 (upd G l (.lst (ns.map V.int))) L h ds {w with qu:=lD w.qu x ns}:=by
  have N:=Lay.ne g.nd
  have ml:l∈L.qa.map (·.2):=bH.mpr ⟨_,oq hl,rfl⟩
  obtain ⟨vs,o1,o2⟩:=g.ho
  obtain ⟨rs,r1,r2⟩:=g.hr
  obtain ⟨kb,kq,nb,nq,wb,wq,nw,sw,nu,su,wo,fw⟩:=g.ok
  have gl:∃ xs,G l=some (.lst xs):=by
    have key:∀ {qa:List (Str×aa)} {qu:List (Str×List Int)},gb G qa qu->l∈qa.map (·.2)->∃ xs,G l=some (.lst xs):=fun {qa qu} q=>by
      induction q with
      | nil=>intro m; cases m
      | cons a _ ih =>
        intro m
        rcases ak.mp m with z | z
        · rw [z]
          exact ⟨_,a.2⟩
        · exact ih z
    exact key g.hl ml
  obtain ⟨xs,gl⟩:=gl
  refine ⟨g.sm_upd (in_l ml) _,bL g.hd (N.dl l ml),bL g.hst (N.sl l ml),bL g.hb (N.bl l ml),bL g.hq (N.ql l ml),g.hl.set N.ll (by rw [kq]; exact nq) hl,bL g.hw (N.wl l ml),⟨vs,bL o1 (N.ol l ml),kT (kU gl (fun _ z=>by cases z)) o2⟩,⟨rs,bL r1 (N.rl l ml),r2⟩,bL g.hu (N.ul l ml),g.hh,g.hm,g.nd,g.fr,?_,g.wt,g.wa,g.wb⟩
  refine ⟨kb,(vm _ _ _).trans kq,nb,nq,wb,fun p hp=>?_,nw,sw,nu,su,wo,fw⟩
  rcases x5 hp with z | z
  · exact wq p z
  · rw [z]
    exact ⟨len,wn⟩
theorem Dg.counts (g:Dg CD CS bs qs H0 G L h ds w) (dr:Nat) (se:Int):Dg CD CS bs qs H0 (upd G L.st (.ins CS L.dxs (mH (.ref L.bd) (.ref L.qd) (.int dr) (.int se)))) L h ds {w with dr:=dr,se:=se}:=by
  have N:=Lay.ne g.nd
  obtain ⟨vs,o1,o2⟩:=g.ho
  obtain ⟨rs,r1,r2⟩:=g.hr
  obtain ⟨kb,kq,nb,nq,wb,wq,nw,sw,nu,su,wo,fw⟩:=g.ok
  exact ⟨g.sm_upd Iv _,bL g.hd N.ds,ah,bL g.hb N.sb.symm,bL g.hq N.sq.symm,g.hl.keep (L:=L) (fun a u e m=>bL e (N.sl a m).symm) (fun _ hp=>hp),bL g.hw N.sw.symm,⟨vs,bL o1 N.so.symm,kT (kU g.hst (fun _ z=>by cases z)) o2⟩,⟨rs,bL r1 N.sr.symm,r2⟩,bL g.hu N.su.symm,g.hh,g.hm,g.nd,g.fr,⟨kb,kq,nb,nq,wb,wq,nw,sw,nu,su,wo,fw⟩,g.wt,g.wa,g.wb⟩
theorem Dg.sent (g:Dg CD CS bs qs H0 G L h ds w) {vs:List V} {v:V} {e:Ev} (hv:G L.od=some (.lst vs)) (he:jB G v e) (we:Wo e.a/\Wo e.b):Dg CD CS bs qs H0 (upd G L.od (.lst (vs++[v]))) L h ds {w with out:=w.out++[e]}:=by
  have N:=Lay.ne g.nd
  obtain ⟨vs',o1,o2⟩:=g.ho
  obtain ⟨rs,r1,r2⟩:=g.hr
  rw [hv] at o1
  cases o1
  obtain ⟨kb,kq,nb,nq,wb,wq,nw,sw,nu,su,wo,fw⟩:=g.ok
  refine ⟨g.sm_upd Iy _,bL g.hd N.do_,bL g.hst N.so,bL g.hb N.bo,bL g.hq N.qo,g.hl.keep (L:=L) (fun a u e m=>bL e (N.ol a m).symm) (fun _ hp=>hp),bL g.hw N.wo,⟨_,ah,?_⟩,⟨rs,bL r1 N.or.symm,r2⟩,bL g.hu N.ou.symm,g.hh,g.hm,g.nd,g.fr,⟨kb,kq,nb,nq,wb,wq,nw,sw,nu,su,fun x hx=>(aU.mp hx).elim (wo x) fun z=>by rw [au.mp z]; exact we,fw⟩,g.wt,g.wa,g.wb⟩
  exact kT (kU hv (fun _ z=>by cases z)) (fb o2 he)
theorem Dg.ended (g:Dg CD CS bs qs H0 G L h ds w):Dg CD CS bs qs H0 (upd G L.d (.ins CD L.dx (dF L.m L.hv L.st L.wd L.od true L.rd L.ud))) L h ds {w with en:=true}:=by
  have N:=Lay.ne g.nd
  obtain ⟨vs,o1,o2⟩:=g.ho
  obtain ⟨rs,r1,r2⟩:=g.hr
  obtain ⟨kb,kq,nb,nq,wb,wq,nw,sw,nu,su,wo,fw⟩:=g.ok
  exact ⟨g.sm_upd in_d _,ah,bL g.hst N.ds.symm,bL g.hb N.db.symm,bL g.hq N.dq.symm,g.hl.keep (L:=L) (fun a u e m=>bL e (N.dl a m).symm) (fun _ hp=>hp),bL g.hw N.dw.symm,⟨vs,bL o1 N.do_.symm,kT (kU g.hd (fun _ z=>by cases z)) o2⟩,⟨rs,bL r1 N.dr.symm,r2⟩,bL g.hu N.du.symm,g.hh,g.hm,g.nd,g.fr,⟨kb,kq,nb,nq,wb,wq,nw,sw,nu,su,wo,fw⟩,g.wt,g.wa,g.wb⟩
theorem Dg.reckoned (g:Dg CD CS bs qs H0 G L h ds w) {rs:List V} {v:V} {F:Fm} (hr:G L.rd=some (.lst rs)) (hF:FmI bs qs H0 v F):Dg CD CS bs qs H0 (upd G L.rd (.lst (rs++[v]))) L h ds {w with rk:=w.rk++[F]}:=by
  have N:=Lay.ne g.nd
  obtain ⟨vs,o1,o2⟩:=g.ho
  obtain ⟨rs',r1,r2⟩:=g.hr
  rw [hr] at r1
  cases r1
  obtain ⟨kb,kq,nb,nq,wb,wq,nw,sw,nu,su,wo,fw⟩:=g.ok
  exact ⟨g.sm_upd in_rd _,bL g.hd N.dr,bL g.hst N.sr,bL g.hb N.br,bL g.hq N.qr,g.hl.keep (L:=L) (fun a u e m=>bL e (N.rl a m).symm) (fun _ hp=>hp),bL g.hw N.wr,⟨vs,bL o1 N.or,kT (kU hr (fun _ z=>by cases z)) o2⟩,⟨_,ah,fb r2 hF⟩,bL g.hu N.ru.symm,g.hh,g.hm,g.nd,g.fr,⟨kb,kq,nb,nq,wb,wq,nw,sw,nu,su,wo,fw⟩,g.wt,g.wa,g.wb⟩
theorem Dg.queued (g:Dg CD CS bs qs H0 G L h ds w) {x:Str} (hx:x∈bs++qs):Dg CD CS bs qs H0 (upd G L.ud (.dK (wrK (lE w.qn x)))) L h ds {w with qn:=lE w.qn x}:=by
  have N:=Lay.ne g.nd
  obtain ⟨vs,o1,o2⟩:=g.ho
  obtain ⟨rs,r1,r2⟩:=g.hr
  obtain ⟨kb,kq,nb,nq,wb,wq,nw,sw,nu,su,wo,fw⟩:=g.ok
  refine ⟨g.sm_upd in_ud _,bL g.hd N.du,bL g.hst N.su,bL g.hb N.bu,bL g.hq N.qu,g.hl.keep (L:=L) (fun a u e m=>bL e (N.ul a m).symm) (fun _ hp=>hp),bL g.hw N.wu,⟨vs,bL o1 N.ou,kT (kU g.hu (fun _ z=>by cases z)) o2⟩,⟨rs,bL r1 N.ru,r2⟩,ah,g.hh,g.hm,g.nd,g.fr,⟨kb,kq,nb,nq,wb,wq,nw,sw,AA nu,fun y hy=>?_,wo,fw⟩,g.wt,g.wa,g.wb⟩
  rcases x8 hy with z | z
  · exact su y z
  · rw [z]
    exact hx
theorem El {x:Str} {ps:List (Str×Int)} (m:x∈ps.map (·.1)):fZ (boK ps) (Sum.inr x)=some (.int (o9 ps x)):=by
  obtain ⟨a,h1,_⟩:=lV m
  have z:=qq V.int x ps
  rw [h1] at z
  unfold o9
  rw [h1]
  exact z
theorem Em {x:Str} {l:aa} {qa:List (Str×aa)} (m:qa.lookup x=some l):fZ (quK qa) (Sum.inr x)=some (.ref l):=by
  have z:=qq V.ref x qa
  rw [m] at z
  exact z
theorem He {x:Str} (k:pf bs qs w) (m:x∈bs):Wo (o9 w.bx x):=by
  obtain ⟨a,h1,h2⟩:=lV (ps:=w.bx) (x:=x) (by rw [k.kb]; exact m)
  unfold o9
  rw [h1]
  exact k.wb _ h2
theorem wC {x:Str} (k:pf bs qs w) (m:x∈qs):(iU w.qu x).length<=30/\∀ n∈iU w.qu x,Wo n:=by
  obtain ⟨a,h1,h2⟩:=lV (ps:=w.qu) (x:=x) (by rw [k.kq]; exact m)
  unfold iU
  rw [h1]
  exact k.wq _ h2
theorem Dg.asks (g:Dg CD CS bs qs H0 G L h ds w):(uw h w).Ok bs qs:=
  ⟨fun x m=>He g.ok m,fun x m=>by
    have:=(wC g.ok m).1
    show (iU w.qu x).length<=1000
    omega,g.wa,g.wb,g.wt⟩
theorem Dg.holds {K:af} (g:Dg CD CS bs qs H0 G L h ds w) {gl:aa} (hg:G gl=some (.lst [.int h.a,.int h.b])):Holds K CS bs qs G L.st gl (uw h w):=
  ⟨⟨L.dxs,L.bd,L.qd,_,_,_,g.hst,Ei _ _ _ _,Ha _ _ _ _,g.hb,g.hq,fun x m=>El (by rw [g.ok.kb]; exact m),fun x m=>by
    obtain ⟨l,h1,h2,_⟩:=g.hl.at_ (x:=x) (by rw [g.ok.kq]; exact m)
    exact ⟨l,_,Em h1,h2,av _⟩⟩,hg⟩
end
end My
namespace L2
open PySem
theorem rp.own {X:Cx} {E:XK} (hb:rp X E):PassesOwn (bb X.prog X.w) X.A X.env X.xe:=by
  rw [hb.xe]
  exact PassesOwn.leaving
end L2
namespace My
open PySem L2
structure Mt (K:af) (C:aa) (x qual:Str) (st:cR) (ps:List Str) (f:aa) (fd:bG):Prop where
  F:Fun K x qual st f fd
  b:Binds K fd ps []
  m:gu K C x f
structure En (K:af) (mg:Str->Option ae) (cf:Flt->aa):Prop where
  two:Fts K mg (cf .nought) (cf .great)
  mF:mg "Full"=some (.ref (cf .full))
  mD:mg "Dry"=some (.ref (cf .dry))
  mS:mg "Span"=some (.ref (cf .span))
  mL:mg "Late"=some (.ref (cf .late))
  xF:cX K (cf .full) pJ "ValueError.__new__"=true
  xD:cX K (cf .dry) pJ "ValueError.__new__"=true
  xS:cX K (cf .span) pJ "ValueError.__new__"=true
  xL:cX K (cf .late) pJ "ValueError.__new__"=true
def rb (cf:Flt->aa) (dg:Wk->Hp->Prop) (H0:Hp) (n:Nat) (r:Except Flt Wk) (Q:VK) (E:XK):Prop:=match r with
  | .ok w'=>∀ G',dg w' G'->w'.len<=n->Q .non G'
  | .error e=>∀ G',bF H0 G'->E (.ref (cf e)) none G'
theorem j5 {cf:Flt->aa} {dg:Wk->Hp->Prop} {H0 G':Hp} {n:Nat} {h:Ev} {w:Wk} {f:Fm} {k:Wk->Int->Except Flt Wk} {Q0 Q:VK} {E:XK} (p:rb cf dg H0 n (rck h w f k) Q0 E) (s:bF H0 G')
    (hq:∀ r,ev (uw h w) f=.ok r->rb cf dg H0 n (k {w with rk:=w.rk++[f]} r) Q0 E->Q (.int r) G'):vk (cf .nought) (cf .great) (ev (uw h w) f) Q E G':=by
  unfold rck at p
  cases e:ev (uw h w) f with
  | ok r =>
    rw [e] at p
    exact hq r e p
  | nought =>
    rw [e] at p
    exact p G' s
  | great =>
    rw [e] at p
    exact p G' s
theorem zx {w:Wk} {F:Fm}:w.out.length + (w.rk++[F]).length<=w.len + 4:=by
  rw [aB]
  show _ + (_ + 1)<=w.out.length + w.rk.length + 4
  omega
theorem Hf {w:Wk} {F F1 F2:Fm} {e:Ev}:(w.out++[e]).length + (w.rk++[F]++[F1]++[F2]).length<=w.len + 4:=by
  rw [aB,aB,aB,aB]
  show _ + 1 + (_ + 1 + 1 + 1)<=w.out.length + w.rk.length + 4
  omega
theorem Hg {x:Str} {n:Int} {ps:List (Str×Int)} (m:x∈ps.map (·.1)):fH (boK ps) (Sum.inr x) (.int n)=boK (lD ps x n):=by
  obtain ⟨a,h1,_⟩:=lV m
  exact GY V.int x n (by rw [h1]; rfl)
theorem Hh (ps:List (Str×Int)):(boK ps).length=ps.length:=av _
section
variable {CD CS:aa} {bs qs:List Str} {H0 G G':Hp} {L:Lay} {h:Ev} {ds:List Int} {w:Wk}
theorem Dg.few (g:Dg CD CS bs qs H0 G L h ds w):(boK w.bx).length < az/\(wrK w.wr).length < az:=by
  have:=g.ok.few
  have:=g.ok.fw
  have:=iR
  rw [Hh,AC]
  have e:=congrArg sP g.ok.kb
  rw [av] at e
  rw [aB] at *
  omega
theorem Dg.putB (g:Dg CD CS bs qs H0 G L h ds w) {x:Str} {n:Int} (m:x∈bs):o7 G L.bd (.str x) (.int n) (upd G L.bd (.dK (boK (lD w.bx x n)))):=by
  have z:=o7.k (k:=Sum.inr x) (v:=.int n) g.hb g.few.1
  rw [Hg (by rw [g.ok.kb]; exact m)] at z
  exact z
theorem Dg.putW (g:Dg CD CS bs qs H0 G L h ds w) (x:Str):o7 G L.wd (.str x) (.bl true) (upd G L.wd (.dK (wrK (lE w.wr x)))):=by
  have z:=o7.k (k:=Sum.inr x) (v:=.bl true) g.hw g.few.2
  rw [Az] at z
  exact z
theorem Dg.putU (g:Dg CD CS bs qs H0 G L h ds w) (x:Str):o7 G L.ud (.str x) (.bl true) (upd G L.ud (.dK (wrK (lE w.qn x)))):=by
  have z:=o7.k (k:=Sum.inr x) (v:=.bl true) g.hu (by
    have:=g.ok.few2
    have:=iR
    rw [AC]
    omega)
  rw [Az] at z
  exact z
theorem Dg.getL (g:Dg CD CS bs qs H0 G L h ds w) {x:Str} (m:x∈qs):∃ l,L.qa.lookup x=some l/\G l=some (.lst ((iU w.qu x).map V.int))/\hZ G L.qd (.str x) (some (.ref l)):=by
  obtain ⟨l,h1,h2,_⟩:=g.hl.at_ (x:=x) (by rw [g.ok.kq]; exact m)
  refine ⟨l,h1,h2,?_⟩
  have z:=hZ.k (k:=Sum.inr x) g.hq
  rw [Em h1] at z
  exact z
end
section
variable {P:aO} {w:bj} {K:af} {mg:Str->Option ae} {base:cb} {f fN fR fF fW fT fD fL fQ CD CS CM:aa} {fd fdN fdR fdF fdW fdT fdD fdL fdQ:bG} {cf:Flt->aa} {bs qs:List Str}
def Eo (CD CS:aa) (bs qs:List Str):Sp:=fun vs H Q _=>∃ (H0:Hp) (L:Lay) (h:Ev) (ds:List Int) (w:Wk),vs=[.ref L.d]/\Dg CD CS bs qs H0 H L h ds w/\Q (.int h.t) H
theorem scNw:bD ["self"] ["self"] (aP iE):=⟨rfl,rfl,rfl,by decide +kernel,rfl,by decide +kernel,by decide +kernel⟩
theorem Ep (M:Mt K CD "now" "Doing.now" iE ["self"] f fd) (T:DT K mg CD):bg P w K mg base CX0 1 f fd ["self"] (Eo CD CS bs qs):=by
  refine M.F.ok scNw (fun vs H Q E h=>?_) (fun cdv A outer s H vs Q E hr h=>?_)
  · obtain ⟨H0,L,e,ds,w,rfl,_⟩:=h
    rfl
  obtain ⟨H0,L,e,ds,w,rfl,g,q⟩:=h
  obtain ⟨t,k,ev,h1,h2⟩:=g.hh
  refine ⟨_,aF (bV (bP b8 (bP b8 (cq (pv 0) rfl) aD (fun _ _=>rfl)) aD (fun _ _=>rfl))),?_⟩
  exact ⟨_,rfl,L.d,CD,L.dx,_,_,rfl,g.hd,T.cl,T.nH,GZ _ _ _ _ _ _ _ _,t,_,_,_,ev,rfl,SqT.of (g.sm _ _ h1),rfl,k,_,_,_,rfl,rfl,SqT.of (g.sm _ _ h2),rfl,q⟩
def rf (cf:Flt->aa) (CD CS:aa) (bs qs:List Str):Sp:=fun vs H Q E=>∃ (H0:Hp) (L:Lay) (h:Ev) (ds:List Int) (w:Wk) (v:V) (F:Fm),vs=[.ref L.d,v]/\Dg CD CS bs qs H0 H L h ds w/\FmI bs qs H0 v F/\w.len < 400000/\∀ G',Dg CD CS bs qs H0 G' L h ds {w with rk:=w.rk++[F]}->vk (cf .nought) (cf .great) (ev (uw h w) F) Q E G'
theorem scRk:bD ["self","formula"] ["self","formula"] (aP eK):=⟨rfl,rfl,rfl,by decide +kernel,rfl,by decide +kernel,by decide +kernel⟩
theorem kW (M:Mt K CD "reckon" "Doing.reckon" eK ["self","formula"] f fd) (MN:Mt K CD "now" "Doing.now" iE ["self"] fN fdN) (DW:Df K mg "worth_of" j0 ["formula","state","now","got"] fW fdW) (DT2:Df K mg "number_of_two" gm ["kind","first","second"] fT fdT) (DD:Df K mg "number_of_division" dC ["kind","first","second"] fD fdD)
    (DL:Df K mg "number_of_leaf" fy ["formula","state","now","got"] fL fdL) (T:DT K mg CD) (TF:En K mg cf) (TM:MdT K mg CM CS) (B:Bl mg):bg P w K mg base (CXo P w) 18 f fd ["self","formula"] (rf cf CD CS bs qs):=by
  have GN:bg P w K mg base CX0 1 fN fdN ["self"] (Eo CD CS bs qs):=Ep MN T
  have GW:bg P w K mg base (CXo P w) 17 fW fdW ["formula","state","now","got"] (Ef K CS (cf .nought) (cf .great) bs qs 15):=Ir DW DT2 DD DL TF.two TM B 15
  refine M.F.okX scRk (fun vs H Q E h=>?_) (fun cdv A outer s H vs Q E hr h=>?_)
  · obtain ⟨H0,L,e,ds,w,v,F,rfl,_⟩:=h
    rfl
  obtain ⟨H0,L,e,ds,w,v,F,rfl,g,hF,fw,q⟩:=h
  obtain ⟨t,k,eh,h1,h2⟩:=g.hh
  have r1:dN 1 _:=hr.mono (by omega)
  obtain ⟨rs,r1',r2⟩:=g.hr
  have g0:=g.reckoned r1' hF
  refine ⟨_,ax (c5 (jX bM cI cJ gN (cq (pv 0) rfl) (ai (pv 1) ay))) (aF (bV (cw GW hr rfl DW.m DW.F.kp DW.b .nil (dy.passes fun _ _ _ z=>z) (ai (pv 1) (ai (cq (pv 0) rfl) (ai (jg (pv 0) T.cl MN.m GN r1 MN.b .nil cL) (ai (dP (ai (bP b8 (cq (pv 0) rfl) aD (fun _ _=>rfl)) (ai (bP b8 (cq (pv 0) rfl) aD (fun _ _=>rfl)) ay))) ay))))))),?_⟩
  have rl:rs.length < az:=by
    have z:rs.length=w.rk.length:=bJ r2
    have:400000 < az:=by decide
    have:w.out.length + w.rk.length < 400000:=fw
    omega
  refine ⟨_,rfl,L.d,CD,L.dx,_,_,rfl,g.hd,T.cl,T.nR,dF_r _ _ _ _ _ _ _ _,.inl ⟨rfl,_,SqL.of r1'⟩,_,rfl,L.rd,_,_,rfl,rfl,r1',rl,?_⟩
  refine ⟨_,rfl,_,rfl,L.d,CD,L.dx,_,_,rfl,g0.hd,T.cl,T.nS,ux _ _ _ _ _ _ _ _,?_⟩
  refine ⟨_,rfl,L.d,L.dx,_,rfl,g0.hd,mY _ _ _ _ _ _ _ _ (by decide +kernel),H0,L,e,ds,_,rfl,g0,?_⟩
  refine ⟨_,rfl,L.d,CD,L.dx,_,_,rfl,g0.hd,T.cl,T.nH,GZ _ _ _ _ _ _ _ _,t,_,_,_,eh,rfl,SqT.of (g0.sm _ _ h1),rfl,?_⟩
  refine ⟨_,rfl,L.d,CD,L.dx,_,_,rfl,g0.hd,T.cl,T.nH,GZ _ _ _ _ _ _ _ _,t,_,_,_,eh,rfl,SqT.of (g0.sm _ _ h1),rfl,?_⟩
  refine ⟨lt2,fun l hl=>?_⟩
  have s2:=aH hl (.lst [.int e.a,.int e.b])
  have g2:=g0.same s2
  exact ⟨v,F,L.st,l,uw e w,rfl,(hF.1.same g2.sm),hF.2,g2.holds ah,g2.asks,q _ g2⟩
def Er (CD CS:aa) (bs qs:List Str):Sp:=fun vs H Q _=>∃ (H0:Hp) (L:Lay) (h:Ev) (ds:List Int) (w:Wk) (x:Str),vs=[.ref L.d,.str x]/\Dg CD CS bs qs H0 H L h ds w/\x∈qs/\∀ G' l,Dg CD CS bs qs H0 G' L h ds {w with qn:=lE w.qn x}->L.qa.lookup x=some l->G' l=some (.lst ((iU w.qu x).map V.int))->Q (.ref l) G'
theorem scQo:bD ["self","name"] ["self","name"] (aP dY):=⟨rfl,rfl,rfl,by decide +kernel,rfl,by decide +kernel,by decide +kernel⟩
theorem Es (M:Mt K CD "queue_of" "Doing.queue_of" dY ["self","name"] f fd) (T:DT K mg CD) (TM:MdT K mg CM CS):bg P w K mg base CX0 1 f fd ["self","name"] (Er CD CS bs qs):=by
  refine M.F.ok scQo (fun vs H Q E h=>?_) (fun cdv A outer s H vs Q E hr h=>?_)
  · obtain ⟨H0,L,e,ds,w,x,rfl,_⟩:=h
    rfl
  obtain ⟨H0,L,e,ds,w,x,rfl,g,hx,q⟩:=h
  have hu:=ji hr
  refine ⟨_,ax (jI hu (cq (pv 0) rfl) (pv 1) pW rfl) (aF (bV (mr hu (cq (cq (pv 0) rfl) rfl) (pv 1) (fun _ _=>rfl)))),?_⟩
  have g1:=g.queued (x:=x) (aV _ hx)
  obtain ⟨l,hl,gl,dl⟩:=g1.getL hx
  refine ⟨_,rfl,L.d,CD,L.dx,_,_,rfl,g.hd,T.cl,T.nQ,dF_u _ _ _ _ _ _ _ _,_,rfl,L.ud,_,rfl,g.putU x,?_⟩
  exact ⟨_,rfl,L.d,CD,L.dx,_,_,rfl,g1.hd,T.cl,T.nS,ux _ _ _ _ _ _ _ _,L.st,CS,L.dxs,_,_,rfl,g1.hst,TM.clS,TM.nQ,Ha _ _ _ _,_,rfl,L.qd,_,rfl,dl,q _ l g1 hl gl⟩
def wD (CD CS:aa) (bs qs:List Str):Sp:=fun vs H Q _=>∃ (H0:Hp) (L:Lay) (h:Ev) (ds:List Int) (w:Wk) (x:Str) (n:Int),vs=[.ref L.d,.str x,.int n]/\Dg CD CS bs qs H0 H L h ds w/\x∈bs/\Wo n/\∀ G',Dg CD CS bs qs H0 G' L h ds (xZ w x n)->Q .non G'
theorem scFl:bD ["self","box","worth"] ["self","box","worth"] (aP gs):=⟨rfl,rfl,rfl,by decide +kernel,rfl,by decide +kernel,by decide +kernel⟩
theorem wG (M:Mt K CD "fill" "Doing.fill" gs ["self","box","worth"] f fd) (T:DT K mg CD) (TM:MdT K mg CM CS):bg P w K mg base CX0 1 f fd ["self","box","worth"] (wD CD CS bs qs):=by
  refine M.F.ok scFl (fun vs H Q E h=>?_) (fun cdv A outer s H vs Q E hr h=>?_)
  · obtain ⟨H0,L,e,ds,w,x,n,rfl,_⟩:=h
    rfl
  obtain ⟨H0,L,e,ds,w,x,n,rfl,g,hx,hn,q⟩:=h
  have hu:=ji hr
  refine ⟨_,ax (jI hu (cq (cq (pv 0) rfl) rfl) (pv 1) (pv 2) rfl) (aF (jI hu (cq (pv 0) rfl) (pv 1) pW rfl)),?_⟩
  have g1:=g.box (x:=x) hn
  have g2:=g1.wrote (x:=x) (d9 _ hx)
  refine ⟨_,rfl,_,rfl,L.d,CD,L.dx,_,_,rfl,g.hd,T.cl,T.nS,ux _ _ _ _ _ _ _ _,L.st,CS,L.dxs,_,_,rfl,g.hst,TM.clS,TM.nB,Ei _ _ _ _,_,rfl,L.bd,_,rfl,g.putB hx,?_⟩
  exact ⟨_,rfl,L.d,CD,L.dx,_,_,rfl,g1.hd,T.cl,T.nW,Eh _ _ _ _ _ _ _ _,_,rfl,L.wd,_,rfl,g1.putW x,q _ g2⟩
def zy (cf:Flt->aa) (CD CS:aa) (bs qs:List Str):Sp:=fun vs H Q E=>∃ (H0:Hp) (L:Lay) (h:Ev) (ds:List Int) (w:Wk) (x:Str) (v:V) (F:Fm),vs=[.ref L.d,.str x,v]/\Dg CD CS bs qs H0 H L h ds w/\x∈qs/\FmI bs qs H0 v F/\w.len < 400000 /\
  rb cf (fun w' G'=>Dg CD CS bs qs H0 G' L h ds w') H0 (w.len + 4) (doD h ds (.push x F) w) Q E
theorem JP:bD ["doing","name","formula","worth","queue"] ["doing","name","formula"] (aP lN):=⟨rfl,rfl,rfl,by decide +kernel,rfl,by decide +kernel,by decide +kernel⟩
theorem AD (D:Df K mg "do_push" lN ["doing","name","formula"] f fd) (MR:Mt K CD "reckon" "Doing.reckon" eK ["self","formula"] fR fdR) (GR:bg P w K mg base (CXo P w) 18 fR fdR ["self","formula"] (rf cf CD CS bs qs)) (MQ:Mt K CD "queue_of" "Doing.queue_of" dY ["self","name"] fQ fdQ) (T:DT K mg CD) (TF:En K mg cf) (TM:MdT K mg CM CS) (B:Bl mg) :
    bg P w K mg base (CXo P w) 19 f fd ["doing","name","formula"] (zy cf CD CS bs qs):=by
  have GQ:bg P w K mg base CX0 1 fQ fdQ ["self","name"] (Er CD CS bs qs):=Es MQ T TM
  refine D.F.okX JP (fun vs H Q E h=>?_) (fun cdv A outer s H vs Q E hr h=>?_)
  · obtain ⟨H0,L,e,ds,w,x,v,F,rfl,_⟩:=h
    rfl
  obtain ⟨H0,L,e,ds,w,x,v,F,rfl,g,hx,hF,fw,p⟩:=h
  have hu:=ji hr
  have r1:dN 1 _:=hr.mono (by omega)
  refine ⟨_,ax (bK (i:=3) JP.nd rfl (Or.inl rfl) (eI (pv 0) T.cl MR.m GR hr MR.b .nil (dy.passes fun _ _ _ z=>z) (ai (pv 2) ay)))
    (ax (bK (i:=4) JP.nd rfl (Or.inl rfl) (eI (pv 0) T.cl MQ.m GQ r1 MQ.b .nil cL (ai (pv 1) ay)))
    (ax (c9 (bZ HW (cZ gH (by rfl) B.len df (ai (pv 4) ay)) aD (cB _)) (aF (jY dy rfl rfl TF.mF TF.xF (ai bC ay))) cE)
    (ax (c5 (jX bM cI cJ gN (pv 4) (ai (pv 3) ay)))
    (aF (jI hu (cq (pv 0) rfl) (pv 1) pW rfl))))),?_⟩
  simp only [doD] at p
  refine ⟨_,rfl,L.d,L.dx,_,rfl,g.hd,mY _ _ _ _ _ _ _ _ (by decide +kernel),_,rfl,H0,L,e,ds,w,v,F,rfl,g,hF,fw,fun G0 g0=>?_⟩
  refine j5 p g0.sm fun n en p=>?_
  dsimp only at p
  refine ⟨_,rfl,L.d,L.dx,_,rfl,g0.hd,mY _ _ _ _ _ _ _ _ (by decide +kernel),_,rfl,H0,L,e,ds,_,x,rfl,g0,hx,fun G1 l g1 hl gl=>?_⟩
  refine ⟨_,rfl,l,_,rfl,.inl (SqL.of gl),_,_,rfl,rfl,_,rfl,jj (fun c=>?_) (fun c=>?_)⟩
  · have c:(30:Int)<=((((iU w.qu x).map V.int).length:Nat):Int):=jr c
    rw [av] at c
    rw [if_pos (by omega)] at p
    exact ⟨(by show 1<=az; decide),p _ g1.sm⟩
  · have c:¬ (30:Int)<=((((iU w.qu x).map V.int).length:Nat):Int):=jD c
    rw [av] at c
    rw [if_neg (by omega)] at p
    have wn:Wo n:=rB g1.asks (hF.1.same g1.sm) en
    have gq:=wC g1.ok hx
    have g2:=g1.queue (x:=x) (l:=l) (ns:=iU w.qu x++[n]) hl (by rw [aB]; simp only [aL,cy]; omega) (fun m hm=>by
      rcases aU.mp hm with z | z
      · exact gq.2 m z
      · rw [au.mp z]
        exact wn)
    have g3:=g2.wrote (x:=x) (aV _ hx)
    have lt:((iU w.qu x).map V.int).length < az:=by
      rw [av]
      have:=iR
      omega
    refine ⟨_,rfl,.inl ⟨rfl,_,SqL.of gl⟩,_,rfl,l,_,_,rfl,rfl,gl,lt,?_⟩
    have eq:(iU w.qu x).map V.int++[V.int n]=(iU w.qu x++[n]).map V.int:=by rw [ba]; rfl
    rw [eq]
    exact ⟨_,rfl,L.d,CD,L.dx,_,_,rfl,g2.hd,T.cl,T.nW,Eh _ _ _ _ _ _ _ _,_,rfl,L.wd,_,rfl,g2.putW x,p _ g3 (zx (w:=w) (F:=F))⟩
end
end My
namespace My
open PySem L2
theorem Et (ds:List Int) (i:Nat) (h:i < ds.length):(ds.map V.int)[i]?=some (.int (ds.getD i 0)):=by
  rw [bf,aC h,List.getD_eq_getElem?_getD,aC h]
  rfl
section
variable {P:aO} {w:bj} {K:af} {mg:Str->Option ae} {base:cb} {f fN fR fF CD CS CM:aa} {fd fdN fdR fdF:bG} {cf:Flt->aa} {bs qs:List Str}
def wH (cf:Flt->aa) (CD CS:aa) (bs qs:List Str):Sp:=fun vs H Q E=>∃ (H0:Hp) (L:Lay) (h:Ev) (ds:List Int) (w:Wk) (x:Str) (v:V) (F:Fm),vs=[.ref L.d,.str x,v]/\Dg CD CS bs qs H0 H L h ds w/\x∈bs/\FmI bs qs H0 v F/\w.len < 400000 /\
  rb cf (fun w' G'=>Dg CD CS bs qs H0 G' L h ds w') H0 (w.len + 4) (doD h ds (.draw x F) w) Q E
theorem Hi:bD ["doing","box","formula","divisor","draws","draw"] ["doing","box","formula"] (aP lP):=⟨rfl,rfl,rfl,by decide +kernel,rfl,by decide +kernel,by decide +kernel⟩
theorem x9 (D:Df K mg "do_draw" lP ["doing","box","formula"] f fd) (MR:Mt K CD "reckon" "Doing.reckon" eK ["self","formula"] fR fdR) (GR:bg P w K mg base (CXo P w) 18 fR fdR ["self","formula"] (rf cf CD CS bs qs)) (MF:Mt K CD "fill" "Doing.fill" gs ["self","box","worth"] fF fdF) (T:DT K mg CD) (TF:En K mg cf) (TM:MdT K mg CM CS) (B:Bl mg) :
    bg P w K mg base (CXo P w) 19 f fd ["doing","box","formula"] (wH cf CD CS bs qs):=by
  have GF:bg P w K mg base CX0 1 fF fdF ["self","box","worth"] (wD CD CS bs qs):=wG MF T TM
  refine D.F.okX Hi (fun vs H Q E h=>?_) (fun cdv A outer s H vs Q E hr h=>?_)
  · obtain ⟨H0,L,e,ds,w,x,v,F,rfl,_⟩:=h
    rfl
  obtain ⟨H0,L,e,ds,w,x,v,F,rfl,g,hx,hF,fw,p⟩:=h
  have r1:dN 1 _:=hr.mono (by omega)
  refine ⟨_,ax (bK (i:=3) Hi.nd rfl (Or.inl rfl) (eI (pv 0) T.cl MR.m GR hr MR.b .nil (dy.passes fun _ _ _ z=>z) (ai (pv 2) ay)))
    (ax (c9 (bZ uF (pv 3) aD (cB _)) (aF (jY dy rfl rfl TF.two.mN TF.two.xN (ai bC ay))) cE)
    (ax (bK (i:=4) Hi.nd rfl (Or.inl rfl) (bP b8 (cq (pv 0) rfl) aD (fun _ _=>rfl)))
    (ax (c9 (Cs (pZ (pv 4) (fun _=>rfl))) (aF (jY dy rfl rfl TF.mD TF.xD (ai bC ay))) cE)
    (ax (bK (i:=5) Hi.nd rfl (Or.inl rfl) (bP eY (pv 4) (cS mh (cq (cq (pv 0) rfl) rfl) (cZ gH (by rfl) B.len df (ai (pv 4) ay))) (fun _ _=>rfl)))
    (ax (uI (cq (pv 0) rfl) aD CZ)
    (aF (c5 (eI (pv 0) T.cl MF.m GF r1 MF.b .nil cL (ai (pv 1) (ai (cS mh (pv 5) (pv 3)) ay)))))))))),?_⟩
  simp only [doD] at p
  refine ⟨_,rfl,L.d,L.dx,_,rfl,g.hd,mY _ _ _ _ _ _ _ _ (by decide +kernel),_,rfl,H0,L,e,ds,w,v,F,rfl,g,hF,fw,fun G1 g1=>?_⟩
  refine j5 p g1.sm fun n en p=>?_
  refine ⟨_,rfl,_,_,rfl,rfl,_,rfl,jj (fun c=>?_) (fun c=>?_)⟩
  · rw [if_pos (jr c)] at p
    exact ⟨(by show 1<=az; decide),p _ g1.sm⟩
  have c:¬ n < 1:=jD c
  rw [if_neg c] at p
  obtain ⟨t,x1,x2,x3,x4,dl,em,hm,hdl⟩:=g1.hm
  refine ⟨_,rfl,L.d,CD,L.dx,_,_,rfl,g1.hd,T.cl,T.nM,JJ _ _ _ _ _ _ _ _,t,_,_,_,em,rfl,SqT.of (g1.sm _ _ hm),rfl,?_⟩
  have hdl1:=g1.sm _ _ hdl
  refine ⟨_,rfl,_,.inl ⟨_,SqL.of hdl1,rfl⟩,?_⟩
  cases hds:ds with
  | nil =>
    rw [hds] at p
    refine gJ ?_
    exact ⟨(by show 1<=az; decide),p _ g1.sm⟩
  | cons d0 dr =>
    rw [<- hds]
    have ne:¬ ds=[]:=by rw [hds]; intro z; cases z
    have pos:0 < ds.length:=by rw [hds]; exact zu _
    rw [if_neg ne] at p
    have nb:(!(!(ds.map V.int).isEmpty))=false:=by rw [hds]; rfl
    rw [nb]
    refine fG ?_
    have lt:w.dr % ds.length < ds.length:=Nat.mod_lt _ pos
    have ix:atI (ds.map V.int) ((w.dr:Int) % (((ds.map V.int).length:Nat):Int))=some (.int (ds.getD (w.dr % ds.length) 0)):=by
      rw [av,<- Int.natCast_emod]
      exact jG (Et ds _ lt)
    refine ⟨_,rfl,_,rfl,L.d,CD,L.dx,_,_,rfl,g1.hd,T.cl,T.nS,ux _ _ _ _ _ _ _ _,L.st,CS,L.dxs,_,_,rfl,g1.hst,TM.clS,TM.nD,Hc _ _ _ _,_,rfl,dl,_,rfl,.inl (SqL.of hdl1),_,_,rfl,rfl,(by rw [av]; omega),dl,_,_,_,rfl,rfl,SqL.of hdl1,ix,?_⟩
    refine ⟨_,rfl,L.d,CD,L.dx,_,_,rfl,g1.hd,T.cl,T.nS,ux _ _ _ _ _ _ _ _,L.st,CS,L.dxs,_,_,rfl,g1.hst,TM.clS,TM.nD,Hc _ _ _ _,_,_,rfl,rfl,L.dxs,_,g1.hst,Ej _ _ _ _,?_⟩
    rw [JM]
    have g2:=g1.counts (w.dr + 1) w.se
    have wn:Wo n:=rB g1.asks (hF.1.same g1.sm) en
    have wm:Wo (ds.getD (w.dr % ds.length) 0 % n):=by
      have a1:=gx (ds.getD (w.dr % ds.length) 0) (show n≠0 by omega)
      have a2:=gj (ds.getD (w.dr % ds.length) 0) (show 0 < n by omega)
      unfold Wo at wn |-
      omega
    exact ⟨_,rfl,L.d,L.dx,_,rfl,g2.hd,mY _ _ _ _ _ _ _ _ (by decide +kernel),_,rfl,_,rfl,_,rfl,_,_,rfl,rfl,(by omega),H0,L,e,ds,_,x,_,rfl,g2,hx,wm,fun G' g3=>p G' g3 (zx (w:=w) (F:=F))⟩
def zz (cf:Flt->aa) (CD CS:aa) (bs qs:List Str):Sp:=fun vs H Q E=>∃ (H0:Hp) (L:Lay) (h:Ev) (ds:List Int) (w:Wk) (t:aa) (u u1 u2:V) (to:Int) (sg:Str) (rk:Int) (F F1 F2:Fm),vs=[.ref L.d,.ref t]/\Dg CD CS bs qs H0 H L h ds w/\H0 t=some (.tup [.str "send",.int to,.str sg,u,.int rk,u1,u2]) /\
  FmI bs qs H0 u F/\FmI bs qs H0 u1 F1/\FmI bs qs H0 u2 F2/\w.len + 4 < 400000/\rb cf (fun w' G'=>Dg CD CS bs qs H0 G' L h ds w') H0 (w.len + 4) (doD h ds (.send to sg F rk F1 F2) w) Q E
theorem BI:bD ["doing","deed","span","first","second","when","key"] ["doing","deed"] (aP lQ):=⟨rfl,rfl,rfl,by decide +kernel,rfl,by decide +kernel,by decide +kernel⟩
theorem AE (D:Df K mg "do_send" lQ ["doing","deed"] f fd) (MR:Mt K CD "reckon" "Doing.reckon" eK ["self","formula"] fR fdR) (GR:bg P w K mg base (CXo P w) 18 fR fdR ["self","formula"] (rf cf CD CS bs qs)) (MN:Mt K CD "now" "Doing.now" iE ["self"] fN fdN) (T:DT K mg CD) (TF:En K mg cf) (TM:MdT K mg CM CS) (B:Bl mg) :
    bg P w K mg base (CXo P w) 19 f fd ["doing","deed"] (zz cf CD CS bs qs):=by
  have GN:bg P w K mg base CX0 1 fN fdN ["self"] (Eo CD CS bs qs):=Ep MN T
  refine D.F.okX BI (fun vs H Q E h=>?_) (fun cdv A outer s H vs Q E hr h=>?_)
  · obtain ⟨H0,L,e,ds,w,t,u,u1,u2,to,sg,rk,F,F1,F2,rfl,_⟩:=h
    rfl
  obtain ⟨H0,L,e,ds,w,t,u,u1,u2,to,sg,rk,F,F1,F2,rfl,g,ht,hF,hF1,hF2,lo,p⟩:=h
  have r1:dN 1 _:=hr.mono (by omega)
  refine ⟨_,ax (bK (i:=2) BI.nd rfl (Or.inl rfl) (eI (pv 0) T.cl MR.m GR hr MR.b .nil (dy.passes fun _ _ _ z=>z) (ai (bP b8 (pv 1) aD (fun _ _=>rfl)) ay)))
    (ax (c9 (zU (bZ uF (pv 2) aD (cB _)) (yN (bZ xl (pv 2) (cS yS aD aD) (cB _)))).pt (aF (jY dy rfl rfl TF.mS TF.xS (ai bC ay))) cE)
    (ax (bK (i:=3) BI.nd rfl (Or.inl rfl) (eI (pv 0) T.cl MR.m GR hr MR.b .nil (dy.passes fun _ _ _ z=>z) (ai (bP b8 (pv 1) aD (fun _ _=>rfl)) ay)))
    (ax (bK (i:=4) BI.nd rfl (Or.inl rfl) (eI (pv 0) T.cl MR.m GR hr MR.b .nil (dy.passes fun _ _ _ z=>z) (ai (bP b8 (pv 1) aD (fun _ _=>rfl)) ay)))
    (ax (bK (i:=5) BI.nd rfl (Or.inl rfl) (cS gz (jg (pv 0) T.cl MN.m GN r1 MN.b .nil cL) (pv 2)))
    (ax (c9 (bZ xl (pv 5) (cS yS aD aD) (cB _)) (aF (jY dy rfl rfl TF.mL TF.xL (ai bC ay))) cE)
    (ax (bK (i:=6) BI.nd rfl (Or.inl rfl) (cK (ai (pv 5) (ai (bP b8 (pv 1) aD (fun _ _=>rfl)) (ai (bP b8 (cq (pv 0) rfl) aD (fun _ _=>rfl)) (ai (cq (cq (pv 0) rfl) rfl) ay))))))
    (ax (uI (cq (pv 0) rfl) aD CZ)
    (aF (c5 (jX bM cI cJ gN (cq (pv 0) rfl) (ai (cK (ai (pv 6) (ai (bP b8 (pv 1) aD (fun _ _=>rfl)) (ai (bP b8 (pv 1) aD (fun _ _=>rfl)) (ai (pv 3) (ai (pv 4) ay)))))) ay))))))))))),?_⟩
  simp only [doD] at p
  have f0:w.len < 400000:=by omega
  have f1:Wk.len {w with rk:=w.rk++[F]} < 400000:=by
    show w.out.length + (w.rk++[F]).length < 400000
    rw [aB]
    have:w.out.length + w.rk.length + 4 < 400000:=lo
    show _ + (_ + 1) < _
    omega
  have f2:Wk.len {w with rk:=w.rk++[F]++[F1]} < 400000:=by
    show w.out.length + (w.rk++[F]++[F1]).length < 400000
    rw [aB,aB]
    have:w.out.length + w.rk.length + 4 < 400000:=lo
    show _ + (_ + 1 + 1) < _
    omega
  have l1:1<=az:=by decide
  have c6:FK 10 6:=⟨by decide,by decide,by decide⟩
  have c12:FK 10 12:=⟨by decide,by decide,by decide⟩
  have tt:∀ {G:Hp},bF H0 G->SqT K G t [.str "send",.int to,.str sg,u,.int rk,u1,u2]:=fun {G} z=>SqT.of (z _ _ ht)
  refine ⟨_,rfl,L.d,L.dx,_,rfl,g.hd,mY _ _ _ _ _ _ _ _ (by decide +kernel),_,rfl,t,_,_,_,rfl,rfl,tt g.sm,rfl,H0,L,e,ds,w,u,F,rfl,g,hF,f0,fun G1 g1=>?_⟩
  refine j5 p g1.sm fun n en p=>?_
  refine ⟨_,rfl,_,_,rfl,rfl,_,rfl,jj (fun c=>?_) (fun c=>?_)⟩
  · rw [if_pos (.inl (jr c))] at p
    exact gJ ⟨l1,p _ g1.sm⟩
  have c:¬ n < 1:=jD c
  refine ⟨_,rfl,_,_,rfl,rfl,c6,_,_,rfl,rfl,_,rfl,jj (fun c2=>?_) (fun c2=>?_)⟩
  · rw [if_pos (.inr (jr c2))] at p
    exact ⟨l1,p _ g1.sm⟩
  have c2:¬ 10 ^ 6 < n:=jD c2
  rw [if_neg (fun z=>z.elim c c2)] at p
  refine ⟨_,rfl,L.d,L.dx,_,rfl,g1.hd,mY _ _ _ _ _ _ _ _ (by decide +kernel),_,rfl,t,_,_,_,rfl,rfl,tt g1.sm,rfl,H0,L,e,ds,_,u1,F1,rfl,g1,hF1,f1,fun G2 g2=>?_⟩
  refine j5 p g2.sm fun n1 en1 p=>?_
  refine ⟨_,rfl,L.d,L.dx,_,rfl,g2.hd,mY _ _ _ _ _ _ _ _ (by decide +kernel),_,rfl,t,_,_,_,rfl,rfl,tt g2.sm,rfl,H0,L,e,ds,_,u2,F2,rfl,g2,hF2,f2,fun G3 g3=>?_⟩
  refine j5 p g3.sm fun n2 en2 p=>?_
  refine ⟨_,rfl,L.d,L.dx,_,rfl,g3.hd,mY _ _ _ _ _ _ _ _ (by decide +kernel),H0,L,e,ds,_,rfl,g3,_,rfl,_,_,rfl,rfl,?_⟩
  refine ⟨_,rfl,_,_,rfl,rfl,c12,_,_,rfl,rfl,_,rfl,jj (fun c3=>?_) (fun c3=>?_)⟩
  · rw [if_pos (show 10 ^ 12 < e.t + n from jr c3)] at p
    exact ⟨l1,p _ g3.sm⟩
  rw [if_neg (show ¬ 10 ^ 12 < e.t + n from jD c3)] at p
  obtain ⟨th,kh,eh,h1,h2⟩:=g3.hh
  refine ⟨_,rfl,_,rfl,t,_,_,_,rfl,rfl,tt g3.sm,rfl,_,rfl,L.d,CD,L.dx,_,_,rfl,g3.hd,T.cl,T.nH,GZ _ _ _ _ _ _ _ _,th,_,_,_,eh,rfl,SqT.of (g3.sm _ _ h1),rfl,_,rfl,L.d,CD,L.dx,_,_,rfl,g3.hd,T.cl,T.nS,ux _ _ _ _ _ _ _ _,L.st,CS,L.dxs,_,_,rfl,g3.hst,TM.clS,TM.nS,Hd _ _ _ _,(by show 4<=az; decide),fun ky hk=>?_⟩
  have s4:=aH hk (.tup [.int (e.t + n),.int rk,.int e.to,.int w.se])
  have g4:=g3.same s4
  refine ⟨_,rfl,L.d,CD,L.dx,_,_,rfl,g4.hd,T.cl,T.nS,ux _ _ _ _ _ _ _ _,L.st,CS,L.dxs,_,_,rfl,g4.hst,TM.clS,TM.nS,Hd _ _ _ _,_,_,rfl,rfl,L.dxs,_,g4.hst,Ej _ _ _ _,?_⟩
  rw [JN]
  have g5:=g4.counts w.dr (w.se + 1)
  have hky:∀ {G:Hp} {o o':HO},G ky=some (.tup [.int (e.t + n),.int rk,.int e.to,.int w.se])->G L.st=some o'->(∀ xs,o'≠.tup xs)->upd G L.st o ky=some (.tup [.int (e.t + n),.int rk,.int e.to,.int w.se]):=fun h1 h2 h3=>bL h1 (fc h1 h2 (fun z=>h3 _ z.symm))
  have k5:=hky (o:=.ins CS L.dxs (mH (.ref L.bd) (.ref L.qd) (.int w.dr) (.int (w.se + 1)))) (ah:upd G3 ky _ ky=_) g4.hst (fun xs z=>by cases z)
  obtain ⟨vs,o1,o2⟩:=g5.ho
  refine ⟨_,rfl,L.d,CD,L.dx,_,_,rfl,g5.hd,T.cl,T.nO,dF_o _ _ _ _ _ _ _ _,.inl ⟨rfl,_,SqL.of o1⟩,?_⟩
  refine ⟨_,rfl,_,rfl,t,_,_,_,rfl,rfl,tt g5.sm,rfl,_,rfl,t,_,_,_,rfl,rfl,tt g5.sm,rfl,_,rfl,_,rfl,lt5,fun ev hev=>?_⟩
  have s6:=aH hev (.tup [.ref ky,.int to,.str sg,.int n1,.int n2])
  have g6:=g5.same s6
  have ol:vs.length < az:=by
    have:=bJ o2
    have z:vs.length=w.out.length:=this
    have:400000 < az:=by decide
    have:w.out.length + w.rk.length + 4 < 400000:=lo
    omega
  refine ⟨L.od,vs,_,rfl,rfl,s6 _ _ o1,ol,?_⟩
  have g7:=g6.sent (v:=.ref ev) (e:=⟨e.t + n,rk,e.to,w.se,to,sg,n1,n2⟩) (s6 _ _ o1) ⟨ev,ky,rfl,ah,s6 _ _ k5⟩ ⟨rB g1.asks (hF1.1.same g1.sm) en1,rB g2.asks (hF2.1.same g2.sm) en2⟩
  exact p _ g7 (Hf (w:=w) (F:=F) (F1:=F1) (F2:=F2))
end
end My
namespace My
open PySem L2
mutual
def Dd.size:Dd->Nat
  | .pull _ _ o=>o.size + 1
  | .ife _ t e=>t.size + e.size + 1
  | _=>1
def Ds.size:Ds->Nat
  | .nil=>0
  | .cons d r=>d.size + r.size
end
theorem rb.le {cf:Flt->aa} {dg:Wk->Hp->Prop} {H0:Hp} {m n:Nat} {r:Except Flt Wk} {Q:VK} {E:XK} (p:rb cf dg H0 n r Q E) (h:m<=n):rb cf dg H0 m r Q E:=by
  cases r with
  | ok w=>exact fun G g l=>p G g (cv l h)
  | error e=>exact p
section
variable {P:aO} {w:bj} {K:af} {mg:Str->Option ae} {base:cb} {f fR fF fP fD fU fW fS f1 fQ CD CS CM:aa} {fd fdR fdF fdP fdD fdU fdW fdS fd1 fdQ:bG} {cf:Flt->aa} {bs qs:List Str}
def tE (cf:Flt->aa) (CD CS:aa) (bs qs:List Str) (n:Nat):Sp:=fun vs H Q E=>∃ (H0:Hp) (L:Lay) (h:Ev) (ds:List Int) (w:Wk) (v:V) (D:Ds),vs=[.ref L.d,v]/\Dg CD CS bs qs H0 H L h ds w/\j3 H0 (eV bs qs H0 D) v/\D.deep < n/\w.len + 4 * D.size < 400000 /\
  rb cf (fun w' G'=>Dg CD CS bs qs H0 G' L h ds w') H0 (w.len + 4 * D.size) (doS h ds D w) Q E
def spDd (cf:Flt->aa) (CD CS:aa) (bs qs:List Str) (n:Nat):Sp:=fun vs H Q E=>∃ (H0:Hp) (L:Lay) (h:Ev) (ds:List Int) (w:Wk) (v:V) (D:Dd),vs=[.ref L.d,v]/\Dg CD CS bs qs H0 H L h ds w/\dZ bs qs H0 D v/\D.deep < n/\w.len + 4 * D.size < 400000 /\
  rb cf (fun w' G'=>Dg CD CS bs qs H0 G' L h ds w') H0 (w.len + 4 * D.size) (doD h ds D w) Q E
def Eu (cf:Flt->aa) (CD CS:aa) (bs qs:List Str) (n:Nat):Sp:=fun vs H Q E=>∃ (H0:Hp) (L:Lay) (h:Ev) (ds:List Int) (w:Wk) (q x:Str) (v:V) (D:Ds),vs=[.ref L.d,.str q,.str x,v]/\Dg CD CS bs qs H0 H L h ds w/\q∈qs/\x∈bs/\j3 H0 (eV bs qs H0 D) v/\D.deep < n/\w.len + 4 * D.size < 400000 /\
  rb cf (fun w' G'=>Dg CD CS bs qs H0 G' L h ds w') H0 (w.len + 4 * D.size) (doD h ds (.pull q x D) w) Q E
theorem scPl:bD ["doing","name","box","otherwise","queue"] ["doing","name","box","otherwise"] (aP lO):=⟨rfl,rfl,rfl,by decide +kernel,rfl,by decide +kernel,by decide +kernel⟩
theorem Hj {n k:Nat} (hk:1<=k) (D:Df K mg "do_pull" lO ["doing","name","box","otherwise"] f fd) (DD:Df K mg "do_deeds" gZ ["doing","deeds"] fD fdD) (GD:bg P w K mg base (CXo P w) k fD fdD ["doing","deeds"] (tE cf CD CS bs qs n)) (MF:Mt K CD "fill" "Doing.fill" gs ["self","box","worth"] fF fdF) (MQ:Mt K CD "queue_of" "Doing.queue_of" dY ["self","name"] fQ fdQ) (T:DT K mg CD) (TM:MdT K mg CM CS) :
    bg P w K mg base (CXo P w) (k + 1) f fd ["doing","name","box","otherwise"] (Eu cf CD CS bs qs n):=by
  have GF:bg P w K mg base CX0 1 fF fdF ["self","box","worth"] (wD CD CS bs qs):=wG MF T TM
  have GQ:bg P w K mg base CX0 1 fQ fdQ ["self","name"] (Er CD CS bs qs):=Es MQ T TM
  refine D.F.okX scPl (fun vs H Q E h=>?_) (fun cdv A outer s H vs Q E hr h=>?_)
  · obtain ⟨H0,L,e,ds,w,q,x,v,D,rfl,_⟩:=h
    rfl
  obtain ⟨H0,L,e,ds,w,q,x,v,D,rfl,g,hq,hx,hv,hn,ho,p⟩:=h
  have r1:dN 1 _:=hr.mono hk
  have hu:=ji hr
  refine ⟨_,ax (bK (i:=4) scPl.nd rfl (Or.inl rfl) (eI (pv 0) T.cl MQ.m GQ r1 MQ.b .nil cL (ai (pv 1) ay)))
    (aF (c9 (pZ (pv 4) (fun _=>rfl))
      (ax (c5 (eI (pv 0) T.cl MF.m GF r1 MF.b .nil cL (ai (pv 2) (ai (jX bM m7 m8 sS (pv 4) (ai aD ay)) ay))))
      (aF (jI hu (cq (pv 0) rfl) (pv 1) pW rfl)))
      (aF (c5 (cw GD hr rfl DD.m DD.F.kp DD.b .nil (dy.passes fun _ _ _ z=>z) (ai (pv 0) (ai (pv 3) ay))))))),?_⟩
  simp only [doD] at p
  refine ⟨_,rfl,L.d,L.dx,_,rfl,g.hd,mY _ _ _ _ _ _ _ _ (by decide +kernel),_,rfl,H0,L,e,ds,w,q,rfl,g,hq,fun G0 l g0 hl gl=>?_⟩
  refine ⟨_,rfl,_,.inl ⟨_,SqL.of gl,rfl⟩,?_⟩
  have gq:(iU w.qu q).length<=30/\∀ n∈iU w.qu q,Wo n:=wC g.ok hq
  cases e1:iU w.qu q with
  | nil =>
    rw [e1] at p
    refine fG ?_
    exact ⟨_,rfl,_,rfl,H0,L,e,ds,_,v,D,rfl,g0,hv,hn,ho,p⟩
  | cons m ms =>
    rw [e1] at p gl gq
    refine gJ ?_
    have g1:=g0.queue (x:=q) (l:=l) (ns:=ms) hl (by have:=gq.1; rw [aL] at this; omega) (fun z hz=>gq.2 z (aj _ hz))
    refine ⟨_,rfl,L.d,L.dx,_,rfl,g0.hd,mY _ _ _ _ _ _ _ _ (by decide +kernel),_,rfl,_,rfl,.inl ⟨rfl,_,SqL.of gl⟩,l,_,_,0,.int m,rfl,rfl,gl,(by decide),(by decide),(vU (n:=((m :: ms).map V.int).length) (i:=0) (j:=0) (by unfold ixN; rw [if_pos (by decide),if_pos (by rw [av,aL]; omega)]; rfl)).1,rfl,?_⟩
    refine ⟨H0,L,e,ds,_,x,m,rfl,g1,hx,gq.2 m aJ,fun G2 g2=>?_⟩
    have g3:=g2.wrote (x:=q) (aV _ hq)
    exact ⟨_,rfl,L.d,CD,L.dx,_,_,rfl,g2.hd,T.cl,T.nW,Eh _ _ _ _ _ _ _ _,_,rfl,L.wd,_,rfl,g2.putW q,p _ g3 (Hk _ _)⟩
theorem scDd:bD ["doing","deed","kind"] ["doing","deed"] (aP lM):=⟨rfl,rfl,rfl,by decide +kernel,rfl,by decide +kernel,by decide +kernel⟩
theorem Hl {n k:Nat} (hk:19<=k) (D:Df K mg "do_deed" lM ["doing","deed"] f fd) (DD:Df K mg "do_deeds" gZ ["doing","deeds"] fD fdD) (GD:bg P w K mg base (CXo P w) k fD fdD ["doing","deeds"] (tE cf CD CS bs qs n))
    (MF:Mt K CD "fill" "Doing.fill" gs ["self","box","worth"] fF fdF) (MR:Mt K CD "reckon" "Doing.reckon" eK ["self","formula"] fR fdR) (GR:bg P w K mg base (CXo P w) 18 fR fdR ["self","formula"] (rf cf CD CS bs qs))
    (DP:Df K mg "do_pull" lO ["doing","name","box","otherwise"] fP fdP) (DU:Df K mg "do_push" lN ["doing","name","formula"] fU fdU) (GU:bg P w K mg base (CXo P w) 19 fU fdU ["doing","name","formula"] (zy cf CD CS bs qs))
    (DW:Df K mg "do_draw" lP ["doing","box","formula"] fW fdW) (GW:bg P w K mg base (CXo P w) 19 fW fdW ["doing","box","formula"] (wH cf CD CS bs qs)) (DS:Df K mg "do_send" lQ ["doing","deed"] fS fdS) (GS:bg P w K mg base (CXo P w) 19 fS fdS ["doing","deed"] (zz cf CD CS bs qs)) (MQ:Mt K CD "queue_of" "Doing.queue_of" dY ["self","name"] fQ fdQ) (T:DT K mg CD) (TM:MdT K mg CM CS) :
    bg P w K mg base (CXo P w) (k + 2) f fd ["doing","deed"] (spDd cf CD CS bs qs (n + 1)):=by
  have GF:bg P w K mg base CX0 1 fF fdF ["self","box","worth"] (wD CD CS bs qs):=wG MF T TM
  have GP:bg P w K mg base (CXo P w) (k + 1) fP fdP ["doing","name","box","otherwise"] (Eu cf CD CS bs qs n):=Hj (by omega) DP DD GD MF MQ T TM
  refine D.F.okX scDd (fun vs H Q E h=>?_) (fun cdv A outer s H vs Q E hr h=>?_)
  · obtain ⟨H0,L,e,ds,w,v,D,rfl,_⟩:=h
    rfl
  obtain ⟨H0,L,e,ds,w,v,D,rfl,g,hv,hn,ho,p⟩:=h
  have r1:dN 1 _:=hr.mono (by omega)
  have r18:dN 18 _:=hr.mono (by omega)
  have r19:dN 19 _:=hr.mono (by omega)
  have rk:dN k _:=hr.mono (by omega)
  refine ⟨_,ax (bK (i:=2) scDd.nd rfl (Or.inl rfl) (bP b8 (pv 1) aD (fun _ _=>rfl)))
    (aF (c9 (bZ gc (pv 2) bC (cB _)) (aF (c5 (eI (pv 0) T.cl MF.m GF r1 MF.b .nil cL (ai (bP b8 (pv 1) aD (fun _ _=>rfl)) (ai (eI (pv 0) T.cl MR.m GR r18 MR.b .nil (dy.passes fun _ _ _ z=>z) (ai (bP b8 (pv 1) aD (fun _ _=>rfl)) ay)) ay)))))
    (aF (c9 (bZ gc (pv 2) bC (cB _)) (aF (c5 (cw GU r19 rfl DU.m DU.F.kp DU.b .nil (dy.passes fun _ _ _ z=>z) (ai (pv 0) (ai (bP b8 (pv 1) aD (fun _ _=>rfl)) (ai (bP b8 (pv 1) aD (fun _ _=>rfl)) ay))))))
    (aF (c9 (bZ gc (pv 2) bC (cB _)) (aF (c5 (cw GP hr rfl DP.m DP.F.kp DP.b .nil (dy.passes fun _ _ _ z=>z) (ai (pv 0) (ai (bP b8 (pv 1) aD (fun _ _=>rfl)) (ai (bP b8 (pv 1) aD (fun _ _=>rfl)) (ai (bP b8 (pv 1) aD (fun _ _=>rfl)) ay)))))))
    (aF (c9 (bZ gc (pv 2) bC (cB _)) (aF (c5 (cw GW r19 rfl DW.m DW.F.kp DW.b .nil (dy.passes fun _ _ _ z=>z) (ai (pv 0) (ai (bP b8 (pv 1) aD (fun _ _=>rfl)) (ai (bP b8 (pv 1) aD (fun _ _=>rfl)) ay))))))
    (aF (c9 (bZ gc (pv 2) bC (cB _)) (aF (c5 (cw GS r19 rfl DS.m DS.F.kp DS.b .nil (dy.passes fun _ _ _ z=>z) (ai (pv 0) (ai (pv 1) ay)))))
    (aF (c9 (bZ gc (pv 2) bC (cB _)) (aF (c5 (cw GD rk rfl DD.m DD.F.kp DD.b .nil (dy.passes fun _ _ _ z=>z) (ai (pv 0) (ai (nG (bZ zY (eI (pv 0) T.cl MR.m GR r18 MR.b .nil (dy.passes fun _ _ _ z=>z) (ai (bP b8 (pv 1) aD (fun _ _=>rfl)) ay)) aD (cB _)) (bP b8 (pv 1) aD (fun _ _=>rfl)) (bP b8 (pv 1) aD (fun _ _=>rfl))) ay)))))
    (aF (c9 (bZ gc (pv 2) bC (cB _)) (aF (fk (pv 0) pW rfl)) cE)))))))))))))),?_⟩
  have no:∀ {m:Str},zv.contains m=false->(dF L.m L.hv L.st L.wd L.od w.en L.rd L.ud).lookup m=none:=fun z=>mY _ _ _ _ _ _ _ _ z
  have nx:∀ {a b:Str} {p1 p2:Prop},(a == b)=false->p2->(if decide (V.str a=V.str b)=true then p1 else p2):=fun z q=>lU (rO (sne z)) (fG q)
  have yx:∀ {a:Str} {p1 p2:Prop},p1->(if decide (V.str a=V.str a)=true then p1 else p2):=fun q=>lU (BF _) (gJ q)
  have fw:w.len < 400000:=by omega
  cases D with
  | put x F =>
    obtain ⟨t,u,rfl,ht,hx,hF⟩:=(by simpa only [dZ] using hv)
    have tt:=SqT.of (K:=K) (g.sm _ _ ht)
    simp only [doD] at p
    refine ⟨_,rfl,t,_,_,_,rfl,rfl,tt,rfl,_,rfl,rfl,_,rfl,yx ?_⟩
    refine ⟨_,rfl,L.d,L.dx,_,rfl,g.hd,no (by decide +kernel),_,rfl,t,_,_,_,rfl,rfl,tt,rfl,?_⟩
    refine ⟨_,rfl,L.d,L.dx,_,rfl,g.hd,no (by decide +kernel),_,rfl,t,_,_,_,rfl,rfl,tt,rfl,H0,L,e,ds,w,u,F,rfl,g,hF,fw,fun G1 g1=>?_⟩
    refine j5 p g1.sm fun m em p=>?_
    exact ⟨H0,L,e,ds,_,x,m,rfl,g1,hx,rB g1.asks (hF.1.same g1.sm) em,fun G' g'=>p G' g' (zx (w:=w) (F:=F))⟩
  | push x F =>
    obtain ⟨t,u,rfl,ht,hx,hF⟩:=(by simpa only [dZ] using hv)
    have tt:=SqT.of (K:=K) (g.sm _ _ ht)
    refine ⟨_,rfl,t,_,_,_,rfl,rfl,tt,rfl,_,rfl,rfl,_,rfl,nx (by decide +kernel) ?_⟩
    refine ⟨_,rfl,rfl,_,rfl,yx ?_⟩
    exact ⟨_,rfl,_,rfl,t,_,_,_,rfl,rfl,tt,rfl,_,rfl,t,_,_,_,rfl,rfl,tt,rfl,H0,L,e,ds,w,x,u,F,rfl,g,hx,hF,fw,p⟩
  | pull q x o =>
    obtain ⟨t,u,rfl,ht,hq,hx,hl⟩:=(by simpa only [dZ] using hv)
    have tt:=SqT.of (K:=K) (g.sm _ _ ht)
    simp only [Dd.deep] at hn
    simp only [Dd.size] at ho p
    refine ⟨_,rfl,t,_,_,_,rfl,rfl,tt,rfl,_,rfl,rfl,_,rfl,nx (by decide +kernel) ?_⟩
    refine ⟨_,rfl,rfl,_,rfl,nx (by decide +kernel) ?_⟩
    refine ⟨_,rfl,rfl,_,rfl,yx ?_⟩
    exact ⟨_,rfl,_,rfl,t,_,_,_,rfl,rfl,tt,rfl,_,rfl,t,_,_,_,rfl,rfl,tt,rfl,_,rfl,t,_,_,_,rfl,rfl,tt,rfl,H0,L,e,ds,w,q,x,u,o,rfl,g,hq,hx,hl,(by omega),(by omega),p.le (by omega)⟩
  | draw x F =>
    obtain ⟨t,u,rfl,ht,hx,hF⟩:=(by simpa only [dZ] using hv)
    have tt:=SqT.of (K:=K) (g.sm _ _ ht)
    refine ⟨_,rfl,t,_,_,_,rfl,rfl,tt,rfl,_,rfl,rfl,_,rfl,nx (by decide +kernel) ?_⟩
    refine ⟨_,rfl,rfl,_,rfl,nx (by decide +kernel) ?_⟩
    refine ⟨_,rfl,rfl,_,rfl,nx (by decide +kernel) ?_⟩
    refine ⟨_,rfl,rfl,_,rfl,yx ?_⟩
    exact ⟨_,rfl,_,rfl,t,_,_,_,rfl,rfl,tt,rfl,_,rfl,t,_,_,_,rfl,rfl,tt,rfl,H0,L,e,ds,w,x,u,F,rfl,g,hx,hF,fw,p⟩
  | send to sg F rk F1 F2 =>
    obtain ⟨t,u,u1,u2,rfl,ht,hF,hF1,hF2⟩:=(by simpa only [dZ] using hv)
    have tt:=SqT.of (K:=K) (g.sm _ _ ht)
    simp only [Dd.size] at ho p
    refine ⟨_,rfl,t,_,_,_,rfl,rfl,tt,rfl,_,rfl,rfl,_,rfl,nx (by decide +kernel) ?_⟩
    refine ⟨_,rfl,rfl,_,rfl,nx (by decide +kernel) ?_⟩
    refine ⟨_,rfl,rfl,_,rfl,nx (by decide +kernel) ?_⟩
    refine ⟨_,rfl,rfl,_,rfl,nx (by decide +kernel) ?_⟩
    refine ⟨_,rfl,rfl,_,rfl,yx ?_⟩
    exact ⟨_,rfl,_,rfl,H0,L,e,ds,w,t,u,u1,u2,to,sg,rk,F,F1,F2,rfl,g,ht,hF,hF1,hF2,(by omega),p⟩
  | ife F x y =>
    obtain ⟨t,u,u1,u2,rfl,ht,hF,hX,hY⟩:=(by simpa only [dZ] using hv)
    simp only [Dd.deep] at hn
    simp only [Dd.size] at ho p
    simp only [doD] at p
    have tt:=SqT.of (K:=K) (g.sm _ _ ht)
    refine ⟨_,rfl,t,_,_,_,rfl,rfl,tt,rfl,_,rfl,rfl,_,rfl,nx (by decide +kernel) ?_⟩
    refine ⟨_,rfl,rfl,_,rfl,nx (by decide +kernel) ?_⟩
    refine ⟨_,rfl,rfl,_,rfl,nx (by decide +kernel) ?_⟩
    refine ⟨_,rfl,rfl,_,rfl,nx (by decide +kernel) ?_⟩
    refine ⟨_,rfl,rfl,_,rfl,nx (by decide +kernel) ?_⟩
    refine ⟨_,rfl,rfl,_,rfl,yx ?_⟩
    refine ⟨_,rfl,_,rfl,L.d,L.dx,_,rfl,g.hd,no (by decide +kernel),_,rfl,t,_,_,_,rfl,rfl,tt,rfl,H0,L,e,ds,w,u,F,rfl,g,hF,fw,fun G1 g1=>?_⟩
    have tt1:=SqT.of (K:=K) (g1.sm _ _ ht)
    have lw:Wk.len {w with rk:=w.rk++[F]}=w.len + 1:=by
      show w.out.length + (w.rk++[F]).length=w.out.length + w.rk.length + 1
      rw [aB]
      rfl
    refine j5 p g1.sm fun m em p=>?_
    refine ⟨rfl,_,rfl,?_⟩
    by_cases c:m=0
    · subst c
      rw [if_pos rfl] at p
      refine lU (b:=false) rfl (fG ?_)
      exact ⟨_,rfl,t,_,_,_,rfl,rfl,tt1,rfl,H0,L,e,ds,_,u2,y,rfl,g1,hY,(by omega),(by rw [lw]; omega),p.le (by rw [lw]; omega)⟩
    · rw [if_neg c] at p
      refine lU (b:=true) (by rw [decide_eq_false (fun z=>c (wB z))]; rfl) (gJ ?_)
      exact ⟨_,rfl,t,_,_,_,rfl,rfl,tt1,rfl,H0,L,e,ds,_,u1,x,rfl,g1,hX,(by omega),(by rw [lw]; omega),p.le (by rw [lw]; omega)⟩
  | fin =>
    obtain ⟨t,rfl,ht⟩:=(by simpa only [dZ] using hv)
    have tt:=SqT.of (K:=K) (g.sm _ _ ht)
    simp only [doD] at p
    refine ⟨_,rfl,t,_,_,_,rfl,rfl,tt,rfl,_,rfl,rfl,_,rfl,nx (by decide +kernel) ?_⟩
    refine ⟨_,rfl,rfl,_,rfl,nx (by decide +kernel) ?_⟩
    refine ⟨_,rfl,rfl,_,rfl,nx (by decide +kernel) ?_⟩
    refine ⟨_,rfl,rfl,_,rfl,nx (by decide +kernel) ?_⟩
    refine ⟨_,rfl,rfl,_,rfl,nx (by decide +kernel) ?_⟩
    refine ⟨_,rfl,rfl,_,rfl,nx (by decide +kernel) ?_⟩
    refine ⟨_,rfl,rfl,_,rfl,yx ?_⟩
    refine ⟨_,rfl,L.d,CD,L.dx,_,rfl,g.hd,T.cl,T.nE,JO _ _ _ _ _ _ _ _,?_⟩
    rw [JL]
    exact p _ g.ended (Hk _ _)
theorem scDs:bD ["doing","deeds","deed"] ["doing","deeds"] (aP gZ):=⟨rfl,rfl,rfl,by decide +kernel,rfl,by decide +kernel,by decide +kernel⟩
theorem BJ {n k:Nat} (D:Df K mg "do_deeds" gZ ["doing","deeds"] f fd) (D1:Df K mg "do_deed" lM ["doing","deed"] f1 fd1) (G1:bg P w K mg base (CXo P w) k f1 fd1 ["doing","deed"] (spDd cf CD CS bs qs n)) :
    bg P w K mg base (CXo P w) (k + 1) f fd ["doing","deeds"] (tE cf CD CS bs qs n):=by
  refine D.F.okX scDs (fun vs H Q E h=>?_) (fun cdv A outer s H vs Q E hr h=>?_)
  · obtain ⟨H0,L,e,ds,w,v,D,rfl,_⟩:=h
    rfl
  obtain ⟨H0,L,e,ds,w,v,D,rfl,g,⟨l,vs,rfl,hl,hlen,hD⟩,hn,ho,p⟩:=h
  refine ⟨_,aF (lu dy.own rfl (iL (pv 1)) (eF (i:=2) scDs.nd rfl (Or.inl rfl)) (aF (c5 (cw G1 hr rfl D1.m D1.F.kp D1.b .nil (dy.passes fun _ _ _ z=>z) (ai (pv 0) (ai (pv 2) ay)))))),?_⟩
  refine ⟨_,rfl,l,rfl,⟨_,SqL.of (g.sm _ _ hl)⟩,jU (K:=K) (a:=l) (xs:=vs) (fun i σ G=>∃ (D':Ds) (w':Wk) (u:Option V),σ=[some (.ref L.d),some (.ref l),u]/\Dg CD CS bs qs H0 G L e ds w'/\eV bs qs H0 D' (vs.drop i)/\D'.deep < n/\w'.len + 4 * D'.size<=w.len + 4 * D.size /\
    rb cf (fun w' G'=>Dg CD CS bs qs H0 G' L e ds w') H0 (w.len + 4 * D.size) (doS e ds D' w') Q E) ⟨D,w,none,rfl,g,hD,hn,aE _,p⟩ ?_ ?_ ?_⟩
  · rintro i σ G _ ⟨D',w',u,rfl,g',_⟩
    exact SqL.of (g'.sm _ _ hl)
  · rintro i x σ G hi ⟨D',w',u,rfl,g',hD',hn',ho',p'⟩
    have lt:i < vs.length:=(aw.mp hi).1
    have hx:vs[i]=x:=(aw.mp hi).2
    rw [wI lt,hx] at hD'
    cases D' with
    | nil =>
      simp only [eV] at hD'
      cases hD'
    | cons d r =>
      obtain ⟨v0,vr,ev,hd,hr'⟩:=(by simpa only [eV] using hD')
      cases ev
      simp only [Ds.deep] at hn'
      simp only [Ds.size] at ho'
      refine ⟨_,rfl,_,rfl,H0,L,e,ds,w',x,d,rfl,g',hd,(by omega),(by omega),?_⟩
      simp only [doS] at p'
      cases ed:doD e ds d w' with
      | error er =>
        rw [ed] at p'
        exact p'
      | ok w2 =>
        rw [ed] at p'
        intro G2 g2 l2
        exact ⟨r,w2,_,rfl,g2,hr',(by omega),(by omega),p'⟩
  · rintro σ G ⟨D',w',u,rfl,g',hD',hn',ho',p'⟩
    rw [Fy] at hD'
    cases D' with
    | nil =>
      simp only [doS] at p'
      exact p' G g' (by omega)
    | cons d r =>
      obtain ⟨v0,vr,ev,_⟩:=(by simpa only [eV] using hD')
      cases ev
theorem tF (D:Df K mg "do_deeds" gZ ["doing","deeds"] f fd) (D1:Df K mg "do_deed" lM ["doing","deed"] f1 fd1)
    (MF:Mt K CD "fill" "Doing.fill" gs ["self","box","worth"] fF fdF) (MR:Mt K CD "reckon" "Doing.reckon" eK ["self","formula"] fR fdR) (GR:bg P w K mg base (CXo P w) 18 fR fdR ["self","formula"] (rf cf CD CS bs qs))
    (DP:Df K mg "do_pull" lO ["doing","name","box","otherwise"] fP fdP) (DU:Df K mg "do_push" lN ["doing","name","formula"] fU fdU) (GU:bg P w K mg base (CXo P w) 19 fU fdU ["doing","name","formula"] (zy cf CD CS bs qs))
    (DW:Df K mg "do_draw" lP ["doing","box","formula"] fW fdW) (GW:bg P w K mg base (CXo P w) 19 fW fdW ["doing","box","formula"] (wH cf CD CS bs qs)) (DS:Df K mg "do_send" lQ ["doing","deed"] fS fdS) (GS:bg P w K mg base (CXo P w) 19 fS fdS ["doing","deed"] (zz cf CD CS bs qs)) (MQ:Mt K CD "queue_of" "Doing.queue_of" dY ["self","name"] fQ fdQ) (T:DT K mg CD) (TM:MdT K mg CM CS) :
    ∀ n:Nat,bg P w K mg base (CXo P w) (20 + 3 * n) f fd ["doing","deeds"] (tE cf CD CS bs qs n)
  | 0=>by
    have no:∀ vs H Q E,¬ tE cf CD CS bs qs 0 vs H Q E:=fun vs H Q E h=>by
      obtain ⟨H0,L,e,ds,w,v,D,_,_,_,hn,_⟩:=h
      omega
    exact ⟨fun vs H Q E h=>absurd h (no vs H Q E),fun A outer s H args us vs Q E _ _ _ _ h=>absurd h (no vs H Q E)⟩
  | n + 1=>BJ D D1 (Hl (n:=n) (k:=20 + 3 * n) (by omega) D1 D (tF D D1 MF MR GR DP DU GU DW GW DS GS MQ T TM n) MF MR GR DP DU GU DW GW DS GS MQ T TM)
end
end My
namespace L2
open PySem PySem.Spec PyProof.Rows
theorem zA {X:Cx}:kG X (.type "dict") (fun xs H Q=>∃ d kvs,xs=[V.ref d]/\H d=some (.dK kvs)/\∀ p,H p=none->Q (.ref p) (upd H p (.dK kvs))):=by
  intro pins s σ H xs us Q I r h
  obtain ⟨d,kvs,rfl,hd,q⟩:=h
  obtain ⟨u,rfl,ru⟩:=vals1 r
  cases ru
  obtain ⟨hz,n1,ws,k1,m1⟩:=(show dI X.prog X.w H s.heap d (.dK kvs) from I.hok d _ hd)
  refine kt_call_dict (knd:=eU X.prog X.w) n1 m1 (by rw [<- k1.length]; exact hz) fun h' hn sb=>?_
  have kk:∀ b o,s.heap.get? b=some o->h'.get? b=some o:=fun b o e=>(sb.2 b (aR (aQ e))).trans (aI _ e)
  exact ⟨.ref s.heap.objs.size,_,I.laid (a:=s.heap.objs.size) (o:=.dK kvs) (t':=s.toks) kk (aE _) (vX hz (beq_eq_false_iff_ne.mpr (cj (aR I.big))) k1 hn),rfl,q _ (I.hok.fresh (aE _))⟩
end L2
namespace My
open PySem L2
def kC (CS:aa) (H:Hp) (st:aa) (bx:List (Str×Int)) (qu:List (Str×List Int)) (dr:Nat) (se:Int):Prop:=
  ∃ dx bd qd qa,H st=some (.ins CS dx (mH (.ref bd) (.ref qd) (.int dr) (.int se)))/\H bd=some (.dK (boK bx))/\H qd=some (.dK (quK qa))/\gb H qa qu
theorem gb.same {G G':Hp} (s:bF G G') {qa:List (Str×aa)} {qu:List (Str×List Int)} (q:gb G qa qu):gb G' qa qu:=
  gb.keep (L:=⟨0,0,0,0,0,0,0,0,0,0,.non,.non,qa⟩) (fun a u e _=>s _ _ e) (fun _ h=>h) q
theorem kC.same {CS:aa} {H H':Hp} (s:bF H H') {st:aa} {bx:List (Str×Int)} {qu:List (Str×List Int)} {dr:Nat} {se:Int} (h:kC CS H st bx qu dr se):kC CS H' st bx qu dr se:=by
  obtain ⟨dx,bd,qd,qa,h1,h2,h3,h4⟩:=h
  exact ⟨dx,bd,qd,qa,s _ _ h1,s _ _ h2,s _ _ h3,h4.same s⟩
structure StNew (CS:aa) (H G:Hp) (st:aa) (bx:List (Str×Int)) (qu:List (Str×List Int)) (dr:Nat) (se:Int) (dxs bd qd:aa) (qa:List (Str×aa)):Prop where
  sm:bF H G
  hst:G st=some (.ins CS dxs (mH (.ref bd) (.ref qd) (.int dr) (.int se)))
  hb:G bd=some (.dK (boK bx))
  hq:G qd=some (.dK (quK qa))
  hl:gb G qa qu
  nd:(st :: bd :: qd :: qa.map (·.2)).Nodup
  fr:∀ a∈st :: bd :: qd :: qa.map (·.2),H a=none
def Ew (CS:aa):Sp:=fun vs H Q _=>∃ (st:aa) (bx:List (Str×Int)) (qu:List (Str×List Int)) (dr:Nat) (se:Int),vs=[.ref st]/\kC CS H st bx qu dr se/\(qu.map (·.1)).Nodup/\qu.length < 100 /\
  ∀ (G:Hp) (st' dxs bd qd:aa) (qa:List (Str×aa)),StNew CS H G st' bx qu dr se dxs bd qd qa->Q (.ref st') G
theorem Hm {qa:List (Str×aa)} {x:Str} {l:aa} (h:x∉qa.map (·.1)):fH (quK qa) (Sum.inr x) (.ref l)=quK (qa++[(x,l)]):=by
  have e:qa.lookup x=none:=by
    cases z:qa.lookup x with
    | none=>rfl
    | some a=>exact absurd (bH.mpr ⟨_,oq z,rfl⟩) h
  unfold fH
  have v:fZ (quK qa) (Sum.inr x)=none:=by
    have z:=qq V.ref x qa
    rw [e] at z
    exact z
  rw [jk,v]
  show (if false=true then _ else _)=_
  rw [if_neg (by decide)]
  unfold quK
  rw [ba]
  rfl
theorem AF (qa:List (Str×aa)):(quK qa).length=qa.length:=av _
theorem gb.len {G:Hp} {qa:List (Str×aa)} {qu:List (Str×List Int)} (q:gb G qa qu):qa.length=qu.length:=bJ q
theorem gb.nm {G:Hp}:∀ {qa:List (Str×aa)} {qu:List (Str×List Int)},gb G qa qu->qa.map (·.1)=qu.map (·.1)
  | _,_,.nil=>rfl
  | _ :: _,_ :: _,.cons a b=>by rw [cC,cC,a.1,gb.nm b]
theorem gb.nth {G:Hp}:∀ {qa:List (Str×aa)} {qu:List (Str×List Int)} {i:Nat} {p:Str×aa},gb G qa qu->qa[i]?=some p->∃ q,qu[i]?=some q/\p.1=q.1/\G p.2=some (.lst (q.2.map V.int))
  | _,_,i,p,.nil,h=>by simp at h
  | _ :: _,_ :: _,0,p,.cons a b,h=>by
    simp at h
    subst h
    exact ⟨_,rfl,a.1,a.2⟩
  | _ :: _,_ :: _,i + 1,p,.cons a b,h=>by
    obtain ⟨q,h1,h2⟩:=gb.nth (i:=i) (p:=p) b (by simpa using h)
    exact ⟨q,by simpa using h1,h2⟩
section
variable {P:aO} {w:bj} {K:af} {mg:Str->Option ae} {base:cb} {f fI CD CS CM:aa} {fd fdI:bG}
theorem Hn:bD ["self","queues","name","worths"] ["self"] (aP iP):=⟨rfl,rfl,rfl,by decide +kernel,rfl,by decide +kernel,by decide +kernel⟩
theorem AG (F:Fun K "copy" "State.copy" iP f fd) (MS:Mk K CS fI) (FI:Fun K "__init__" "State.__init__" iO fI fdI) (bI:Binds K fdI ["self","boxes","queues","drawn","sent"] []) (B:Bl mg) (T:MdT K mg CM CS) :
    bg P w K mg base CX0 3 f fd ["self"] (Ew CS):=by
  have GI:bg P w K mg base CX0 1 fI fdI ["self","boxes","queues","drawn","sent"] (JE CS):=Im FI T
  refine F.ok Hn (fun vs H Q E h=>?_) (fun cdv A outer s H vs Q E hr h=>?_)
  · obtain ⟨st,bx,qu,dr,se,rfl,_⟩:=h
    rfl
  obtain ⟨st,bx,qu,dr,se,rfl,⟨dx,bd,qd,qa,hst,hb,hq,hl⟩,ndq,lq,k⟩:=h
  have hu:=ji hr
  refine ⟨_,ax (bK (i:=1) Hn.nd rfl (Or.inl rfl) qb)
    (ax (Gv (lu dB rfl (DI (cq (pv 0) rfl)) (Cu rfl (lG (eF (i:=2) Hn.nd rfl (Or.inl rfl)) (lG (eF (i:=3) Hn.nd rfl (Or.inl rfl)) vL))) (aF (jI hu (pv 1) (pv 2) (lJ p8 (by rfl) B.list boot_list (ai (pv 3) ay)) rfl))))
    (aF (bV (oK MS GI hr (by rfl) T.mS bI .nil cL (ai (lJ zA (by rfl) B.dict boot_dict (ai (cq (pv 0) rfl) ay)) (ai (pv 1) (ai (cq (pv 0) rfl) (ai (cq (pv 0) rfl) ay)))))))),?_⟩
  intro d hd
  have s1:bF H (upd H d (.dK [])):=aH hd _
  have nf:∀ (ob:Obj) (u:HO),H qd≠some (.frz ob u):=fun ob u z=>by
    rw [hq] at z
    cases z
  have ndd:d≠qd:=(aN hq hd).symm
  have nlq:(qa.map (·.1)).Nodup:=by
    rw [hl.nm]
    exact ndq
  refine ⟨_,rfl,st,CS,dx,_,_,rfl,s1 _ _ hst,T.clS,T.nQ,Ha _ _ _ _,qd,_,rfl,s1 _ _ hq,nf,fun od=>?_⟩
  refine Bz (d:=qd) (od:=od) (kvs:=quK qa) (fun i σ G=>∃ (v2 v3:Option V) (qa':List (Str×aa)),σ=[some (.ref st),some (.ref d),v2,v3]/\G qd=some (.frz od (.dK (quK qa)))/\(∀ b o,H b=some o->b≠qd->G b=some o)/\G d=some (.dK (quK qa')) /\
    gb G qa' (qu.take i)/\(qa'.map (·.2)).Nodup/\∀ a∈qa'.map (·.2),H a=none/\a≠d) ⟨none,none,[],rfl,ah,fun b o e n=>?_,?_,?_,dj,fun a h=>by cases h⟩ ?_ ?_ ?_
  · rw [aG n]
    exact s1 _ _ e
  · rw [aG ndd]
    exact ah
  · rw [pD]
    exact .nil
  · rintro i σ G _ ⟨_,_,_,_,h1,_⟩
    exact h1
  · rintro i kv t σ G hi ⟨v2,v3,qa',rfl,g1,g2,g3,g4,g5,g6⟩ ht
    obtain ⟨p,hp,rfl⟩:∃ p,qa[i]?=some p/\kv=((Sum.inr p.1:Key),V.ref p.2):=by
      unfold quK at hi
      rw [bf] at hi
      cases z:qa[i]? with
      | none =>
        rw [z] at hi
        cases hi
      | some p =>
        rw [z] at hi
        cases hi
        exact ⟨p,rfl,rfl⟩
    obtain ⟨q,hq1,hq2,hq3⟩:=hl.nth hp
    have st_:=aH ht (.tup [kV (Sum.inr p.1),.ref p.2])
    have npq:p.2≠qd:=fc hq3 hq (by intro z; cases z)
    refine ⟨t,_,rfl,SqT.of ah,rfl,_,_,rfl,_,_,rfl,rfl,?_⟩
    refine ⟨_,rfl,p.2,_,rfl,.inl (SqL.of (st_ _ _ (g2 _ _ hq3 npq))),fun l hl'=>?_⟩
    have sl:=aH hl' (.lst (q.2.map V.int))
    have gd2:=sl _ _ (st_ _ _ g3)
    have lti:i < qu.length:=(aw.mp hq1).1
    have tk:(qu.take (i + 1))=qu.take i++[q]:=by
      rw [eT,hq1]
      rfl
    have nin:p.1∉qa'.map (·.1):=by
      rw [g4.nm,hq2]
      intro z
      have nd2:((qu.take (i + 1)).map (·.1)).Nodup:=by
        rw [JQ]
        exact ndq.sublist (C3 _ _)
      rw [tk,ba] at nd2
      exact (g9.mp nd2).2.2 _ z q.1 (by simp) rfl
    have len':(quK qa').length < az:=by
      have z:=g4.len
      rw [cN] at z
      rw [AF]
      have:=iR
      omega
    have dp:=o7.k (k:=Sum.inr p.1) (v:=.ref l) gd2 len'
    rw [Hm nin] at dp
    refine ⟨_,rfl,_,rfl,d,_,rfl,dp,?_⟩
    have nlG:G l=none:=by
      cases z:G l with
      | none=>rfl
      | some o =>
        have:=st_ _ _ z
        rw [hl'] at this
        cases this
    have nl0:H l=none:=by
      cases z:H l with
      | none=>rfl
      | some o =>
        by_cases c:l=qd
        · rw [c,g1] at nlG
          cases nlG
        · rw [g2 _ _ z c] at nlG
          cases nlG
    have nld:l≠d:=fun z=>by rw [z,g3] at nlG; cases nlG
    refine ⟨_,_,qa'++[(p.1,l)],rfl,?_,fun b o e n=>?_,ah,?_,?_,fun a ha=>?_⟩
    · rw [aG ndd.symm]
      exact sl _ _ (st_ _ _ g1)
    · rw [aG (aN e hd)]
      exact sl _ _ (st_ _ _ (g2 _ _ e n))
    · rw [tk]
      have old:gb (upd (upd (upd G t (.tup [kV (Sum.inr p.1),.ref p.2])) l (.lst (q.2.map V.int))) d (.dK (quK (qa'++[(p.1,l)])))) qa' (qu.take i):=
        gb.keep (L:=⟨0,0,0,0,0,0,0,0,0,0,.non,.non,qa'⟩) (fun a u e m=>bL (sl _ _ (st_ _ _ e)) (g6 a m).2) (fun _ h=>h) g4
      exact fb old ⟨hq2,bL ah nld⟩
    · rw [ba]
      refine g9.mpr ⟨g5,by simp,fun a ha b hb=>?_⟩
      rw [au.mp hb]
      intro z
      obtain ⟨pp,hpp,e⟩:=bH.mp ha
      obtain ⟨j,hj⟩:=bY hpp
      obtain ⟨_,_,_,y⟩:=g4.nth hj
      rw [e,z,nlG] at y
      cases y
    · rw [ba] at ha
      rcases aU.mp ha with z | z
      · exact g6 a z
      · rw [au.mp z]
        exact ⟨nl0,nld⟩
  · rintro σ G ⟨v2,v3,qa',rfl,g1,g2,g3,g4,g5,g6⟩
    rw [AF,hl.len,eC] at g4
    refine ⟨qd,od,_,g1,nf,?_⟩
    have sH:bF H (upd G qd (.dK (quK qa))):=fun b o e=>by
      by_cases c:b=qd
      · rw [c,ah]
        rw [c,hq] at e
        exact e
      · rw [aG c]
        exact g2 _ _ e c
    have g3':upd G qd (.dK (quK qa)) d=some (.dK (quK qa')):=bL g3 ndd
    have g4':gb (upd G qd (.dK (quK qa))) qa' qu:=
      gb.keep (L:=⟨0,0,0,0,0,0,0,0,0,0,.non,.non,qa'⟩) (fun a u e m=>bL e (aN hq (g6 a m).1).symm) (fun _ h=>h) g4
    generalize upd G qd (.dK (quK qa))=G2 at sH g3' g4'
    refine ⟨_,rfl,st,CS,dx,_,_,rfl,sH _ _ hst,T.clS,T.nB,Ei _ _ _ _,bd,_,rfl,sH _ _ hb,fun e he=>?_⟩
    have s3:=aH he (.dK (boK bx))
    refine ⟨_,rfl,_,rfl,st,CS,dx,_,_,rfl,s3 _ _ (sH _ _ hst),T.clS,T.nD,Hc _ _ _ _,_,rfl,st,CS,dx,_,_,rfl,s3 _ _ (sH _ _ hst),T.clS,T.nS,Hd _ _ _ _,?_⟩
    intro x dx' nx ndx nex
    refine ⟨x,dx',_,_,_,_,rfl,ah,fun H' hx bt=>⟨rfl,?_⟩⟩
    have sm:bF (upd G2 e (.dK (boK bx))) H':=fun b o e2=>by
      have cx:b≠x:=aN e2 nx
      refine bt b o ?_ cx
      rw [aG cx,aG (aN e2 ndx)]
      exact e2
    have sm2:=s3.trans sm
    have fresh:∀ {a:aa},upd G2 e (.dK (boK bx)) a=none->H a=none:=fun {a} z=>by
      cases y:H a with
      | none=>rfl
      | some o =>
        rw [s3 _ _ (sH _ _ y)] at z
        cases z
    have he0:H e=none:=by
      cases y:H e with
      | none=>rfl
      | some o =>
        rw [sH _ _ y] at he
        cases he
    refine k H' x dx' e d qa' ⟨sH.trans sm2,hx,sm _ _ ah,sm2 _ _ g3',g4'.same sm2,?_,?_⟩
    · have nx_e:x≠e:=(aN (ah:upd G2 e (.dK (boK bx)) e=_) nx).symm
      have nx_d:x≠d:=(aN (s3 _ _ g3') nx).symm
      have ne_d:e≠d:=(aN g3' he).symm
      have ql:∀ a∈qa'.map (·.2),∃ o,G2 a=some o:=fun a ha=>by
        obtain ⟨pp,hpp,e⟩:=bH.mp ha
        obtain ⟨j,hj⟩:=bY hpp
        obtain ⟨_,_,_,y⟩:=g4'.nth hj
        rw [<- e]
        exact ⟨_,y⟩
      refine bh.mpr ⟨fun z=>?_,bh.mpr ⟨fun z=>?_,bh.mpr ⟨fun z=>(g6 d z).2 rfl,g5⟩⟩⟩
      · rcases ak.mp z with z | z
        · exact nx_e z
        · rcases ak.mp z with z | z
          · exact nx_d z
          · obtain ⟨o,y⟩:=ql x z
            exact (aN (s3 _ _ y) nx) rfl
      · rcases ak.mp z with z | z
        · exact ne_d z
        · obtain ⟨o,y⟩:=ql e z
          exact (aN y he) rfl
    · intro a ha
      rcases ak.mp ha with z | z
      · rw [z]
        exact fresh nx
      · rcases ak.mp z with z | z
        · rw [z]
          exact he0
        · rcases ak.mp z with z | z
          · rw [z]
            exact hd
          · exact (g6 a z).1
end
end My
namespace My
open PySem L2
theorem Dg.base {CD CS:aa} {bs qs:List Str} {H0 H0' G G':Hp} {L:Lay} {h:Ev} {ds:List Int} {w:Wk} (g:Dg CD CS bs qs H0 G L h ds w) (s:bF G G') (s0:bF H0 H0') (s1:bF H0' G') (fr:∀ a∈L.all,H0' a=none):Dg CD CS bs qs H0' G' L h ds w:=by
  obtain ⟨t,x1,x2,x3,x4,dl,em,hm,hdl⟩:=g.hm
  have g':=g.same s
  obtain ⟨rs,r1,r2⟩:=g'.hr
  exact ⟨s1,g'.hd,g'.hst,g'.hb,g'.hq,g'.hl,g'.hw,g'.ho,⟨rs,r1,Paired.mono (fun _ _ z=>z.same s0) r2⟩,g'.hu,g.hh.same s0,⟨t,x1,x2,x3,x4,dl,em,s0 _ _ hm,s0 _ _ hdl⟩,g.nd,fr,g.ok,g.wt,g.wa,g.wb⟩
theorem gb.there {G:Hp} {qa:List (Str×aa)} {qu:List (Str×List Int)} (q:gb G qa qu) {a:aa} (h:a∈qa.map (·.2)):∃ xs,G a=some (.lst xs):=by
  obtain ⟨pp,hpp,e⟩:=bH.mp h
  obtain ⟨j,hj⟩:=bY hpp
  obtain ⟨_,_,_,y⟩:=q.nth hj
  rw [<- e]
  exact ⟨_,y⟩
theorem Dg.there {CD CS:aa} {bs qs:List Str} {H0 G:Hp} {L:Lay} {h:Ev} {ds:List Int} {w:Wk} (g:Dg CD CS bs qs H0 G L h ds w):∀ a∈L.all,∃ o,G a=some o:=fun a ha=>by
  obtain ⟨vs,o1,_⟩:=g.ho
  obtain ⟨rs,r1,_⟩:=g.hr
  unfold Lay.all at ha
  simp only [ak] at ha
  rcases ha with rfl | rfl | rfl | rfl | rfl | rfl | rfl | rfl | ha
  · exact ⟨_,g.hd⟩
  · exact ⟨_,g.hst⟩
  · exact ⟨_,g.hb⟩
  · exact ⟨_,g.hq⟩
  · exact ⟨_,g.hw⟩
  · exact ⟨_,o1⟩
  · exact ⟨_,r1⟩
  · exact ⟨_,g.hu⟩
  · obtain ⟨xs,e⟩:=g.hl.there ha
    exact ⟨_,e⟩
def BK (bs qs:List Str) (H:Hp) (v:V) (p:Str×Ds):Prop:=∃ t u,v=.ref t/\H t=some (.tup [.str p.1,u])/\j3 H (eV bs qs H p.2) u
def ib (hs:List (Str×Ds)) (sg:Str):Ds:=(hs.lookup sg).getD .nil
theorem BK.same {bs qs:List Str} {H H':Hp} (s:bF H H') {v:V} {p:Str×Ds} (h:BK bs qs H v p):BK bs qs H' v p:=by
  obtain ⟨t,u,e,h1,h2⟩:=h
  exact ⟨t,u,e,s _ _ h1,h2.same s (eV.same s p.2)⟩
section
variable {P:aO} {w:bj} {K:af} {mg:Str->Option ae} {base:cb} {f fC fI CD CS CM:aa} {fd fdC fdI:bG} {bs qs:List Str}
theorem fj {G:Hp} {a b:aa} {o:HO} (h:upd G a o b=none):b≠a/\G b=none:=by
  by_cases c:b=a
  · rw [c,ah] at h
    cases h
  · rw [aG c] at h
    exact ⟨c,h⟩
theorem ya {G:Hp} {d wd od rd ud a:aa} {i3 i4 i6 i7 i8 o:HO} (hwd:G wd=none) (hod:G od=none) (hrd:G rd=none) (hud:G ud=none) (e:G a=some o) (n:a≠d):upd (upd (upd (upd (upd (upd (upd (upd (upd G d i3) wd (.dK [])) d i4) od (.lst [])) d i6) rd (.lst [])) d i7) ud (.dK [])) d i8 a=some o:=
  bL (bL (bL (bL (bL (bL (bL (bL (bL e n) (aN e hwd)) n) (aN e hod)) n) (aN e hrd)) n) (aN e hud)) n
def JR (CD CS:aa) (bs qs:List Str):Sp:=fun vs H Q _=>∃ (H0:Hp) (d dx st:aa) (m hv:V) (h:Ev) (ds:List Int) (bx:List (Str×Int)) (qu:List (Str×List Int)) (dr:Nat) (se:Int),vs=[.ref d,m,.ref st,hv]/\H d=some (.ins CD dx [])/\H0 d=none/\bF H0 H/\kC CS H0 st bx qu dr se /\
  jB H0 hv h/\(∃ t x1 x2 x3 x4 dl,m=.ref t/\H0 t=some (.tup [x1,x2,x3,.ref dl,x4])/\H0 dl=some (.lst (ds.map V.int)))/\pf bs qs ⟨bx,qu,dr,se,[],[],false,[],[]⟩/\Wo h.t/\Wo h.a/\Wo h.b /\
  ∀ (G:Hp) (L:Lay),L.d=d->L.m=m->Dg CD CS bs qs H0 G L h ds ⟨bx,qu,dr,se,[],[],false,[],[]⟩->Q .non G
theorem scDI:bD ["self","machine","state","happening"] ["self","machine","state","happening"] (aP mz):=⟨rfl,rfl,rfl,by decide +kernel,rfl,by decide +kernel,by decide +kernel⟩
theorem Iz (F:Fun K "__init__" "Doing.__init__" mz f fd) (MC:Mt K CS "copy" "State.copy" iP ["self"] fC fdC) (GC:bg P w K mg base CX0 3 fC fdC ["self"] (Ew CS)) (T:DT K mg CD) (TM:MdT K mg CM CS):bg P w K mg base CX0 4 f fd ["self","machine","state","happening"] (JR CD CS bs qs):=by
  refine F.ok scDI (fun vs H Q E h=>?_) (fun cdv A outer s H vs Q E hr h=>?_)
  · obtain ⟨H0,d,dx,st,m,hv,h,ds,bx,qu,dr,se,rfl,_⟩:=h
    rfl
  obtain ⟨H0,d,dx,st,m,hv,h,ds,bx,qu,dr,se,rfl,hd,nd0,s0,hS,hE,hM,ok,wt,wa,wb,k⟩:=h
  refine ⟨_,ax (fk (pv 0) (pv 1) rfl) (ax (fk (pv 0) (pv 3) rfl) (ax (fk (pv 0) (jg (pv 2) TM.clS MC.m GC hr MC.b .nil cL) rfl) (ax (fk (pv 0) qb rfl) (ax (fk (pv 0) (dP ay) rfl) (ax (fk (pv 0) pW rfl) (ax (fk (pv 0) (dP ay) rfl) (aF (fk (pv 0) qb rfl)))))))),?_⟩
  have l1:=iB "machine" m []
  have l2:=iB "happening" hv (cM "machine" m [])
  simp only [cy] at l1
  refine ⟨_,rfl,_,rfl,d,CD,dx,[],rfl,hd,T.cl,T.nM,(by show 0 < 1000; decide),?_⟩
  refine ⟨_,rfl,_,rfl,d,CD,dx,_,rfl,ah,T.cl,T.nH,(by omega),?_⟩
  rw [zT]
  have sd:∀ (o:HO),bF H0 (upd H d o):=fun o b u e=>by
    rw [aG (aN e nd0)]
    exact s0 _ _ e
  obtain ⟨dxs0,bd0,qd0,qa0,hst0,_⟩:=id hS
  refine ⟨_,rfl,st,dxs0,_,rfl,sd _ _ _ hst0,st_no _ _ _ _ (by decide +kernel),st,bx,qu,dr,se,rfl,hS.same (sd _),(by rw [ok.kq]; exact ok.nq),?_,fun G st' dxs bd qd qa N=>?_⟩
  · have e:=congrArg sP ok.kq
    rw [av] at e
    have:=ok.fw
    rw [aB] at this
    show qu.length < 100
    have e:qu.length=qs.length:=e
    omega
  have gd:G d=some (.ins CD dx (cM "happening" hv (cM "machine" m []))):=N.sm _ _ ah
  have l3:=iB "state" (.ref st') (cM "happening" hv (cM "machine" m []))
  have l4:=fun wd=>iB "written" (.ref wd) (cM "state" (.ref st') (cM "happening" hv (cM "machine" m [])))
  have l5:=fun od wd=>iB "outgoing" (.ref od) (cM "written" (.ref wd) (cM "state" (.ref st') (cM "happening" hv (cM "machine" m []))))
  refine ⟨_,rfl,d,CD,dx,_,rfl,gd,T.cl,T.nS,(by omega),?_⟩
  have l6:=fun od wd=>iB "ends" (.bl false) (cM "outgoing" (.ref od) (cM "written" (.ref wd) (cM "state" (.ref st') (cM "happening" hv (cM "machine" m [])))))
  have l7:=fun rd od wd=>iB "reckoned" (.ref rd) (cM "ends" (.bl false) (cM "outgoing" (.ref od) (cM "written" (.ref wd) (cM "state" (.ref st') (cM "happening" hv (cM "machine" m []))))))
  intro wd hwd
  obtain ⟨nwd,hwd⟩:=fj hwd
  refine ⟨_,rfl,d,CD,dx,_,rfl,(by rw [aG nwd.symm]; exact ah),T.cl,T.nW,(by omega),bA _,fun od hod=>?_⟩
  obtain ⟨nod,hod⟩:=fj hod
  obtain ⟨now_,hod⟩:=fj hod
  obtain ⟨_,hod⟩:=fj hod
  have l4':=l4 wd
  have l5':=l5 od wd
  have l6':=l6 od wd
  refine ⟨_,rfl,d,CD,dx,_,rfl,(by rw [aG nod.symm]; exact ah),T.cl,T.nO,(by omega),?_⟩
  refine ⟨_,rfl,d,CD,dx,_,rfl,ah,T.cl,T.nE,(by omega),bA _,fun rd hrd=>?_⟩
  rw [zT] at hrd |-
  obtain ⟨nrd,hrd⟩:=fj hrd
  obtain ⟨nro,hrd⟩:=fj hrd
  obtain ⟨_,hrd⟩:=fj hrd
  obtain ⟨nrw,hrd⟩:=fj hrd
  obtain ⟨_,hrd⟩:=fj hrd
  have l7':=l7 rd od wd
  refine ⟨_,rfl,d,CD,dx,_,rfl,(by rw [aG nrd.symm]; exact ah),T.cl,T.nR,(by omega),?_⟩
  intro ud hud
  obtain ⟨nud,hud⟩:=fj hud
  obtain ⟨nur,hud⟩:=fj hud
  obtain ⟨_,hud⟩:=fj hud
  obtain ⟨nuo,hud⟩:=fj hud
  obtain ⟨_,hud⟩:=fj hud
  obtain ⟨nuw,hud⟩:=fj hud
  obtain ⟨_,hud⟩:=fj hud
  refine ⟨_,rfl,d,CD,dx,_,rfl,(by rw [aG nud.symm]; exact ah),T.cl,T.nQ,(by omega),?_⟩
  rw [JK]
  have frH:∀ {a:aa},G a=none->H0 a=none:=fun {a} z=>by
    cases y:H0 a with
    | none=>rfl
    | some o =>
      rw [N.sm _ _ (sd _ _ _ y)] at z
      cases z
  have fr0:∀ a∈st' :: bd :: qd :: qa.map (·.2),H0 a=none/\a≠d:=fun a ha=>by
    have z:=N.fr a ha
    have n:a≠d:=fun y=>by
      rw [y,ah] at z
      cases z
    rw [aG n] at z
    refine ⟨?_,n⟩
    cases y:H0 a with
    | none=>rfl
    | some o =>
      rw [s0 _ _ y] at z
      cases z
  have thG:∀ a∈st' :: bd :: qd :: qa.map (·.2),∃ o,G a=some o:=fun a ha=>by
    simp only [ak] at ha
    rcases ha with rfl | rfl | rfl | ha
    · exact ⟨_,N.hst⟩
    · exact ⟨_,N.hb⟩
    · exact ⟨_,N.hq⟩
    · obtain ⟨xs,e⟩:=N.hl.there ha
      exact ⟨_,e⟩
  have i1:∀ {b:aa} {xs:List aa},b∈b :: xs:=aJ
  have i2:∀ {a b:aa} {xs:List aa},b∈xs->b∈a :: xs:=fun z=>aj _ z
  refine k _ ⟨d,dx,st',dxs,bd,qd,wd,od,rd,ud,m,hv,qa⟩ rfl rfl ⟨fun b o e=>ya hwd hod hrd hud (N.sm _ _ (sd _ _ _ e)) (aN e nd0),ah,ya hwd hod hrd hud N.hst (fr0 _ i1).2,ya hwd hod hrd hud N.hb (fr0 _ (i2 i1)).2,ya hwd hod hrd hud N.hq (fr0 _ (i2 (i2 i1))).2,?_,?_,⟨[],?_,.nil⟩,⟨[],?_,.nil⟩,?_,hE,hM,?_,?_,ok,wt,wa,wb⟩
  · exact gb.keep (L:=⟨0,0,0,0,0,0,0,0,0,0,.non,.non,qa⟩) (fun a u e m=>ya hwd hod hrd hud e (fr0 a (i2 (i2 (i2 m)))).2) (fun _ h=>h) N.hl
  · show upd _ d _ wd=some (.dK [])
    rw [aG nwd,aG nuw.symm,aG nwd,aG nrw.symm,aG nwd,aG now_.symm,aG nwd,ah]
  · show upd _ d _ od=some (.lst [])
    rw [aG nod,aG nuo.symm,aG nod,aG nro.symm,aG nod,ah]
  · show upd _ d _ rd=some (.lst [])
    rw [aG nrd,aG nur.symm,aG nrd,ah]
  · show upd _ d _ ud=some (.dK [])
    rw [aG nud,ah]
  · have nd:=N.nd
    have hn:∀ {a:aa} {xs:List aa},a∉xs->xs.Nodup->(a :: xs).Nodup:=fun p q=>bh.mpr ⟨p,q⟩
    obtain ⟨n1,nd⟩:=bh.mp nd
    obtain ⟨n2,nd⟩:=bh.mp nd
    obtain ⟨n3,nd⟩:=bh.mp nd
    simp only [ak,not_or] at n1 n2 n3
    have wdn:∀ a∈st' :: bd :: qd :: qa.map (·.2),a≠wd:=fun a ha z=>by
      obtain ⟨o,y⟩:=thG a ha
      rw [z,hwd] at y
      cases y
    have odn:∀ a∈st' :: bd :: qd :: qa.map (·.2),a≠od:=fun a ha z=>by
      obtain ⟨o,y⟩:=thG a ha
      rw [z,hod] at y
      cases y
    have rdn:∀ a∈st' :: bd :: qd :: qa.map (·.2),a≠rd:=fun a ha z=>by
      obtain ⟨o,y⟩:=thG a ha
      rw [z,hrd] at y
      cases y
    have udn:∀ a∈st' :: bd :: qd :: qa.map (·.2),a≠ud:=fun a ha z=>by
      obtain ⟨o,y⟩:=thG a ha
      rw [z,hud] at y
      cases y
    show (d :: st' :: bd :: qd :: wd :: od :: rd :: ud :: qa.map (·.2)).Nodup
    refine hn ?_ (hn ?_ (hn ?_ (hn ?_ (hn ?_ (hn ?_ (hn ?_ (hn ?_ nd)))))))
    · simp only [ak,not_or]
      exact ⟨fun z=>(fr0 _ i1).2 z.symm,fun z=>(fr0 _ (i2 i1)).2 z.symm,fun z=>(fr0 _ (i2 (i2 i1))).2 z.symm,nwd.symm,nod.symm,nrd.symm,nud.symm,fun z=>(fr0 d (i2 (i2 (i2 z)))).2 rfl⟩
    · simp only [ak,not_or]
      exact ⟨n1.1,n1.2.1,wdn _ i1,odn _ i1,rdn _ i1,udn _ i1,n1.2.2⟩
    · simp only [ak,not_or]
      exact ⟨n2.1,wdn _ (i2 i1),odn _ (i2 i1),rdn _ (i2 i1),udn _ (i2 i1),n2.2⟩
    · simp only [ak,not_or]
      exact ⟨wdn _ (i2 (i2 i1)),odn _ (i2 (i2 i1)),rdn _ (i2 (i2 i1)),udn _ (i2 (i2 i1)),n3⟩
    · simp only [ak,not_or]
      exact ⟨now_.symm,nrw.symm,nuw.symm,fun z=>wdn wd (i2 (i2 (i2 z))) rfl⟩
    · simp only [ak,not_or]
      exact ⟨nro.symm,nuo.symm,fun z=>odn od (i2 (i2 (i2 z))) rfl⟩
    · simp only [ak,not_or]
      exact ⟨nur.symm,fun z=>rdn rd (i2 (i2 (i2 z))) rfl⟩
    · exact fun z=>udn ud (i2 (i2 (i2 z))) rfl
  · intro a ha
    unfold Lay.all at ha
    simp only [ak] at ha
    rcases ha with rfl | rfl | rfl | rfl | rfl | rfl | rfl | rfl | ha
    · exact nd0
    · exact (fr0 _ i1).1
    · exact (fr0 _ (i2 i1)).1
    · exact (fr0 _ (i2 (i2 i1))).1
    · exact frH hwd
    · exact frH hod
    · exact frH hrd
    · exact frH hud
    · exact (fr0 a (i2 (i2 (i2 ha)))).1
def JS (bs qs:List Str):Sp:=fun vs H Q _=>∃ (H0:Hp) (t hl:aa) (x0 x1 x2 x3:V) (hv:List V) (hs:List (Str×Ds)) (sg:Str),vs=[.ref t,.str sg]/\bF H0 H/\H0 t=some (.tup [x0,x1,x2,x3,.ref hl])/\H0 hl=some (.lst hv)/\aW (BK bs qs H0) hv hs /\
  (∀ u,j3 H0 (eV bs qs H0 (ib hs sg)) u->Q u H)/\∀ l,H l=none->ib hs sg=.nil->Q (.ref l) (upd H l (.lst []))
theorem scBy:bD ["machine","sign","heard"] ["machine","sign"] (aP gK):=⟨rfl,rfl,rfl,by decide +kernel,rfl,by decide +kernel,by decide +kernel⟩
theorem jO {α β:Type} {R:α->β->Prop}:∀ {xs:List α} {ys:List β} {i:Nat} {x:α},aW R xs ys->xs[i]?=some x->∃ y,ys[i]?=some y/\R x y
  | _,_,i,x,.nil,h=>by simp at h
  | _,_,0,x,.cons a b,h=>by
    simp at h
    subst h
    exact ⟨_,rfl,a⟩
  | _,_,i + 1,x,.cons a b,h=>by
    obtain ⟨y,h1,h2⟩:=jO (i:=i) (x:=x) b (by simpa using h)
    exact ⟨y,by simpa using h1,h2⟩
theorem ok_by (D:Df K mg "deeds_by_sign" gK ["machine","sign"] f fd):bg P w K mg base CX0 1 f fd ["machine","sign"] (JS bs qs):=by
  refine D.F.ok scBy (fun vs H Q E h=>?_) (fun cdv A outer s H vs Q E hr h=>?_)
  · obtain ⟨H0,t,hl,x0,x1,x2,x3,hv,hs,sg,rfl,_⟩:=h
    rfl
  obtain ⟨H0,t,hl,x0,x1,x2,x3,hv,hs,sg,rfl,sm,ht,hh,pr,k1,k2⟩:=h
  have ht:=sm _ _ ht
  have hh:=sm _ _ hh
  refine ⟨_,ax (lu dB rfl (iL (bP b8 (pv 0) aD (fun _ _=>rfl))) (eF (i:=2) scBy.nd rfl (Or.inl rfl)) (aF (c9 (bZ gc (bP b8 (pv 2) aD (fun _ _=>rfl)) (pv 1) (cB _)) (aF (bV (bP b8 (pv 2) aD (fun _ _=>rfl)))) cE)))
    (aF (bV (dP ay))),?_⟩
  refine ⟨_,rfl,t,_,_,_,rfl,rfl,SqT.of ht,rfl,hl,rfl,⟨_,SqL.of hh⟩,jU (K:=K) (a:=hl) (xs:=hv) (fun i σ G=>G=H/\(∃ u,σ=[some (.ref t),some (.str sg),u])/\ib hs sg=ib (hs.drop i) sg) ⟨rfl,⟨_,rfl⟩,by rw [Ic]⟩ ?_ ?_ ?_⟩
  · rintro i σ G _ ⟨rfl,_⟩
    exact SqL.of hh
  · rintro i x σ G hi ⟨rfl,⟨u,rfl⟩,e⟩
    obtain ⟨p,hp,t',u',rfl,ht',hl'⟩:=jO pr hi
    have ht':=sm _ _ ht'
    have lt:i < hs.length:=(aw.mp hp).1
    have hx:hs[i]=p:=(aw.mp hp).2
    rw [wI lt,hx] at e
    obtain ⟨pn,pd⟩:=p
    refine ⟨_,rfl,t',_,_,_,rfl,rfl,SqT.of ht',rfl,_,rfl,rfl,_,rfl,?_⟩
    by_cases c:pn=sg
    · subst c
      refine lU (BF _) (gJ ?_)
      refine ⟨_,rfl,t',_,_,_,rfl,rfl,SqT.of ht',rfl,k1 u' ?_⟩
      rw [e]
      unfold ib
      rw [aZ]
      exact hl'
    · refine lU (rO c) (fG ?_)
      refine ⟨rfl,⟨_,rfl⟩,?_⟩
      rw [e]
      unfold ib
      rw [cg,beq_eq_false_iff_ne.mpr (fun z=>c z.symm)]
  · rintro σ G ⟨rfl,⟨u,rfl⟩,e⟩
    have ln:=bJ pr
    rw [ln,Fy] at e
    exact ⟨bA _,fun l hl'=>k2 l hl' e⟩
end
end My
namespace My
open PySem L2
structure rg (bs qs:List Str) (ds:List Int) (hs:List (Str×Ds)) (H:Hp) (m:V):Prop where
  ex:∃ (t bl ql dl hl:aa) (nm:V) (vb hv:List V),m=.ref t/\H t=some (.tup [nm,.ref bl,.ref ql,.ref dl,.ref hl])/\H bl=some (.lst vb)/\aW (fun v (x:Str)=>∃ a n,v=.ref a/\H a=some (.tup [.str x,n])) vb bs/\H ql=some (.lst (qs.map V.str))/\H dl=some (.lst (ds.map V.int))/\H hl=some (.lst hv)/\aW (BK bs qs H) hv hs
theorem rg.same {bs qs:List Str} {ds:List Int} {hs:List (Str×Ds)} {H H':Hp} (s:bF H H') {m:V} (h:rg bs qs ds hs H m):rg bs qs ds hs H' m:=by
  obtain ⟨t,bl,ql,dl,hl,nm,vb,hv,e,h1,h2,h3,h4,h5,h6,h7⟩:=h
  exact ⟨t,bl,ql,dl,hl,nm,vb,hv,e,s _ _ h1,s _ _ h2,Paired.mono (fun v x z=>by
    obtain ⟨a,n,e,y⟩:=z
    exact ⟨a,n,e,s _ _ y⟩) h3,s _ _ h4,s _ _ h5,s _ _ h6,Paired.mono (fun _ _ z=>z.same s) h7⟩
def wrB (bs:List Str) (w:Wk):List (Str×Int):=(bs.filter fun x=>decide (x∈w.wr)).map fun x=>(x,o9 w.bx x)
def wrQ (qs:List Str) (w:Wk):List (Str×List Int):=(qs.filter fun x=>decide (x∈w.wr)).map fun x=>(x,iU w.qu x)
def zB (G:Hp) (v:V) (p:Str×Int):Prop:=∃ t,v=.ref t/\G t=some (.tup [.str p.1,.int p.2])
def BL (G:Hp) (v:V) (p:Str×aa):Prop:=∃ t,v=.ref t/\G t=some (.tup [.str p.1,.ref p.2])
theorem zB.keep {G G':Hp} (k:∀ a xs,G a=some (.tup xs)->G' a=some (.tup xs)) {v:V} {p:Str×Int} (h:zB G v p):zB G' v p:=by
  obtain ⟨t,e,h1⟩:=h
  exact ⟨t,e,k _ _ h1⟩
theorem BL.keep {G G':Hp} (k:∀ a xs,G a=some (.tup xs)->G' a=some (.tup xs)) {v:V} {p:Str×aa} (h:BL G v p):BL G' v p:=by
  obtain ⟨t,e,h1⟩:=h
  exact ⟨t,e,k _ _ h1⟩
structure WrIn (bs qs:List Str) (w:Wk) (H G:Hp) (wl:aa) (ws1 ws2:List V) (qa:List (Str×aa)):Prop where
  hl:G wl=some (.lst (ws1++ws2))
  b:aW (zB G) ws1 (wrB bs w)
  q:aW (BL G) ws2 qa
  l:gb G qa (wrQ qs w)
  nd:(wl :: qa.map (·.2)).Nodup
  fr:∀ a∈wl :: qa.map (·.2),H a=none
theorem rC {p:Str->Bool} {xs:List Str} {i:Nat} {x:Str} (h:xs[i]?=some x):(xs.take (i + 1)).filter p=(xs.take i).filter p++if p x=true then [x] else []:=by
  rw [eT,h,Cm]
  show _++[x].filter p=_
  by_cases c:p x=true
  · rw [if_pos c,yb c]
    rfl
  · rw [if_neg c,mZ c]
    rfl
theorem yc {H G:Hp} {a:aa} (s:bF H G) (n:H a=none) (o:HO):bF H (upd G a o):=fun b u e=>by
  rw [aG (aN e n)]
  exact s _ _ e
theorem none_of {H G:Hp} (s:bF H G) {a:aa} (n:G a=none):H a=none:=by
  cases z:H a with
  | none=>rfl
  | some o =>
    rw [s _ _ z] at n
    cases n
section
variable {P:aO} {w:bj} {K:af} {mg:Str->Option ae} {base:cb} {f CD CS CM:aa} {fd:bG} {bs qs:List Str}
def spWr (CD CS:aa) (bs qs:List Str):Sp:=fun vs H Q _=>∃ (H0:Hp) (L:Lay) (h:Ev) (ds:List Int) (w:Wk) (hs:List (Str×Ds)),vs=[.ref L.d]/\Dg CD CS bs qs H0 H L h ds w/\rg bs qs ds hs H0 L.m /\
  ∀ (G:Hp) (wl:aa) (ws1 ws2:List V) (qa:List (Str×aa)),bF H G->WrIn bs qs w H G wl ws1 ws2 qa->Q (.ref wl) G
theorem Ho:bD ["doing","writes","box","name"] ["doing"] (aP kQ):=⟨rfl,rfl,rfl,by decide +kernel,rfl,by decide +kernel,by decide +kernel⟩
theorem BM (D:Df K mg "writes_of" kQ ["doing"] f fd) (T:DT K mg CD) (TM:MdT K mg CM CS) (B:Bl mg):bg P w K mg base CX0 1 f fd ["doing"] (spWr CD CS bs qs):=by
  refine D.F.ok Ho (fun vs H Q E h=>?_) (fun cdv A outer s H vs Q E hr h=>?_)
  · obtain ⟨H0,L,h,ds,w,hs,rfl,_⟩:=h
    rfl
  obtain ⟨H0,L,h,ds,w,hs,rfl,g,⟨t,bl,ql,dl,hl,nm,vb,hv,em,ht,hbl,pb,hql,hdl,hhl,_⟩,k⟩:=h
  have hu:=ji hr
  refine ⟨_,ax (bK (i:=1) Ho.nd rfl (Or.inl rfl) (dP ay))
    (ax (lu dB rfl (iL (bP b8 (cq (pv 0) rfl) aD (fun _ _=>rfl))) (eF (i:=2) Ho.nd rfl (Or.inl rfl)) (aF (c9 (me (Dk hu (bP b8 (pv 2) aD (fun _ _=>rfl)) (cq (pv 0) rfl)))
      (aF (c5 (jX bM cI cJ gN (pv 1) (ai (cK (ai (bP b8 (pv 2) aD (fun _ _=>rfl)) (ai (mr hu (cq (cq (pv 0) rfl) rfl) (bP b8 (pv 2) aD (fun _ _=>rfl)) (fun _ _=>rfl)) ay))) ay)))) cE)))
    (ax (lu dB rfl (iL (bP b8 (cq (pv 0) rfl) aD (fun _ _=>rfl))) (eF (i:=3) Ho.nd rfl (Or.inl rfl)) (aF (c9 (me (Dk hu (pv 3) (cq (pv 0) rfl)))
      (aF (c5 (jX bM cI cJ gN (pv 1) (ai (cK (ai (pv 3) (ai (lJ p8 (by rfl) B.list boot_list (ai (mr hu (cq (cq (pv 0) rfl) rfl) (pv 3) (fun _ _=>rfl)) ay)) ay))) ay)))) cE)))
    (aF (bV (pv 1))))),?_⟩
  have big:=iR
  have fw:=g.ok.fw
  rw [aB] at fw
  refine ⟨bA _,fun wl hwl=>?_⟩
  have s0:=aH hwl (.lst [])
  have inW:∀ {G:Hp} (g:Dg CD CS bs qs H0 G L h ds w) (x:Str),hZ G L.wd (.str x) (if x∈w.wr then some (.bl true) else none):=fun {G} g x=>by
    have z:=hZ.k (k:=Sum.inr x) g.hw
    rw [Ay] at z
    exact z
  refine ⟨_,rfl,L.d,CD,L.dx,_,_,rfl,s0 _ _ g.hd,T.cl,T.nM,JJ _ _ _ _ _ _ _ _,t,_,_,_,em,rfl,SqT.of (s0 _ _ (g.sm _ _ ht)),rfl,bl,rfl,⟨_,SqL.of (s0 _ _ (g.sm _ _ hbl))⟩,?_⟩
  refine jU (K:=K) (a:=bl) (xs:=vb) (fun i σ G=>∃ (u:Option V) (ws:List V),σ=[some (.ref L.d),some (.ref wl),u,none]/\bF H G/\G wl=some (.lst ws)/\aW (zB G) ws (((bs.take i).filter fun x=>decide (x∈w.wr)).map fun x=>(x,o9 w.bx x))) ⟨none,[],rfl,s0,ah,by rw [pD]; exact .nil⟩ ?_ ?_ ?_
  · rintro i σ G _ ⟨_,_,rfl,sm,_⟩
    exact SqL.of (sm _ _ (g.sm _ _ hbl))
  · rintro i x σ G hi ⟨u,ws,rfl,sm,gw,pw⟩
    have g1:=g.same sm
    obtain ⟨y,hy,a,n,rfl,ha⟩:=jO pb hi
    have ha:=g1.sm _ _ ha
    have my:y∈bs:=aM hy
    have ft:=rC (p:=fun x=>decide (x∈w.wr)) hy
    refine ⟨_,rfl,a,_,_,_,rfl,rfl,SqT.of ha,rfl,_,rfl,L.d,CD,L.dx,_,_,rfl,g1.hd,T.cl,T.nW,Eh _ _ _ _ _ _ _ _,L.wd,_,rfl,inW g1 y,_,rfl,?_⟩
    by_cases c:y∈w.wr
    · rw [if_pos c]
      rw [if_pos (decide_eq_true c)] at ft
      refine gJ ?_
      refine ⟨_,rfl,.inl ⟨rfl,_,SqL.of gw⟩,_,rfl,a,_,_,_,rfl,rfl,SqT.of ha,rfl,_,rfl,L.d,CD,L.dx,_,_,rfl,g1.hd,T.cl,T.nS,ux _ _ _ _ _ _ _ _,L.st,CS,L.dxs,_,_,rfl,g1.hst,TM.clS,TM.nB,Ei _ _ _ _,_,rfl,a,_,_,_,rfl,rfl,SqT.of ha,rfl,L.bd,_,rfl,(by have z:=hZ.k (k:=Sum.inr y) g1.hb; rw [El (by rw [g1.ok.kb]; exact my)] at z; exact z),lt2,fun tt htt=>?_⟩
      have st_:=aH htt (.tup [.str y,.int (o9 w.bx y)])
      have lw:=bJ pw
      have lf:(((bs.take i).filter fun x=>decide (x∈w.wr)).map fun x=>(x,o9 w.bx x)).length<=bs.length:=by
        rw [av]
        refine cv (jm _ _) ?_
        rw [cN]
        omega
      refine ⟨wl,ws,_,rfl,rfl,st_ _ _ gw,(by omega),_,_,rfl,yc (sm.trans st_) hwl _,ah,?_⟩
      rw [ft,ba]
      have kp:∀ b xs,upd G tt (.tup [.str y,.int (o9 w.bx y)]) b=some (.tup xs)->upd (upd G tt (.tup [.str y,.int (o9 w.bx y)])) wl (.lst (ws++[.ref tt])) b=some (.tup xs):=fun b xs z=>bL z (fc z (st_ _ _ gw) (by intro q; cases q))
      exact fb (Paired.mono (fun _ _ z=>(z.keep fun b xs e=>st_ _ _ e).keep kp) pw) ⟨tt,rfl,kp _ _ ah⟩
    · rw [if_neg c]
      rw [if_neg (by rw [decide_eq_false c]; decide),cW] at ft
      refine fG ⟨_,ws,rfl,sm,gw,?_⟩
      rw [ft]
      exact pw
  rintro σ G ⟨u,ws1,rfl,sm,gw,pw⟩
  have g1:=g.same sm
  have ev1:vb.length=bs.length:=bJ pb
  rw [ev1,eC] at pw
  refine ⟨_,rfl,L.d,CD,L.dx,_,_,rfl,g1.hd,T.cl,T.nM,JJ _ _ _ _ _ _ _ _,t,_,_,_,em,rfl,SqT.of (g1.sm _ _ ht),rfl,ql,rfl,⟨_,SqL.of (g1.sm _ _ hql)⟩,?_⟩
  refine jU (K:=K) (a:=ql) (xs:=qs.map V.str) (fun i σ G=>∃ (u v:Option V) (ws2:List V) (qa:List (Str×aa)),σ=[some (.ref L.d),some (.ref wl),u,v]/\bF H G/\G wl=some (.lst (ws1++ws2))/\aW (zB G) ws1 (wrB bs w)/\aW (BL G) ws2 qa /\
    gb G qa (((qs.take i).filter fun x=>decide (x∈w.wr)).map fun x=>(x,iU w.qu x))/\(wl :: qa.map (·.2)).Nodup/\∀ a∈wl :: qa.map (·.2),H a=none) ⟨_,_,[],[],rfl,sm,by rw [cW]; exact gw,pw,.nil,by rw [pD]; exact .nil,by simp,fun a ha=>by rw [au.mp ha]; exact hwl⟩ ?_ ?_ ?_
  · rintro i σ G _ ⟨_,_,_,_,rfl,sm,_⟩
    exact SqL.of (sm _ _ (g.sm _ _ hql))
  · rintro i x σ G hi ⟨u,v,ws2,qa,rfl,sm,gw,pw,pq,pl,nd,fr⟩
    have g1:=g.same sm
    obtain ⟨y,hy,rfl⟩:∃ y,qs[i]?=some y/\x=.str y:=by
      rw [bf] at hi
      cases z:qs[i]? with
      | none =>
        rw [z] at hi
        cases hi
      | some y =>
        rw [z] at hi
        cases hi
        exact ⟨y,rfl,rfl⟩
    have my:y∈qs:=aM hy
    have ft:=rC (p:=fun x=>decide (x∈w.wr)) hy
    refine ⟨_,rfl,_,rfl,L.d,CD,L.dx,_,_,rfl,g1.hd,T.cl,T.nW,Eh _ _ _ _ _ _ _ _,L.wd,_,rfl,inW g1 y,_,rfl,?_⟩
    by_cases c:y∈w.wr
    · rw [if_pos c]
      rw [if_pos (decide_eq_true c)] at ft
      refine gJ ?_
      obtain ⟨l,h1,h2,h3⟩:=g1.getL my
      refine ⟨_,rfl,.inl ⟨rfl,_,SqL.of gw⟩,_,rfl,_,rfl,L.d,CD,L.dx,_,_,rfl,g1.hd,T.cl,T.nS,ux _ _ _ _ _ _ _ _,L.st,CS,L.dxs,_,_,rfl,g1.hst,TM.clS,TM.nQ,Ha _ _ _ _,_,rfl,L.qd,_,rfl,h3,l,_,rfl,.inl (SqL.of h2),fun nl hnl=>?_⟩
      have sn:=aH hnl (.lst ((iU w.qu y).map V.int))
      refine ⟨lt2,fun tt htt=>?_⟩
      have st_:=aH htt (.tup [.str y,.ref nl])
      have lw:=bJ pq
      have lb:=bJ pw
      have lq:=bJ pl
      have lf:(((qs.take i).filter fun x=>decide (x∈w.wr)).map fun x=>(x,iU w.qu x)).length<=qs.length:=by
        rw [av]
        refine cv (jm _ _) ?_
        rw [cN]
        omega
      have lf2:(wrB bs w).length<=bs.length:=by
        unfold wrB
        rw [av]
        exact jm _ _
      have gw':=st_ _ _ (sn _ _ gw)
      have nlw:nl≠wl:=(aN gw hnl).symm
      have kp:∀ b xs,upd (upd G nl (.lst ((iU w.qu y).map V.int))) tt (.tup [.str y,.ref nl]) b=some (.tup xs)->upd (upd (upd G nl (.lst ((iU w.qu y).map V.int))) tt (.tup [.str y,.ref nl])) wl (.lst (ws1++ws2++[.ref tt])) b=some (.tup xs):=fun b xs z=>bL z (fc z gw' (by intro q; cases q))
      refine ⟨wl,_,_,rfl,rfl,gw',(by rw [aB]; omega),_,_,ws2++[.ref tt],qa++[(y,nl)],rfl,yc ((sm.trans sn).trans st_) hwl _,(by rw [<- dQ]; exact ah),?_,?_,?_,?_,?_⟩
      · exact Paired.mono (fun _ _ z=>(z.keep fun b xs e=>st_ _ _ (sn _ _ e)).keep kp) pw
      · exact fb (Paired.mono (fun _ _ z=>(z.keep fun b xs e=>st_ _ _ (sn _ _ e)).keep kp) pq) ⟨tt,rfl,kp _ _ ah⟩
      · rw [ft,ba]
        refine fb (gb.keep (L:=⟨0,0,0,0,0,0,0,0,0,0,.non,.non,qa⟩) (fun a u e m=>bL (st_ _ _ (sn _ _ e)) fun z=>?_) (fun _ h=>h) pl) ⟨rfl,bL (st_ _ _ ah) nlw⟩
        rw [z] at m
        exact (bh.mp nd).1 m
      · rw [ba,<- FA]
        refine g9.mpr ⟨nd,by simp,fun a ha b hb=>?_⟩
        rw [au.mp hb]
        intro z
        rcases ak.mp ha with q | q
        · exact nlw ((show a=nl from z).symm.trans q)
        · obtain ⟨xs,q⟩:=pl.there q
          rw [show a=nl from z,hnl] at q
          cases q
      · intro a ha
        rw [ba,<- FA] at ha
        rcases aU.mp ha with z | z
        · exact fr a z
        · rw [au.mp z]
          exact none_of sm hnl
    · rw [if_neg c]
      rw [if_neg (by rw [decide_eq_false c]; decide),cW] at ft
      refine fG ⟨_,_,ws2,qa,rfl,sm,gw,pw,pq,?_,nd,fr⟩
      rw [ft]
      exact pl
  rintro σ G ⟨u,v,ws2,qa,rfl,sm,gw,pw,pq,pl,nd,fr⟩
  rw [av,eC] at pl
  exact ⟨_,rfl,k G wl ws1 ws2 qa sm ⟨gw,pw,pq,pl,nd,fr⟩⟩
end
end My
namespace My
open PySem L2
structure Ex (CD CS:aa) (bs qs:List Str) (H G:Hp) (L:Lay) (h:Ev) (ds:List Int) (w:Wk) (t rc wl:aa) (ws1 ws2:List V) (qa:List (Str×aa)):Prop where
  dg:∃ H0,bF H H0/\Dg CD CS bs qs H0 G L h ds w
  ht:G t=some (.tup [.ref L.st,.ref rc,.bl w.en])
  hrc:∃ k,G rc=some (.tup [.ref k,.int h.to,.str h.sg,.int h.a,.int h.b,.ref wl,.ref L.od])/\H k=some (.tup [.int h.t,.int h.r,.int h.fr,.int h.c])
  wr:WrIn bs qs w H G wl ws1 ws2 qa
  nd:(L.all++wl :: qa.map (·.2)).Nodup
theorem Ex.sm {CD CS:aa} {bs qs:List Str} {H G:Hp} {L:Lay} {h:Ev} {ds:List Int} {w:Wk} {t rc wl:aa} {ws1 ws2:List V} {qa:List (Str×aa)} (n:Ex CD CS bs qs H G L h ds w t rc wl ws1 ws2 qa):bF H G:=by
  obtain ⟨H0,s,g⟩:=n.dg
  exact s.trans g.sm
def w0 (bx:List (Str×Int)) (qu:List (Str×List Int)) (dr:Nat) (se:Int):Wk:=⟨bx,qu,dr,se,[],[],false,[],[]⟩
section
variable {P:aO} {w:bj} {K:af} {mg:Str->Option ae} {base:cb} {f fI fS fB fW fO CD CS CM:aa} {fd fdI fdS fdB fdW fdO:bG} {bs qs:List Str} {cf:Flt->aa}
def Ey (cf:Flt->aa) (CM CD CS:aa) (bs qs:List Str) (n:Nat):Sp:=fun vs H Q E=>∃ (m dxm ml st:aa) (fs:List (Str×V)) (ms:List V) (hv mv:V) (h:Ev) (ds:List Int) (hs:List (Str×Ds)) (bx:List (Str×Int)) (qu:List (Str×List Int)) (dr:Nat) (se:Int),vs=[.ref m,.ref st,hv]/\H m=some (.ins CM dxm fs)/\fs.lookup ("machines":Str)=some (.ref ml)/\H ml=some (.lst ms) /\
  jB H hv h/\atI ms h.to=some mv/\rg bs qs ds hs H mv/\kC CS H st bx qu dr se/\pf bs qs (w0 bx qu dr se)/\Wo h.t/\Wo h.a/\Wo h.b/\(ib hs h.sg).deep < n/\(ib hs h.sg).size < 100000 /\
  match doS h ds (ib hs h.sg) (w0 bx qu dr se) with
  | .ok w'=>∀ (G:Hp) (L:Lay) (t rc wl:aa) (ws1 ws2:List V) (qa:List (Str×aa)),Ex CD CS bs qs H G L h ds w' t rc wl ws1 ws2 qa->Q (.ref t) G
  | .error e=>∀ G,bF H G->E (.ref (cf e)) none G
theorem by_go {CD CS:aa} {bs qs:List Str} {H G:Hp} {L:Lay} {h:Ev} {ds:List Int} {w:Wk} {tm hl:aa} {x0 x1 x2 x3:V} {hvs:List V} {hs:List (Str×Ds)} {sg:Str} {Q1:VK} {E:XK} (g:Dg CD CS bs qs H G L h ds w) (htm:H tm=some (.tup [x0,x1,x2,x3,.ref hl])) (hhl:H hl=some (.lst hvs)) (ph:aW (BK bs qs H) hvs hs)
    (k:∀ (H0 G1:Hp) (u:V),bF H H0->bF G G1->Dg CD CS bs qs H0 G1 L h ds w->j3 H0 (eV bs qs H0 (ib hs sg)) u->Q1 u G1):JS bs qs [.ref tm,.str sg] G Q1 E:=by
  refine ⟨H,tm,hl,_,_,_,_,hvs,hs,sg,rfl,g.sm,htm,hhl,ph,fun u hu=>k H G u (bF.refl _) (bF.refl _) g hu,fun l hl' e=>?_⟩
  have sl:=aH hl' (.lst [])
  have nl:=none_of g.sm hl'
  have s0:=aH nl (.lst [])
  have s1:bF (upd H l (.lst [])) (upd G l (.lst [])):=fun b o z=>by
    by_cases c:b=l
    · rw [c] at z |-
      rw [ah] at z |-
      exact z
    · rw [aG c] at z |-
      exact g.sm _ _ z
  refine k _ _ _ s0 sl (g.base sl s0 s1 fun a ha=>?_) ⟨l,[],rfl,ah,by show 0 < 1000; decide,?_⟩
  · obtain ⟨o,z⟩:=g.there a ha
    rw [aG (aN z hl')]
    exact g.fr a ha
  · rw [e]
    simp only [eV]
def IA (cf:Flt->aa) (CM CD CS:aa) (bs qs:List Str) (n:Nat):Sp:=fun vs H Q E=>∃ (m dxm ml st:aa) (fs:List (Str×V)) (ms:List V) (hv mv:V) (h:Ev) (ds:List Int) (hs:List (Str×Ds)) (bx:List (Str×Int)) (qu:List (Str×List Int)) (dr:Nat) (se:Int),vs=[.ref m,.ref st,hv]/\H m=some (.ins CM dxm fs)/\fs.lookup ("machines":Str)=some (.ref ml)/\H ml=some (.lst ms) /\
  jB H hv h/\atI ms h.to=some mv/\rg bs qs ds hs H mv/\kC CS H st bx qu dr se/\pf bs qs (w0 bx qu dr se)/\Wo h.t/\Wo h.a/\Wo h.b/\(ib hs h.sg).deep < n/\(ib hs h.sg).size < 100000 /\
  match doS h ds (ib hs h.sg) (w0 bx qu dr se) with
  | .ok w'=>∀ (H0 G:Hp) (L:Lay),bF H H0->Dg CD CS bs qs H0 G L h ds w'->L.m=mv->Q (.ref L.d) G
  | .error e=>∀ G,bF H G->E (.ref (cf e)) none G
theorem JT:bD ["model","state","happening","machine","doing"] ["model","state","happening"] (aP mB):=⟨rfl,rfl,rfl,by decide +kernel,rfl,by decide +kernel,by decide +kernel⟩
theorem JU {n:Nat} (D:Df K mg "doing_of" mB ["model","state","happening"] f fd) (MD:Mk K CD fI) (bI:Binds K fdI ["self","machine","state","happening"] []) (GI:bg P w K mg base CX0 4 fI fdI ["self","machine","state","happening"] (JR CD CS bs qs))
    (DS:Df K mg "do_deeds" gZ ["doing","deeds"] fS fdS) (GS:bg P w K mg base (CXo P w) (20 + 3 * n) fS fdS ["doing","deeds"] (tE cf CD CS bs qs n)) (DB:Df K mg "deeds_by_sign" gK ["machine","sign"] fB fdB) (T:DT K mg CD) (TM:MdT K mg CM CS) :
    bg P w K mg base (CXo P w) (20 + 3 * n + 1) f fd ["model","state","happening"] (IA cf CM CD CS bs qs n):=by
  have GB:bg P w K mg base CX0 1 fB fdB ["machine","sign"] (JS bs qs):=ok_by DB
  refine D.F.okX JT (fun vs H Q E h=>?_) (fun cdv A outer s H vs Q E hr h=>?_)
  · obtain ⟨m,dxm,ml,st,fs,ms,hv,mv,h,ds,hs,bx,qu,dr,se,rfl,_⟩:=h
    rfl
  obtain ⟨m,dxm,ml,st,fs,ms,hv,mv,h,ds,hs,bx,qu,dr,se,rfl,hm,hfs,hml,hE,hmv,hM,hS,ok,wt,wa,wb,dn,sz,p⟩:=h
  have r1:dN 1 _:=hr.mono (by omega)
  have r5:dN 5 _:=hr.mono (by omega)
  refine ⟨_,ax (bK (i:=3) JT.nd rfl (Or.inl rfl) (bP eY (cq (pv 0) rfl) (bP b8 (pv 2) aD (fun _ _=>rfl)) (fun _ _=>rfl)))
    (ax (bK (i:=4) JT.nd rfl (Or.inl rfl) (oK MD GI r5 (by rfl) T.mD bI .nil cL (ai (pv 3) (ai (pv 1) (ai (pv 2) ay)))))
    (ax (c5 (cw GS hr (by rfl) DS.m DS.F.kp DS.b .nil (dy.passes fun _ _ _ z=>z) (ai (pv 4) (ai (cw GB r1 (by rfl) DB.m DB.F.kp DB.b .nil cL (ai (pv 3) (ai (bP b8 (pv 2) aD (fun _ _=>rfl)) ay))) ay))))
    (aF (bV (pv 4))))),?_⟩
  obtain ⟨th,kh,rfl,hth,hkh⟩:=id hE
  obtain ⟨tm,bl,ql,dl,hl,nm,vb,hvs,rfl,htm,hbl,pb,hql,hdl,hhl,ph⟩:=hM.ex
  refine ⟨_,rfl,m,CM,dxm,_,_,rfl,hm,TM.clM,TM.nM,hfs,_,rfl,th,_,_,_,rfl,rfl,SqT.of hth,rfl,ml,_,_,_,rfl,rfl,SqL.of hml,hmv,?_⟩
  refine ⟨_,rfl,_,rfl,_,rfl,?_⟩
  intro d dx nd_ ndx nne
  have sA:bF H (upd (upd H dx (.own d)) d (.ins CD dx [])):=fun b o e=>by
    rw [aG (aN e nd_),aG (aN e ndx)]
    exact e
  refine ⟨H,d,dx,st,.ref tm,.ref th,h,ds,bx,qu,dr,se,rfl,ah,nd_,sA,hS,hE,⟨tm,_,_,_,_,dl,rfl,htm,hdl⟩,ok,wt,wa,wb,fun G L eL em g=>⟨rfl,?_⟩⟩
  have gth:=g.sm _ _ hth
  refine ⟨_,rfl,_,rfl,_,rfl,th,_,_,_,rfl,rfl,SqT.of gth,rfl,?_⟩
  subst eL
  refine by_go (E:=E0) g htm hhl ph fun H0 G1 u s0 s1 g1 hu=>?_
  refine ⟨H0,L,h,ds,w0 bx qu dr se,u,ib hs h.sg,rfl,g1,hu,dn,(by show 0 + _ < _; omega),?_⟩
  have mid:∀ {dg:Wk->Hp->Prop} {r:Except Flt Wk} {Q1:VK} {k:Nat},r=doS h ds (ib hs h.sg) (w0 bx qu dr se)->(∀ w' G2,r=.ok w'->dg w' G2->Q1 .non G2)->rb cf dg H0 k r Q1 E:=fun {dg r Q1 k} e q=>by
    cases r with
    | ok w'=>exact fun G2 g2 _=>q w' G2 rfl g2
    | error er =>
      rw [<- e] at p
      exact fun G2 s2=>p G2 (s0.trans s2)
  refine mid rfl fun w' G2 ew g2=>?_
  rw [ew] at p
  exact ⟨_,rfl,p H0 G2 L s0 g2 em⟩
theorem JV:bD ["model","state","happening","doing","record"] ["model","state","happening"] (aP wz):=⟨rfl,rfl,rfl,by decide +kernel,rfl,by decide +kernel,by decide +kernel⟩
theorem AH {n:Nat} (D:Df K mg "done" wz ["model","state","happening"] f fd) (DO:Df K mg "doing_of" mB ["model","state","happening"] fO fdO) (MD:Mk K CD fI) (bI:Binds K fdI ["self","machine","state","happening"] []) (GI:bg P w K mg base CX0 4 fI fdI ["self","machine","state","happening"] (JR CD CS bs qs))
    (DS:Df K mg "do_deeds" gZ ["doing","deeds"] fS fdS) (GS:bg P w K mg base (CXo P w) (20 + 3 * n) fS fdS ["doing","deeds"] (tE cf CD CS bs qs n)) (DB:Df K mg "deeds_by_sign" gK ["machine","sign"] fB fdB) (DW:Df K mg "writes_of" kQ ["doing"] fW fdW) (T:DT K mg CD) (TM:MdT K mg CM CS) (B:Bl mg) :
    bg P w K mg base (CXo P w) (20 + 3 * n + 2) f fd ["model","state","happening"] (Ey cf CM CD CS bs qs n):=by
  have GO:bg P w K mg base (CXo P w) (20 + 3 * n + 1) fO fdO ["model","state","happening"] (IA cf CM CD CS bs qs n):=JU DO MD bI GI DS GS DB T TM
  have GW:bg P w K mg base CX0 1 fW fdW ["doing"] (spWr CD CS bs qs):=BM DW T TM B
  refine D.F.okX JV (fun vs H Q E h=>?_) (fun cdv A outer s H vs Q E hr h=>?_)
  · obtain ⟨m,dxm,ml,st,fs,ms,hv,mv,h,ds,hs,bx,qu,dr,se,rfl,_⟩:=h
    rfl
  obtain ⟨m,dxm,ml,st,fs,ms,hv,mv,h,ds,hs,bx,qu,dr,se,rfl,hm,hfs,hml,hE,hmv,hM,hS,ok,wt,wa,wb,dn,sz,p⟩:=h
  have r1:dN 1 _:=hr.mono (by omega)
  refine ⟨_,ax (bK (i:=3) JV.nd rfl (Or.inl rfl) (cw GO hr (by rfl) DO.m DO.F.kp DO.b .nil (dy.passes fun _ _ _ z=>z) (ai (pv 0) (ai (pv 1) (ai (pv 2) ay)))))
    (ax (bK (i:=4) JV.nd rfl (Or.inl rfl) (cS Ab (pv 2) (cK (ai (cw GW r1 (by rfl) DW.m DW.F.kp DW.b .nil cL (ai (pv 3) ay)) (ai (cq (pv 3) rfl) ay)))))
    (aF (bV (cK (ai (cq (pv 3) rfl) (ai (pv 4) (ai (cq (pv 3) rfl) ay))))))),?_⟩
  obtain ⟨th,kh,rfl,hth,hkh⟩:=id hE
  refine ⟨_,rfl,_,rfl,_,rfl,m,dxm,ml,st,fs,ms,_,mv,h,ds,hs,bx,qu,dr,se,rfl,hm,hfs,hml,hE,hmv,hM,hS,ok,wt,wa,wb,dn,sz,?_⟩
  cases ew:doS h ds (ib hs h.sg) (w0 bx qu dr se) with
  | error e =>
    rw [ew] at p
    exact p
  | ok w' =>
  rw [ew] at p
  intro H0 G2 L s0 g2 em
  have hth2:=g2.sm _ _ (s0 _ _ hth)
  have gM:rg bs qs ds hs H0 L.m:=by
    rw [em]
    exact hM.same s0
  refine ⟨_,rfl,_,rfl,H0,L,h,ds,w',hs,rfl,g2,gM,fun G3 wl ws1 ws2 qa s3 wr=>?_⟩
  have g3:=g2.same s3
  refine ⟨_,rfl,L.d,CD,L.dx,_,_,rfl,g3.hd,T.cl,T.nO,dF_o _ _ _ _ _ _ _ _,lt2,fun tt htt=>?_⟩
  have s4:=aH htt (.tup [.ref wl,.ref L.od])
  refine ⟨th,tt,_,_,rfl,rfl,SqT.of (s4 _ _ (s3 _ _ hth2)),SqT.of ah,(by intro z; cases z),(by show 7<=az; decide),(fun z=>by cases z),fun _ rc hrc=>?_⟩
  have s5:=aH hrc (.tup [.ref kh,.int h.to,.str h.sg,.int h.a,.int h.b,.ref wl,.ref L.od])
  have g5:=(g3.same s4).same s5
  refine ⟨_,rfl,L.d,CD,L.dx,_,_,rfl,g5.hd,T.cl,T.nS,ux _ _ _ _ _ _ _ _,_,rfl,_,rfl,L.d,CD,L.dx,_,_,rfl,g5.hd,T.cl,T.nE,dF_e _ _ _ _ _ _ _ _,(by show 3<=az; decide),fun t ht=>?_⟩
  have s6:=aH ht (.tup [.ref L.st,.ref rc,.bl w'.en])
  have s46:=(s4.trans s5).trans s6
  refine p _ L t rc wl ws1 ws2 qa ⟨⟨H0,s0,g5.same s6⟩,ah,⟨kh,s6 _ _ ah,hkh⟩,⟨s46 _ _ wr.hl,Paired.mono (fun _ _ z=>z.keep fun b xs e=>s46 _ _ e) wr.b,Paired.mono (fun _ _ z=>z.keep fun b xs e=>s46 _ _ e) wr.q,wr.l.same s46,wr.nd,fun a ha=>none_of (s0.trans g2.sm) (wr.fr a ha)⟩,?_⟩
  refine g9.mpr ⟨g2.nd,wr.nd,fun a ha b hb z=>?_⟩
  obtain ⟨o,y⟩:=g2.there a ha
  rw [z,wr.fr b hb] at y
  cases y
end
end My
namespace My
open PySem L2
theorem eO {t u:TS} {D:jS} {σ:St} {H:Hp} (h:t {D with nx:=u D} σ H):tSeq t u D σ H:=h
theorem e9 {te:TE} {g:TG} {D:jS} {σ:St} {H:Hp} (h:te σ H fun x H1=>g x σ H1 D.nx):FH te g D σ H:=h
theorem cT {i:Nat} {v:V} {σ:St} {H:Hp} {Q:St->Hp->Prop} (h:Q (σ.set i (some v)) H):zV i v σ H Q:=h
theorem Ez {t:TE} {r:TA} {σ:St} {H:Hp} {Q:List V->Hp->Prop} (h:t σ H fun x H1=>r σ H1 fun xs H2=>Q (x :: xs) H2):iV t r σ H Q:=h
theorem JW {sp:Sp} {dvs:List V} {E:XK} {t:TA} {σ:St} {H:Hp} {Q:VK} (h:t σ H fun vs H1=>sp (vs++dvs) H1 Q E):C0 sp dvs E t σ H Q:=h
theorem EA {C:aa} {sp:Sp} {dvs:List V} {E:XK} {t:TA} {σ:St} {H:Hp} {Q:VK} (h:t σ H fun vs H1=>∀ x dx,H1 x=none->H1 dx=none->dx≠x ->
    sp (.ref x :: (vs++dvs)) (upd (upd H1 dx (.own x)) x (.ins C dx [])) (fun v H2=>v=.non/\Q (.ref x) H2) E):C1 C sp dvs E t σ H Q:=h
end My
namespace My
open PySem L2
section
variable {X:Cx} {e:cA} {ta:TE} {f:Str} {pos:Pos}
theorem mI (K:af) (hK:X.K=K) (he:PE X e ta) (hb:kj e f X.env (eP e X.env)=eP e X.env):PE X (.Attribute e f pos) (FU K ta f):=by
  rw [<- hK]
  exact cq he hb
end
end My
namespace My
open PySem L2
theorem AI {H:Hp} {n:Nat} {t:aa} {xs:List V} (ht:H t=some (.tup xs)\/H t=some (.lst xs)) (T:Tree H n (.ref t)):∃ m,n=m + 1/\∀ x∈xs,Tree H m x:=by
  cases n with
  | zero=>exact T.elim
  | succ m =>
    refine ⟨m,rfl,?_⟩
    rcases T with T | ⟨p,ys,e,h1,_,h2⟩
    · exact T.elim
    · cases e
      have exy:xs=ys:=by
        rcases ht with ht | ht <;> rcases h1 with h1 | h1 <;> rw [ht] at h1 <;> cases h1 <;> rfl
      rw [exy]
      exact h2
theorem il {H H':Hp} {n:Nat} {t:aa} {xs:List V} {v':V} (ht:H t=some (.tup xs)) (T:Tree H n (.ref t)) (al:Alike H H' n (.ref t) v'):∃ m t' ys,v'=.ref t'/\H' t'=some (.tup ys)/\aW (Alike H H' m) xs ys/\∀ x∈xs,Tree H m x:=by
  obtain ⟨m,rfl,h⟩:=AI (.inl ht) T
  obtain ⟨t',ys,e,h1,h2⟩:=oP ht al
  exact ⟨m,t',ys,e,h1,h2,h⟩
theorem tH {H H':Hp} {n:Nat} {t:aa} {xs:List V} {v':V} (ht:H t=some (.lst xs)) (T:Tree H n (.ref t)) (al:Alike H H' n (.ref t) v'):∃ m t' ys,v'=.ref t'/\H' t'=some (.lst ys)/\aW (Alike H H' m) xs ys/\∀ x∈xs,Tree H m x:=by
  obtain ⟨m,rfl,h⟩:=AI (.inr ht) T
  obtain ⟨t',ys,e,h1,h2⟩:=jN ht al
  exact ⟨m,t',ys,e,h1,h2,h⟩
theorem cD {R:V->V->Prop} {x:V} {xs ys:List V} (r:aW R (x :: xs) ys):∃ y yr,ys=y :: yr/\R x y/\aW R xs yr:=by
  cases r with
  | cons a b=>exact ⟨_,_,rfl,a,b⟩
theorem iW {R:V->V->Prop} {ys:List V} (r:aW R [] ys):ys=[]:=by
  cases r
  rfl
theorem ju.alike {bs qs:List Str} {H H':Hp} {v:V} {F:Fm} (h:ju bs qs H v F):∀ {n:Nat} {v':V},Tree H n v->Alike H H' n v v'->ju bs qs H' v' F:=by
  induction h with
  | num h1 h2 =>
    intro n v' T al
    obtain ⟨m,t',ys,rfl,g1,g2,_⟩:=il h1 T al
    rw [iF g2 (by intro x hx; simp only [ak,aX,or_false] at hx; rcases hx with rfl | rfl <;> exact trivial)] at g1
    exact .num g1 h2
  | box h1 h2 =>
    intro n v' T al
    obtain ⟨m,t',ys,rfl,g1,g2,_⟩:=il h1 T al
    rw [iF g2 (by intro x hx; simp only [ak,aX,or_false] at hx; rcases hx with rfl | rfl <;> exact trivial)] at g1
    exact .box g1 h2
  | long h1 h2 =>
    intro n v' T al
    obtain ⟨m,t',ys,rfl,g1,g2,_⟩:=il h1 T al
    rw [iF g2 (by intro x hx; simp only [ak,aX,or_false] at hx; rcases hx with rfl | rfl <;> exact trivial)] at g1
    exact .long g1 h2
  | got h1 =>
    intro n v' T al
    obtain ⟨m,t',ys,rfl,g1,g2,_⟩:=il h1 T al
    rw [iF g2 (by intro x hx; simp only [ak,aX,or_false] at hx; rcases hx with rfl | rfl <;> exact trivial)] at g1
    exact .got g1
  | now h1 =>
    intro n v' T al
    obtain ⟨m,t',ys,rfl,g1,g2,_⟩:=il h1 T al
    rw [iF g2 (by intro x hx; rw [au.mp hx]; exact trivial)] at g1
    exact .now g1
  | two h1 h2 _ _ i1 i2 =>
    intro n v' T al
    obtain ⟨m,t',ys,rfl,g1,g2,tr⟩:=il h1 T al
    obtain ⟨y0,yr,rfl,a0,g2⟩:=cD g2
    obtain ⟨y1,yr,rfl,a1,g2⟩:=cD g2
    obtain ⟨y2,yr,rfl,a2,g2⟩:=cD g2
    obtain rfl:=iW g2
    have e0:=eN (v:=.str _) trivial a0
    rw [e0] at g1
    exact .two g1 h2 (i1 (tr _ (by simp)) a1) (i2 (tr _ (by simp)) a2)
theorem FmI.alike {bs qs:List Str} {H H':Hp} {v v':V} {F:Fm} {n:Nat} (h:FmI bs qs H v F) (T:Tree H n v) (al:Alike H H' n v v'):FmI bs qs H' v' F:=⟨h.1.alike T al,h.2⟩
theorem j3.alike {H H':Hp} {R R':List V->Prop} {v v':V} {n:Nat} (h:j3 H R v) (T:Tree H n v) (al:Alike H H' n v v') (k:∀ m vs ys,R vs->aW (Alike H H' m) vs ys->(∀ x∈vs,Tree H m x)->R' ys):j3 H' R' v':=by
  obtain ⟨l,vs,rfl,h1,h2,h3⟩:=h
  obtain ⟨m,t',ys,rfl,g1,g2,tr⟩:=tH h1 T al
  exact ⟨t',ys,rfl,g1,by rw [<- bJ g2]; exact h2,k m vs ys h3 g2 tr⟩
mutual
theorem dZ.alike {bs qs:List Str} {H H':Hp}:∀ (d:Dd) (v v':V) (n:Nat),dZ bs qs H d v->Tree H n v->Alike H H' n v v'->dZ bs qs H' d v'
  | .put x f,v,v',n,h,T,al=>by
    obtain ⟨t,u,rfl,h1,h2,h3⟩:=(by simpa only [dZ] using h)
    obtain ⟨m,t',ys,rfl,g1,g2,tr⟩:=il h1 T al
    obtain ⟨y0,yr,rfl,a0,g2⟩:=cD g2
    obtain ⟨y1,yr,rfl,a1,g2⟩:=cD g2
    obtain ⟨y2,yr,rfl,a2,g2⟩:=cD g2
    obtain rfl:=iW g2
    rw [eN (v:=.str _) trivial a0,eN (v:=.str _) trivial a1] at g1
    simp only [dZ]
    exact ⟨t',y2,rfl,g1,h2,h3.alike (tr _ (by simp)) a2⟩
  | .push x f,v,v',n,h,T,al=>by
    obtain ⟨t,u,rfl,h1,h2,h3⟩:=(by simpa only [dZ] using h)
    obtain ⟨m,t',ys,rfl,g1,g2,tr⟩:=il h1 T al
    obtain ⟨y0,yr,rfl,a0,g2⟩:=cD g2
    obtain ⟨y1,yr,rfl,a1,g2⟩:=cD g2
    obtain ⟨y2,yr,rfl,a2,g2⟩:=cD g2
    obtain rfl:=iW g2
    rw [eN (v:=.str _) trivial a0,eN (v:=.str _) trivial a1] at g1
    simp only [dZ]
    exact ⟨t',y2,rfl,g1,h2,h3.alike (tr _ (by simp)) a2⟩
  | .pull q x o,v,v',n,h,T,al=>by
    obtain ⟨t,u,rfl,h1,h2,h3,h4⟩:=(by simpa only [dZ] using h)
    obtain ⟨m,t',ys,rfl,g1,g2,tr⟩:=il h1 T al
    obtain ⟨y0,yr,rfl,a0,g2⟩:=cD g2
    obtain ⟨y1,yr,rfl,a1,g2⟩:=cD g2
    obtain ⟨y2,yr,rfl,a2,g2⟩:=cD g2
    obtain ⟨y3,yr,rfl,a3,g2⟩:=cD g2
    obtain rfl:=iW g2
    rw [eN (v:=.str _) trivial a0,eN (v:=.str _) trivial a1,eN (v:=.str _) trivial a2] at g1
    simp only [dZ]
    exact ⟨t',y3,rfl,g1,h2,h3,h4.alike (tr _ (by simp)) a3 fun m vs ys a b c=>eV.alike o vs ys m a b c⟩
  | .draw x f,v,v',n,h,T,al=>by
    obtain ⟨t,u,rfl,h1,h2,h3⟩:=(by simpa only [dZ] using h)
    obtain ⟨m,t',ys,rfl,g1,g2,tr⟩:=il h1 T al
    obtain ⟨y0,yr,rfl,a0,g2⟩:=cD g2
    obtain ⟨y1,yr,rfl,a1,g2⟩:=cD g2
    obtain ⟨y2,yr,rfl,a2,g2⟩:=cD g2
    obtain rfl:=iW g2
    rw [eN (v:=.str _) trivial a0,eN (v:=.str _) trivial a1] at g1
    simp only [dZ]
    exact ⟨t',y2,rfl,g1,h2,h3.alike (tr _ (by simp)) a2⟩
  | .send to sg sp rk a b,v,v',n,h,T,al=>by
    obtain ⟨t,u,u1,u2,rfl,h1,h2,h3,h4⟩:=(by simpa only [dZ] using h)
    obtain ⟨m,t',ys,rfl,g1,g2,tr⟩:=il h1 T al
    obtain ⟨y0,yr,rfl,a0,g2⟩:=cD g2
    obtain ⟨y1,yr,rfl,a1,g2⟩:=cD g2
    obtain ⟨y2,yr,rfl,a2,g2⟩:=cD g2
    obtain ⟨y3,yr,rfl,a3,g2⟩:=cD g2
    obtain ⟨y4,yr,rfl,a4,g2⟩:=cD g2
    obtain ⟨y5,yr,rfl,a5,g2⟩:=cD g2
    obtain ⟨y6,yr,rfl,a6,g2⟩:=cD g2
    obtain rfl:=iW g2
    rw [eN (v:=.str _) trivial a0,eN (v:=.int _) trivial a1,eN (v:=.str _) trivial a2,eN (v:=.int _) trivial a4] at g1
    simp only [dZ]
    exact ⟨t',y3,y5,y6,rfl,g1,h2.alike (tr _ (by simp)) a3,h3.alike (tr _ (by simp)) a5,h4.alike (tr _ (by simp)) a6⟩
  | .ife f x y,v,v',n,h,T,al=>by
    obtain ⟨t,u,u1,u2,rfl,h1,h2,h3,h4⟩:=(by simpa only [dZ] using h)
    obtain ⟨m,t',ys,rfl,g1,g2,tr⟩:=il h1 T al
    obtain ⟨y0,yr,rfl,a0,g2⟩:=cD g2
    obtain ⟨y1,yr,rfl,a1,g2⟩:=cD g2
    obtain ⟨y2,yr,rfl,a2,g2⟩:=cD g2
    obtain ⟨y3,yr,rfl,a3,g2⟩:=cD g2
    obtain rfl:=iW g2
    rw [eN (v:=.str _) trivial a0] at g1
    simp only [dZ]
    exact ⟨t',y1,y2,y3,rfl,g1,h2.alike (tr _ (by simp)) a1,h3.alike (tr _ (by simp)) a2 fun m vs ys a b c=>eV.alike x vs ys m a b c,h4.alike (tr _ (by simp)) a3 fun m vs ys a b c=>eV.alike y vs ys m a b c⟩
  | .fin,v,v',n,h,T,al=>by
    obtain ⟨t,rfl,h1⟩:=(by simpa only [dZ] using h)
    obtain ⟨m,t',ys,rfl,g1,g2,tr⟩:=il h1 T al
    obtain ⟨y0,yr,rfl,a0,g2⟩:=cD g2
    obtain rfl:=iW g2
    rw [eN (v:=.str _) trivial a0] at g1
    simp only [dZ]
    exact ⟨t',rfl,g1⟩
theorem eV.alike {bs qs:List Str} {H H':Hp}:∀ (d:Ds) (vs ys:List V) (n:Nat),eV bs qs H d vs->aW (Alike H H' n) vs ys->(∀ x∈vs,Tree H n x)->eV bs qs H' d ys
  | .nil,vs,ys,n,h,al,T=>by
    have e:vs=[]:=by simpa only [eV] using h
    subst e
    obtain rfl:=iW al
    simp only [eV]
  | .cons d r,vs,ys,n,h,al,T=>by
    obtain ⟨v,vr,rfl,h1,h2⟩:=(by simpa only [eV] using h)
    obtain ⟨y,yr,rfl,a,b⟩:=cD al
    simp only [eV]
    exact ⟨y,yr,rfl,dZ.alike d v y n h1 (T v aJ) a,eV.alike r vr yr n h2 b fun x hx=>T x (aj _ hx)⟩
end
theorem vn {α:Type} {R R':V->α->Prop} {S:V->V->Prop} {T:V->Prop} (f:∀ v a v',R v a->S v v'->T v->R' v' a):∀ {xs ys:List V} {as:List α},aW R xs as->aW S xs ys->(∀ x∈xs,T x)->aW R' ys as:=by
  intro xs ys as p
  induction p generalizing ys with
  | nil =>
    intro q _
    cases q
    exact .nil
  | cons a b ih =>
    intro q t
    cases q with
    | cons c d=>exact .cons (f _ _ _ a c (t _ aJ)) (ih d fun x hx=>t x (aj _ hx))
theorem rg.alike {bs qs:List Str} {ds:List Int} {hs:List (Str×Ds)} {H H':Hp} {v v':V} {n:Nat} (h:rg bs qs ds hs H v) (T:Tree H n v) (al:Alike H H' n v v'):rg bs qs ds hs H' v':=by
  obtain ⟨t,bl,ql,dl,hl,nm,vb,hv,rfl,h1,h2,h3,h4,h5,h6,h7⟩:=h.ex
  obtain ⟨m,t',ys,rfl,g1,g2,tr⟩:=il h1 T al
  obtain ⟨y0,yr,rfl,a0,g2⟩:=cD g2
  obtain ⟨y1,yr,rfl,a1,g2⟩:=cD g2
  obtain ⟨y2,yr,rfl,a2,g2⟩:=cD g2
  obtain ⟨y3,yr,rfl,a3,g2⟩:=cD g2
  obtain ⟨y4,yr,rfl,a4,g2⟩:=cD g2
  obtain rfl:=iW g2
  obtain ⟨m1,b',zs1,rfl,c1,d1,t1⟩:=tH h2 (tr _ (by simp)) a1
  obtain ⟨m2,q',zs2,rfl,c2,d2,t2⟩:=tH h4 (tr _ (by simp)) a2
  obtain ⟨m3,e',zs3,rfl,c3,d3,t3⟩:=tH h5 (tr _ (by simp)) a3
  obtain ⟨m4,f',zs4,rfl,c4,d4,t4⟩:=tH h6 (tr _ (by simp)) a4
  rw [iF d2 (by intro x hx; obtain ⟨z,_,rfl⟩:=bH.mp hx; exact trivial)] at c2
  rw [iF d3 (by intro x hx; obtain ⟨z,_,rfl⟩:=bH.mp hx; exact trivial)] at c3
  refine ⟨t',b',q',e',f',y0,zs1,zs4,rfl,g1,c1,vn (fun v a v' x y z=>?_) h3 d1 t1,c2,c3,c4,vn (fun v a v' x y z=>?_) h7 d4 t4⟩
  · obtain ⟨p,k,rfl,hp⟩:=x
    obtain ⟨m',p',ws,rfl,k1,k2,_⟩:=il hp z y
    obtain ⟨w0,wr,rfl,b0,k2⟩:=cD k2
    obtain ⟨w1,wr,rfl,b1,k2⟩:=cD k2
    obtain rfl:=iW k2
    rw [eN (v:=.str _) trivial b0] at k1
    exact ⟨p',w1,rfl,k1⟩
  · obtain ⟨p,u,rfl,hp,hu⟩:=x
    obtain ⟨m',p',ws,rfl,k1,k2,tr'⟩:=il hp z y
    obtain ⟨w0,wr,rfl,b0,k2⟩:=cD k2
    obtain ⟨w1,wr,rfl,b1,k2⟩:=cD k2
    obtain rfl:=iW k2
    rw [eN (v:=.str _) trivial b0] at k1
    exact ⟨p',w1,rfl,k1,hu.alike (tr' _ (by simp)) b1 fun m vs ys a b c=>eV.alike _ vs ys m a b c⟩
end My
namespace My
open PySem L2
def AJ (K:af):List V->Hp->VK->Prop:=fun xs H Q=>∃ p ys,xs=[.ref p]/\(SqL K H p ys\/SqT K H p ys)/\Q (.int ys.length) H
theorem jP {X:Cx} (K:af) (hK:X.K=K):kG X (.builtin "len") (AJ K):=by
  rw [<- hK]
  exact gH
theorem yd {X:Cx} (K:af) (hK:X.K=K):IxR X (rIxL K):=by
  rw [<- hK]
  exact eY
theorem kX {X:Cx} (K:af) (hK:X.K=K):IxR X (rIxT K):=by
  rw [<- hK]
  exact b8
theorem AK {X:Cx} {pos:Pos} {es:List cA} {k:Nat} {t:TGs} {n:Nat} (K:af) (hK:X.K=K) (hc:X.calm=true) (h:PGs X es t)
    (hn:(jT es X.env).length=n:=by rfl) (hst:(jT es X.env).findIdx? (·.1)=none:=by rfl):PG X (.Tuple es k pos) (gTup K n t):=by
  rw [<- hK]
  exact Cu hc h hn hst
theorem pj:1<=az:=by decide
theorem tJ {te:TE} {D:jS} {σ:St} {H:Hp} (h:te σ H D.rt):tRet te D σ H:=h
theorem BN {K:af} {m C dx ml:aa} {fs:List (Str×V)} {f:Str} {ms:List V} {n i:Nat} {g:TG} {tc:L2.TT} {te:TE} {σ:St} {H:Hp} {Q:VK} (hv:σ[i]?=some (some (.ref m))) (hm:H m=some (.ins C dx fs)) (cl:Cls K C) (na:dG K C f) (lk:fs.lookup f=some (.ref ml)) (hml:H ml=some (.lst ms)) (hlen:ms.length < 1000)
    (Pv:Nat->List V->Hp->Prop) (h0:Pv 0 [] H) (hl:∀ i ys H,i<=ms.length->Pv i ys H->ys.length < az)
    (hs:∀ i ys H,i < ms.length->Pv i ys H->g (.int (0 + i)) (b7 n none++σ) H fun σ2 H2=>σ2.drop n=σ/\tc σ2 H2 fun b H3=>if b=true then te σ2 H3 fun y H4=>Pv (i + 1) (ys++[y]) H4 else Pv (i + 1) ys H3)
    (hd:∀ ys H,Pv ms.length ys H->∀ p,H p=none->Q (.ref p) (upd H p (.lst ys))):qg n (zW (iV (tCB (AJ K) (iV (FU K (t7 i) f) rK)) rK)) g tc te σ H Q:=by
  refine ⟨.ref m,hv,m,C,dx,fs,.ref ml,rfl,hm,cl,na,lk,ml,ms,rfl,.inl (SqL.of hml),(ms.length:Int),rfl,by omega,by omega,?_⟩
  rw [l8]
  refine ⟨fun i k ys H=>k=ms.length - i/\i<=ms.length/\Pv i ys H,⟨ms.length,by simp,bA _,h0⟩,?_⟩
  rintro i k ys H ⟨rfl,hi,pv'⟩
  refine ⟨hl i ys H hi pv',?_⟩
  by_cases lt:i < ms.length
  · refine .inr ⟨lt,Pv (i + 1),fun ys' H' p'=>⟨ms.length - (i + 1),by omega,rfl,lt,p'⟩,fun x H' y=>?_⟩
    obtain ⟨e,y⟩:=y
    subst e y
    exact hs i ys _ lt pv'
  · have e:i=ms.length:=by omega
    subst e
    exact .inl ⟨aE _,hd ys H pv'⟩
theorem tK {K:af} {a:aa} {xs:List V} {n i:Nat} {g:TG} {tc:L2.TT} {te:TE} {σ:St} {H:Hp} {Q:VK} (hv:σ[i]?=some (some (.ref a))) (hx:SqL K H a xs) (Pv:Nat->List V->Hp->Prop) (h0:Pv 0 [] H) (hl:∀ i ys H,i<=xs.length->Pv i ys H->SqL K H a xs/\ys.length < az)
    (hs:∀ i x t ys H,xs[i]?=some x->Pv i ys H->H t=none->g (.ref t) (b7 n none++σ) (upd H t (.tup [.int i,x])) fun σ2 H2=>σ2.drop n=σ/\tc σ2 H2 fun b H3=>if b=true then te σ2 H3 fun y H4=>Pv (i + 1) (ys++[y]) H4 else Pv (i + 1) ys H3)
    (hd:∀ ys H,Pv xs.length ys H->∀ p,H p=none->Q (.ref p) (upd H p (.lst ys))):qg n (Ik K (iV (t7 i) rK)) g tc te σ H Q:=
  ⟨.ref a,hv,a,rfl,⟨xs,hx⟩,BB Pv h0 hl hs hd⟩
def ye (H:Hp) (v:V) (e:Ev):Prop:=∃ t,v=.ref t/\H t=some (.tup [.int e.t,.int e.r,.int e.to,.str e.sg,.int e.a,.int e.b])
theorem ye.same {H H':Hp} (s:bF H H') {v:V} {e:Ev} (h:ye H v e):ye H' v e:=by
  obtain ⟨t,e,h⟩:=h
  exact ⟨t,e,s _ _ h⟩
def atP (e:Ev) (i:Nat):Ev:={e with fr:=-1,c:=i}
section
variable {P:aO} {w:bj} {K:af} {mg:Str->Option ae} {base:cb} {f fP CB:aa} {fd fdP:bG}
def IB:Sp:=fun vs H Q _=>∃ (sl:aa) (svs:List V) (es:List Ev),vs=[.ref sl]/\H sl=some (.lst svs)/\aW (ye H) svs es/\es.length < 1000 /\
  ∀ (G:Hp) (l:aa) (ys:List V),bF H G->H l=none->G l=some (.lst ys)->ys.length=es.length->(∀ i y e,ys[i]?=some y->es[i]?=some e->jB G y (atP e i))->Q (.ref l) G
theorem scPf:bD ["signs"] ["signs"] (aP fK):=⟨rfl,rfl,rfl,by decide +kernel,rfl,by decide +kernel,by decide +kernel⟩
theorem ndPf:((["place","sign"]:List Str)++(["signs"]:List Str)).Nodup:=by decide +kernel
theorem EB (D:Df K mg "pending_at_first" fK ["signs"] f fd) (ME:mg "enumerate"=none):bg P w K mg base CX0 1 f fd ["signs"] IB:=by
  refine D.F.ok scPf (fun vs H Q E h=>?_) (fun cdv A outer s H vs Q E hr h=>?_)
  · obtain ⟨sl,svs,es,rfl,_⟩:=h
    rfl
  obtain ⟨sl,svs,es,rfl,hsl,ps,les,k⟩:=h
  refine ⟨_,aF (bV (kN ["place","sign"] (gY.open (NN:=["signs"]) (N:=["signs"]) (sc:=aP fK) rfl rfl (by decide +kernel) rfl (by decide +kernel) (by decide +kernel) rfl (by decide +kernel)) rfl (Ap (by rfl) ME (ai (pv 0) ay))
    (fun _ _ _ _=>AK (n:=2) K (by rfl) rfl (lG (eF (i:=0) ndPf rfl (Or.inl rfl)) (lG (eF (i:=1) ndPf rfl (Or.inl rfl)) vL))) (fun _ _ _ _=>jJ)
    (fun _ _ _ _=>cK (ai (cK (ai (bP (kX K (by rfl)) (pv 1) aD (by intro _ _; rfl)) (ai (bP (kX K (by rfl)) (pv 1) aD (by intro _ _; rfl)) (ai (sD pG aD) (ai (pv 0) ay)))))
      (ai (bP (kX K (by rfl)) (pv 1) aD (by intro _ _; rfl)) (ai (bP (kX K (by rfl)) (pv 1) aD (by intro _ _; rfl)) (ai (bP (kX K (by rfl)) (pv 1) aD (by intro _ _; rfl)) (ai (bP (kX K (by rfl)) (pv 1) aD (by intro _ _; rfl)) ay)))))))),?_⟩
  have big:=iR
  have lps:=bJ ps
  refine tJ ?_
  refine tK (K:=K) (a:=sl) (xs:=svs) rfl (SqL.of hsl) (fun i ys G=>ys.length=i/\bF H G/\∀ j y e,ys[j]?=some y->es[j]?=some e->jB G y (atP e j)) ⟨rfl,bF.refl _,fun j y e h=>by simp at h⟩ ?_ ?_ ?_
  · rintro i ys G hi ⟨h1,h2,_⟩
    exact ⟨SqL.of (h2 _ _ hsl),by omega⟩
  · rintro i x t ys G hi ⟨h1,h2,h3⟩ ht
    obtain ⟨e,he,ts,rfl,hts⟩:=jO ps hi
    have st_:=aH ht (.tup [.int i,.ref ts])
    have hq:=st_ _ _ (h2 _ _ hts)
    refine ⟨t,_,rfl,SqT.of ah,rfl,_,_,rfl,_,_,rfl,rfl,?_⟩
    refine ⟨rfl,?_⟩
    unfold um
    refine gJ ?_
    refine ⟨_,rfl,ts,_,_,_,rfl,rfl,SqT.of hq,rfl,_,rfl,ts,_,_,_,rfl,rfl,SqT.of hq,rfl,_,rfl,_,rfl,(by show 4<=az; decide),fun kt hkt=>?_⟩
    have sk:=aH hkt (.tup [.int e.t,.int e.r,.int (-1),.int i])
    have hq2:=sk _ _ hq
    refine ⟨_,rfl,ts,_,_,_,rfl,rfl,SqT.of hq2,rfl,_,rfl,ts,_,_,_,rfl,rfl,SqT.of hq2,rfl,_,rfl,ts,_,_,_,rfl,rfl,SqT.of hq2,rfl,_,rfl,ts,_,_,_,rfl,rfl,SqT.of hq2,rfl,(by show 5<=az; decide),fun et het=>?_⟩
    have se:=aH het (.tup [.ref kt,.int e.to,.str e.sg,.int e.a,.int e.b])
    have sA:=(st_.trans sk).trans se
    refine ⟨by rw [aB,h1]; rfl,h2.trans sA,fun j y e' hy he'=>?_⟩
    rcases nZ j ys.length with lt | ge
    · rw [iu lt] at hy
      exact (h3 j y e' hy he').same sA
    · rw [dD ge] at hy
      have ej:j=i:=by
        by_cases c:j - ys.length=0
        · omega
        · rw [List.getElem?_cons,if_neg c] at hy
          simp at hy
      subst ej
      rw [h1,zC] at hy
      cases hy
      rw [he] at he'
      cases he'
      exact ⟨et,kt,rfl,ah,se _ _ ah⟩
  · rintro ys G ⟨h1,h2,h3⟩ l hl
    have sl':=aH hl (.lst ys)
    exact k _ l ys (h2.trans sl') (none_of h2 hl) ah (by omega) fun i y e hy he=>(h3 i y e hy he).same sl'
def EC (r e s:V):List (Str×V):=cM "states" s (cM "ending" e (cM "records" r []))
structure BkT (K:af) (mg:Str->Option ae) (CB:aa):Prop where
  cl:Cls K CB
  nR:dG K CB "records"
  nE:dG K CB "ending"
  nS:dG K CB "states"
  m:mg "Book"=some (.ref CB)
def spBk (CB:aa):Sp:=fun vs H Q _=>∃ (b dx:aa) (r e s:V),vs=[.ref b,r,e,s]/\H b=some (.ins CB dx [])/\∀ G,G b=some (.ins CB dx (EC r e s))->But b H G->Q .non G
theorem scBk:bD ["self","records","ending","states"] ["self","records","ending","states"] (aP oj):=⟨rfl,rfl,rfl,by decide +kernel,rfl,by decide +kernel,by decide +kernel⟩
theorem IC (F:Fun K "__init__" "Book.__init__" oj f fd) (T:BkT K mg CB):bg P w K mg base CX0 1 f fd ["self","records","ending","states"] (spBk CB):=by
  refine F.ok scBk (fun vs H Q E h=>?_) (fun cdv A outer s H vs Q E hr h=>?_)
  · obtain ⟨b,dx,r,e,s',rfl,_⟩:=h
    rfl
  obtain ⟨b,dx,r,e,s',rfl,hb,k⟩:=h
  refine ⟨_,ax (fk (pv 0) (pv 1) rfl) (ax (fk (pv 0) (pv 2) rfl) (aF (fk (pv 0) (pv 3) rfl))),?_⟩
  have l1:=iB "records" r []
  have l2:=iB "ending" e (cM "records" r [])
  simp only [cy] at l1
  refine ⟨_,rfl,_,rfl,b,CB,dx,[],rfl,hb,T.cl,T.nR,(by show 0 < 1000; decide),_,rfl,_,rfl,b,CB,dx,_,rfl,ah,T.cl,T.nE,(by omega),_,rfl,_,rfl,b,CB,dx,_,rfl,ah,T.cl,T.nS,(by omega),?_⟩
  exact k _ ah (((But.upd b H _).trans (But.upd b _ _)).trans (But.upd b _ _))
theorem bk_r (r e s:V):(EC r e s).lookup ("records":Str)=some r:=rfl
theorem bk_e (r e s:V):(EC r e s).lookup ("ending":Str)=some e:=rfl
theorem bk_s (r e s:V):(EC r e s).lookup ("states":Str)=some s:=rfl
def oy (wd:Str):Sp:=fun vs H Q _=>∃ a,vs=[a]/\Q (.str wd) H
theorem BO:bD ["self"] ["self"] (aP lC):=⟨rfl,rfl,rfl,by decide +kernel,rfl,by decide +kernel,by decide +kernel⟩
theorem tL (F:Fun K "word" "Nought.word" lC f fd):n9 P w K mg base CX0 1 f fd ["self"] (oy "nought"):=by
  refine F.okH BO (fun vs H Q E h=>?_) (fun cdv A outer s H vs Q E h=>?_)
  · obtain ⟨a,rfl,_⟩:=h
    rfl
  obtain ⟨a,rfl,q⟩:=h
  exact ⟨_,aF (bV bC),q⟩
end
end My
namespace My
open PySem L2
mutual
def Dd.toOk (m:Int):Dd->Prop
  | .send to _ _ _ _ _=>0<=to/\to < m
  | .pull _ _ o=>o.toOk m
  | .ife _ t e=>t.toOk m/\e.toOk m
  | _=>True
def Ds.toOk (m:Int):Ds->Prop
  | .nil=>True
  | .cons d r=>d.toOk m/\r.toOk m
end
def ddz:Nat->Nat
  | 0=>1
  | n + 1=>1 + 6 * ddz n
structure MD where
  nm:Str
  bs:List Str
  qs:List Str
  ds:List Int
  hs:List (Str×Ds)
  ps:List (Str×Int)
def Hq (H:Hp) (v:V) (M:MD):Prop:=∃ (t bl ql:aa) (n0 x3 x4:V) (vb:List V),v=.ref t/\H t=some (.tup [n0,.ref bl,.ref ql,x3,x4])/\H bl=some (.lst vb)/\mV H M.ps vb/\H ql=some (.lst (M.qs.map V.str))
structure MoI (m:Int) (H:Hp) (v:V) (M:MD):Prop where
  ma:rg M.bs M.qs M.ds M.hs H v
  fs:Hq H v M
  kb:M.ps.map (·.1)=M.bs
  nb:M.bs.Nodup
  nq:M.qs.Nodup
  lb:M.bs.length<=9
  lq:M.qs.length<=9
  ld:M.ds.length<=100
  lh:M.hs.length<=9
  wb:∀ q∈M.ps,-4<=q.2/\q.2<=4
  hk:∀ q∈M.hs,q.2.toOk m/\q.2.deep<=4/\q.2.size<=3 * ddz 4
theorem Hq.same {H H':Hp} (s:bF H H') {v:V} {M:MD} (h:Hq H v M):Hq H' v M:=by
  obtain ⟨t,bl,ql,n0,x3,x4,vb,e,h1,h2,h3,h4⟩:=h
  exact ⟨t,bl,ql,n0,x3,x4,vb,e,s _ _ h1,s _ _ h2,h3.same s,s _ _ h4⟩
theorem MoI.same {m:Int} {H H':Hp} (s:bF H H') {v:V} {M:MD} (h:MoI m H v M):MoI m H' v M:=
  ⟨h.ma.same s,h.fs.same s,h.kb,h.nb,h.nq,h.lb,h.lq,h.ld,h.lh,h.wb,h.hk⟩
def BP (m:Int) (H:Hp) (ml:aa) (Ms:List MD):Prop:=∃ xs,H ml=some (.lst xs)/\aW (MoI m H) xs Ms
theorem BP.same {m:Int} {H H':Hp} (s:bF H H') {ml:aa} {Ms:List MD} (h:BP m H ml Ms):BP m H' ml Ms:=by
  obtain ⟨xs,h1,h2⟩:=h
  exact ⟨xs,s _ _ h1,Paired.mono (fun _ _ z=>z.same s) h2⟩
end My
namespace My
open PySem L2
structure Sta where
  bx:List (Str×Int)
  qu:List (Str×List Int)
  dr:Nat
  se:Int
def Sta.w (s:Sta):Wk:=w0 s.bx s.qu s.dr s.se
structure Rec where
  h:Ev
  wb:List (Str×Int)
  wq:List (Str×List Int)
  out:List Ev
inductive Stp where
  | fin (h:Ev)
  | flt (e:Flt) (h:Ev)
inductive End where
  | empty
  | cut
  | stp (s:Stp)
structure RS where
  sts:List Sta
  pd:List Ev
  re:Option Ev
  sp:Option Stp
def Ev.key (e:Ev):List Int:=[e.t,e.r,e.fr,e.c]
def yf (x:Ev):List Ev->List Ev
  | []=>[x]
  | y :: ys=>if HT.lexLt x.key y.key=true then y :: yf x ys else x :: y :: ys
def pk (xs pd:List Ev):List Ev:=xs.foldl (fun p e=>yf e p) pd
abbrev lW (es:List Ev):Prop:=es.Pairwise (fun a b=>HT.lexLt b.key a.key=true)
def kD (r:RS) (left:Int):Option End:=match r.sp with
  | some s=>some (.stp s)
  | none=>if r.pd.isEmpty=true then some .empty else if left<=0 then some .cut else none
def ff (Ms:List MD) (r:RS):RS×List Rec:=match r.pd.getLast? with
  | none=>(r,[])
  | some h=>match Ms[h.to.toNat]?,r.sts[h.to.toNat]? with
    | some M,some s=>(match doS h M.ds (ib M.hs h.sg) s.w with
      | .error e=>({r with pd:=r.pd.dropLast,sp:=some (.flt e h)},[])
      | .ok w=>(⟨r.sts.set h.to.toNat ⟨w.bx,w.qu,w.dr,w.se⟩,pk w.out r.pd.dropLast,some h,if w.en=true then some (.fin h) else none⟩,[⟨h,wrB M.bs w,wrQ M.qs w,w.out⟩]))
    | _,_=>(r,[])
def itR (Ms:List MD) (r:RS):Nat->RS×List Rec
  | 0=>(r,[])
  | n + 1=>((ff Ms (itR Ms r n).1).1,(itR Ms r n).2++(ff Ms (itR Ms r n).1).2)
theorem oQ (x:Ev):∀ ys:List Ev,(yf x ys).Perm (x :: ys)
  | []=>dO _
  | y :: ys=>by
    unfold yf
    split
    · exact ((oQ x ys).cons y).trans (List.Perm.swap x y ys)
    · exact dO _
theorem gr:∀ (xs pd:List Ev),(pk xs pd).Perm (xs++pd)
  | [],pd=>dO _
  | x :: xs,pd=>by
    show (pk xs (yf x pd)).Perm _
    refine (gr xs (yf x pd)).trans ?_
    refine ((dO xs).append (oQ x pd)).trans ?_
    exact FB
theorem vo {x:Ev}:∀ {ys:List Ev},lW ys->(∀ y∈ys,x.key≠y.key)->lW (yf x ys)
  | [],_,_=>yg _ _
  | y :: ys,h,n=>by
    obtain ⟨h1,h2⟩:=iK.mp h
    unfold yf
    by_cases c:HT.lexLt x.key y.key=true
    · rw [if_pos c]
      refine iK.mpr ⟨fun z hz=>?_,vo h2 fun z hz=>n z (aj _ hz)⟩
      rcases ak.mp ((oQ x ys).mem_iff.mp hz) with e | e
      · rw [e]
        exact c
      · exact h1 z e
    · rw [if_neg c]
      have lt:HT.lexLt y.key x.key=true:=HT.lx_of_not (by
        cases e:HT.lexLt x.key y.key with
        | false=>rfl
        | true=>exact absurd e c) (n y aJ)
      refine iK.mpr ⟨fun z hz=>?_,h⟩
      rcases ak.mp hz with e | e
      · rw [e]
        exact lt
      · exact HT.lx_trans (h1 z e) lt
structure ID (m:Int) (h:Ev) (se se':Int) (e:Ev):Prop where
  fr:e.fr=h.to
  c0:se<=e.c
  c1:e.c < se'
  t0:h.t < e.t
  t1:e.t<=10 ^ 12
  to0:0<=e.to
  to1:e.to < m
structure News (m:Int) (h:Ev) (n:Nat) (w w':Wk):Prop where
  se:w.se<=w'.se
  ex:∃ new,w'.out=w.out++new/\new.length<=n/\(∀ e∈new,ID m h w.se w'.se e)/\new.Pairwise (fun a b=>a.c < b.c)
theorem News.none {m:Int} {h:Ev} {n:Nat} {w w':Wk} (e1:w'.se=w.se) (e2:w'.out=w.out):News m h n w w':=
  ⟨by rw [e1]; exact Int.le_refl _,[],by rw [e2,cW],bA _,(fun e he=>by cases he),List.Pairwise.nil⟩
theorem News.trans {m:Int} {h:Ev} {n1 n2:Nat} {w w1 w2:Wk} (a:News m h n1 w w1) (b:News m h n2 w1 w2):News m h (n1 + n2) w w2:=by
  obtain ⟨s1,x1,e1,l1,o1,p1⟩:=a
  obtain ⟨s2,x2,e2,l2,o2,p2⟩:=b
  refine ⟨Int.le_trans s1 s2,x1++x2,by rw [e2,e1,dQ],by rw [aB]; omega,fun e he=>?_,gy.mpr ⟨p1,p2,fun a ha b hb=>?_⟩⟩
  · rcases aU.mp he with z | z
    · obtain ⟨f,c0,c1,t0,t1,q0,q1⟩:=o1 e z
      exact ⟨f,c0,by omega,t0,t1,q0,q1⟩
    · obtain ⟨f,c0,c1,t0,t1,q0,q1⟩:=o2 e z
      exact ⟨f,by omega,c1,t0,t1,q0,q1⟩
  · have:=(o1 a ha).c1
    have:=(o2 b hb).c0
    omega
theorem News.le {m:Int} {h:Ev} {n1 n2:Nat} {w w1:Wk} (a:News m h n1 w w1) (l:n1<=n2):News m h n2 w w1:=by
  obtain ⟨s1,x1,e1,l1,o1,p1⟩:=a
  exact ⟨s1,x1,e1,by omega,o1,p1⟩
theorem News.from {m:Int} {h:Ev} {n:Nat} {w0 w w':Wk} (a:News m h n w w') (e1:w.se=w0.se) (e2:w.out=w0.out):News m h n w0 w':=by
  obtain ⟨s1,x1,f1,l1,o1,p1⟩:=a
  rw [e1] at s1 o1
  exact ⟨s1,x1,by rw [f1,e2],l1,o1,p1⟩
theorem pM {h:Ev} {w w':Wk} {f:Fm} {k:Wk->Int->Except Flt Wk} (e:rck h w f k=.ok w'):∃ n,k {w with rk:=w.rk++[f]} n=.ok w':=by
  unfold rck at e
  split at e
  · exact ⟨_,e⟩
  · cases e
  · cases e
mutual
theorem ED {m:Int} {h:Ev} {ds:List Int}:∀ (D:Dd) (w w':Wk),D.toOk m->doD h ds D w=.ok w'->News m h D.size w w'
  | .put x f,w,w',_,e=>by
    simp only [doD] at e
    obtain ⟨n,e⟩:=pM e
    cases e
    exact News.none rfl rfl
  | .push q f,w,w',_,e=>by
    simp only [doD] at e
    obtain ⟨n,e⟩:=pM e
    try dsimp only at e
    split at e
    · cases e
    · cases e
      exact News.none rfl rfl
  | .pull q x o,w,w',to,e=>by
    simp only [doD] at e
    simp only [Dd.toOk] at to
    split at e
    · exact ((j6 o _ _ to e).le (lY _)).from rfl rfl
    · cases e
      exact News.none rfl rfl
  | .draw x f,w,w',_,e=>by
    simp only [doD] at e
    obtain ⟨n,e⟩:=pM e
    try dsimp only at e
    split at e
    · cases e
    · split at e
      · cases e
      · cases e
        exact News.none rfl rfl
  | .send to sg sp rk a b,w,w',to',e=>by
    simp only [doD] at e
    simp only [Dd.toOk] at to'
    obtain ⟨n,e⟩:=pM e
    try dsimp only at e
    split at e
    · cases e
    · rename_i c
      obtain ⟨x,e⟩:=pM e
      obtain ⟨y,e⟩:=pM e
      try dsimp only at e
      split at e
      · cases e
      · rename_i c2
        cases e
        refine ⟨?_,[_],rfl,aE _,fun q hq=>?_,yg _ _⟩
        · show w.se<=w.se + 1
          omega
        · rw [au.mp hq]
          exact ⟨rfl,Int.le_refl _,(by show w.se < w.se + 1; omega),(by show h.t < h.t + n; omega),(by show h.t + n<=10 ^ 12; omega),to'.1,to'.2⟩
  | .ife f t e',w,w',to,e=>by
    simp only [doD] at e
    simp only [Dd.toOk] at to
    obtain ⟨n,e⟩:=pM e
    try dsimp only at e
    simp only [Dd.size]
    split at e
    · exact ((j6 e' _ _ to.2 e).le (by omega)).from rfl rfl
    · exact ((j6 t _ _ to.1 e).le (by omega)).from rfl rfl
  | .fin,w,w',_,e=>by
    simp only [doD] at e
    cases e
    exact News.none rfl rfl
theorem j6 {m:Int} {h:Ev} {ds:List Int}:∀ (D:Ds) (w w':Wk),D.toOk m->doS h ds D w=.ok w'->News m h D.size w w'
  | .nil,w,w',_,e=>by
    simp only [doS] at e
    cases e
    exact News.none rfl rfl
  | .cons d r,w,w',to,e=>by
    simp only [doS] at e
    simp only [Ds.toOk] at to
    simp only [Ds.size]
    split at e
    · rename_i w1 e1
      exact (ED d _ _ to.1 e1).trans (j6 r _ _ to.2 e)
    · cases e
end
structure Hr (m:Nat) (e:Ev):Prop where
  to0:0<=e.to
  to1:e.to < m
  wt:Wo e.t
  wa:Wo e.a
  wb:Wo e.b
structure ROk (m:Nat) (r:RS):Prop where
  len:r.sts.length=m
  fall:lW r.pd
  ev:∀ e∈r.pd,Hr m e
  cn:∀ e∈r.pd,e.fr=-1\/∃ (i:Nat) (s:Sta),e.fr=(i:Int)/\r.sts[i]?=some s/\e.c < s.se
theorem jQ {pd:List Ev} {h:Ev} (f:lW (pd++[h])):lW pd/\∀ e∈pd,HT.lexLt h.key e.key=true:=by
  obtain ⟨f1,_,f3⟩:=gy.mp f
  exact ⟨f1,fun e he=>f3 e he h (au.mpr rfl)⟩
theorem tM {pd:List Ev} {h:Ev} (e:pd.getLast?=some h):pd=pd.dropLast++[h]:=by
  obtain ⟨ys,rfl⟩:=List.getLast?_eq_some_iff.mp e
  rw [List.dropLast_concat]
theorem tN {a b:Ev} (h:a.fr≠b.fr\/a.c≠b.c):a.key≠b.key:=fun z=>by
  unfold Ev.key at z
  simp only [List.cons.injEq] at z
  rcases h with h | h
  · exact h z.2.2.1
  · exact h z.2.2.2.1
theorem rh:∀ {xs pd:List Ev},lW pd->(∀ x∈xs,∀ y∈pd,x.key≠y.key)->xs.Pairwise (fun a b=>a.key≠b.key)->lW (pk xs pd)
  | [],_,h,_,_=>h
  | x :: xs,pd,h,n,p=>by
    obtain ⟨p1,p2⟩:=iK.mp p
    refine rh (xs:=xs) (vo h fun y hy=>n x aJ y hy) (fun z hz y hy=>?_) p2
    rcases ak.mp ((oQ x pd).mem_iff.mp hy) with e | e
    · rw [e]
      exact fun q=>p1 z hz q.symm
    · exact n z (aj _ hz) y e
structure Did (Ms:List MD) (r:RS) (h:Ev) (M:MD) (s:Sta):Prop where
  pd:r.pd=r.pd.dropLast++[h]
  hM:Ms[h.to.toNat]?=some M
  hs:r.sts[h.to.toNat]?=some s
theorem oz {Ms:List MD} {r:RS} {h:Ev} {M:MD} {s:Sta} (d:Did Ms r h M s) {e:Flt} (q:doS h M.ds (ib M.hs h.sg) s.w=.error e):ff Ms r=({r with pd:=r.pd.dropLast,sp:=some (.flt e h)},[]):=by
  have l:r.pd.getLast?=some h:=by
    rw [d.pd,AL]
  unfold ff
  rw [l]
  dsimp only
  rw [d.hM,d.hs]
  dsimp only
  rw [q]
theorem mJ {Ms:List MD} {r:RS} {h:Ev} {M:MD} {s:Sta} (d:Did Ms r h M s) {w:Wk} (q:doS h M.ds (ib M.hs h.sg) s.w=.ok w):ff Ms r=(⟨r.sts.set h.to.toNat ⟨w.bx,w.qu,w.dr,w.se⟩,pk w.out r.pd.dropLast,some h,if w.en=true then some (.fin h) else none⟩,[⟨h,wrB M.bs w,wrQ M.qs w,w.out⟩]):=by
  have l:r.pd.getLast?=some h:=by
    rw [d.pd,AL]
  unfold ff
  rw [l]
  dsimp only
  rw [d.hM,d.hs]
  dsimp only
  rw [q]
theorem yh {m:Nat} {Ms:List MD} {r:RS} {h:Ev} {M:MD} {s:Sta} (k:ROk m r) (d:Did Ms r h M s) {n:Nat} {w:Wk} (N:News m h n s.w w):(∀ x∈w.out,∀ y∈r.pd.dropLast,x.key≠y.key)/\w.out.Pairwise (fun a b=>a.key≠b.key)/\(∀ x∈w.out,ID m h s.se w.se x):=by
  obtain ⟨s1,new,e,ln,ho,hp⟩:=N
  have e:w.out=new:=e
  rw [e]
  have hin:h∈r.pd:=by
    rw [d.pd]
    exact aV _ (au.mpr rfl)
  have h0:=(k.ev h hin).to0
  refine ⟨fun x hx y hy=>?_,hp.imp fun z=>tN (.inr (by omega)),ho⟩
  have o:=ho x hx
  have yin:y∈r.pd:=ij _ hy
  rcases k.cn y yin with z | ⟨i,s',z1,z2,z3⟩
  · refine tN (.inl ?_)
    rw [o.fr,z]
    omega
  · by_cases c:y.fr=h.to
    · refine tN (.inr ?_)
      have ei:h.to.toNat=i:=by omega
      have:=d.hs
      rw [ei,z2] at this
      cases this
      have c0:s.se<=x.c:=o.c0
      omega
    · refine tN (.inl ?_)
      rw [o.fr]
      exact fun q=>c q.symm
theorem qt {m:Nat} {Ms:List MD} {r:RS} {h:Ev} {M:MD} {s:Sta} (k:ROk m r) (d:Did Ms r h M s) {n:Nat} {w:Wk} (q:doS h M.ds (ib M.hs h.sg) s.w=.ok w) (N:News m h n s.w w) (wo:∀ e∈w.out,Wo e.a/\Wo e.b):ROk m (ff Ms r).1:=by
  rw [mJ d q]
  obtain ⟨n1,n2,n3⟩:=yh k d N
  have f:=k.fall
  rw [d.pd] at f
  obtain ⟨f1,f2⟩:=jQ f
  refine ⟨by rw [FY]; exact k.len,rh f1 n1 n2,fun e he=>?_,fun e he=>?_⟩
  · rcases aU.mp ((gr _ _).mem_iff.mp he) with z | z
    · obtain ⟨a,b,c,d',e',f',g'⟩:=n3 e z
      have hin:h∈r.pd:=by
        rw [d.pd]
        exact aV _ (au.mpr rfl)
      have ht:=(k.ev h hin).wt
      have w1:(10:Int) ^ 15=1000000000000000:=by decide
      have w2:(10:Int) ^ 12=1000000000000:=by decide
      refine ⟨f',g',?_,(wo e z).1,(wo e z).2⟩
      unfold Wo at ht |-
      omega
    · exact k.ev e (ij _ z)
  · have lt:h.to.toNat < r.sts.length:=(aw.mp d.hs).1
    have hin:h∈r.pd:=by
      rw [d.pd]
      exact aV _ (au.mpr rfl)
    have h0:=(k.ev h hin).to0
    rcases aU.mp ((gr _ _).mem_iff.mp he) with z | z
    · obtain ⟨a,b,c,_⟩:=n3 e z
      refine .inr ⟨h.to.toNat,_,by omega,eQ lt,c⟩
    · rcases k.cn e (ij _ z) with y | ⟨i,s',z1,z2,z3⟩
      · exact .inl y
      · by_cases c:h.to.toNat=i
        · subst c
          have es:s=s':=b5 (d.hs.symm.trans z2)
          rw [<- es] at z3
          refine .inr ⟨_,_,z1,eQ lt,?_⟩
          have s1:s.se<=w.se:=N.se
          show e.c < w.se
          omega
        · exact .inr ⟨i,s',z1,by rw [ie c]; exact z2,z3⟩
theorem vp {m:Nat} {Ms:List MD} {r:RS} {h:Ev} {M:MD} {s:Sta} (k:ROk m r) (d:Did Ms r h M s) {e:Flt} (q:doS h M.ds (ib M.hs h.sg) s.w=.error e):ROk m (ff Ms r).1:=by
  rw [oz d q]
  have f:=k.fall
  rw [d.pd] at f
  exact ⟨k.len,(jQ f).1,fun e he=>k.ev e (ij _ he),fun e he=>k.cn e (ij _ he)⟩
end My
namespace My
open PySem L2
def Hid (ex:List aa) (G:Hp):Hp:=fun a=>if a∈ex then none else G a
section
variable {ex:List aa} {G G':Hp} {a:aa} {o:HO}
theorem tO (e:Hid ex G a=some o):a∉ex:=fun m=>by
  unfold Hid at e
  rw [if_pos m] at e
  cases e
theorem ip (n:a∉ex):Hid ex G a=G a:=if_neg n
theorem oA:bF (Hid ex G) G:=fun b o e=>by
  rw [ip (tO e)] at e
  exact e
theorem AM (m:a∈ex):Hid ex (upd G a o)=Hid ex G:=by
  funext b
  unfold Hid
  by_cases c:b∈ex
  · rw [if_pos c,if_pos c]
  · rw [if_neg c,if_neg c,aG fun z=>c (by rw [z]; exact m)]
theorem qv (s:bF G G'):bF (Hid ex G) (Hid ex G'):=fun b o e=>by
  rw [ip (tO e)]
  exact s _ _ (oA _ _ e)
theorem EE (s:∀ b o,G b=some o->b∉ex->G' b=some o):bF (Hid ex G) (Hid ex G'):=fun b o e=>by
  rw [ip (tO e)]
  exact s _ _ (oA _ _ e) (tO e)
theorem ic {xs:List V} (nt:∀ a∈ex,∃ o,G a=some o/\∀ xs,o≠.tup xs) (h:G a=some (.tup xs)):Hid ex G a=some (.tup xs):=by
  rw [ip fun m=>by
    obtain ⟨o,e,n⟩:=nt a m
    rw [e] at h
    cases h
    exact n _ rfl]
  exact h
end
abbrev zD (h:Ev):HO:=.tup [.int h.t,.int h.r,.int h.fr,.int h.c]
def RcIn (F:Hp) (v:V) (q:Rec):Prop:=∃ (rc k wl od:aa) (ws1 ws2 vs:List V) (qa:List (Str×aa)),v=.ref rc/\F rc=some (.tup [.ref k,.int q.h.to,.str q.h.sg,.int q.h.a,.int q.h.b,.ref wl,.ref od])/\F k=some (zD q.h) /\
  F wl=some (.lst (ws1++ws2))/\aW (zB F) ws1 q.wb/\aW (BL F) ws2 qa/\gb F qa q.wq/\F od=some (.lst vs)/\aW (jB F) vs q.out
theorem RcIn.same {F F':Hp} (s:bF F F') {v:V} {q:Rec} (h:RcIn F v q):RcIn F' v q:=by
  obtain ⟨rc,k,wl,od,ws1,ws2,vs,qa,e,h1,h2,h3,h4,h5,h6,h7,h8⟩:=h
  exact ⟨rc,k,wl,od,ws1,ws2,vs,qa,e,s _ _ h1,s _ _ h2,s _ _ h3,Paired.mono (fun _ _ z=>z.keep fun a xs e=>s _ _ e) h4,Paired.mono (fun _ _ z=>z.keep fun a xs e=>s _ _ e) h5,h6.same s,s _ _ h7,Paired.mono (fun _ _ z=>z.same s) h8⟩
def AN:Flt->Str
  | .nought=>"nought"
  | .great=>"great"
  | .full=>"full"
  | .dry=>"dry"
  | .span=>"span"
  | .late=>"late"
def rD (F:Hp) (v:V):Stp->Prop
  | .fin h=>∃ t k,v=.ref t/\F t=some (.tup [.str "end",.ref k])/\F k=some (zD h)
  | .flt e h=>∃ t k,v=.ref t/\F t=some (.tup [.str "fault",.str (AN e),.ref k])/\F k=some (zD h)
def SpIn (F:Hp) (v:V):Option Stp->Prop
  | none=>v=.non
  | some s=>rD F v s
def pN (F:Hp) (v:V):End->Prop
  | .empty=>∃ t,v=.ref t/\F t=some (.tup [.str "empty"])
  | .cut=>∃ t,v=.ref t/\F t=some (.tup [.str "cut"])
  | .stp s=>rD F v s
theorem rD.same {F F':Hp} (s:bF F F') {v:V}:∀ {q:Stp},rD F v q->rD F' v q
  | .fin _,⟨t,k,e,h1,h2⟩=>⟨t,k,e,s _ _ h1,s _ _ h2⟩
  | .flt _ _,⟨t,k,e,h1,h2⟩=>⟨t,k,e,s _ _ h1,s _ _ h2⟩
theorem pN.same {F F':Hp} (s:bF F F') {v:V}:∀ {q:End},pN F v q->pN F' v q
  | .empty,⟨t,e,h⟩=>⟨t,e,s _ _ h⟩
  | .cut,⟨t,e,h⟩=>⟨t,e,s _ _ h⟩
  | .stp _,h=>rD.same s h
def yi (CM:aa) (Ms:List MD) (H:Hp) (m:aa):Prop:=∃ (dx ml:aa) (fs:List (Str×V)),H m=some (.ins CM dx fs)/\fs.lookup ("machines":Str)=some (.ref ml)/\BP (Ms.length:Int) H ml Ms
theorem yi.same {CM:aa} {Ms:List MD} {H H':Hp} (s:bF H H') {m:aa} (h:yi CM Ms H m):yi CM Ms H' m:=by
  obtain ⟨dx,ml,fs,h1,h2,h3⟩:=h
  exact ⟨dx,ml,fs,s _ _ h1,h2,h3.same s⟩
abbrev StA (CS:aa) (F:Hp):aa->Sta->Prop:=fun a s=>kC CS F a s.bx s.qu s.dr s.se
theorem kC.same' {CS:aa} {H H':Hp} (s:bF H H') {st:aa} {bx:List (Str×Int)} {qu:List (Str×List Int)} {dr:Nat} {se:Int} (h:kC CS H st bx qu dr se):kC CS H' st bx qu dr se:=by
  obtain ⟨dx,bd,qd,qa,h1,h2,h3,h4⟩:=h
  exact ⟨dx,bd,qd,qa,s _ _ h1,s _ _ h2,s _ _ h3,h4.same s⟩
theorem jR {α β:Type} {R:α->β->Prop}:∀ {xs:List α} {ys:List β} {i:Nat} {y:β},aW R xs ys->ys[i]?=some y->∃ x,xs[i]?=some x/\R x y
  | _,_,i,y,.nil,h=>by simp at h
  | _,_,0,y,.cons a b,h=>by
    simp at h
    subst h
    exact ⟨_,rfl,a⟩
  | _,_,i + 1,y,.cons a b,h=>by
    obtain ⟨x,h1,h2⟩:=jR (i:=i) (y:=y) b (by simpa using h)
    exact ⟨x,by simpa using h1,h2⟩
theorem Paired.set {α β:Type} {R:α->β->Prop}:∀ {xs:List α} {ys:List β},aW R xs ys->∀ (i:Nat) {x:α} {y:β},R x y->aW R (xs.set i x) (ys.set i y)
  | _,_,.nil,i,x,y,h=>.nil
  | _,_,.cons a b,0,x,y,h=>.cons h b
  | _,_,.cons a b,i + 1,x,y,h=>.cons a (Paired.set b i h)
end My
namespace My
open PySem L2
section
variable {P:aO} {w:bj} {K:af} {mg:Str->Option ae} {base:cb} {f:aa} {fd:bG}
theorem EF:bD ["self"] ["self"] (aP mx):=⟨rfl,rfl,rfl,by decide +kernel,rfl,by decide +kernel,by decide +kernel⟩
theorem vt (F:Fun K "word" "Great.word" mx f fd):n9 P w K mg base CX0 1 f fd ["self"] (oy "great"):=by
  refine F.okH EF (fun vs H Q E h=>?_) (fun cdv A outer s H vs Q E h=>?_)
  · obtain ⟨a,rfl,_⟩:=h
    rfl
  obtain ⟨a,rfl,q⟩:=h
  exact ⟨_,aF (bV bC),q⟩
theorem Hs:bD ["self"] ["self"] (aP oa):=⟨rfl,rfl,rfl,by decide +kernel,rfl,by decide +kernel,by decide +kernel⟩
theorem yj (F:Fun K "word" "Full.word" oa f fd):n9 P w K mg base CX0 1 f fd ["self"] (oy "full"):=by
  refine F.okH Hs (fun vs H Q E h=>?_) (fun cdv A outer s H vs Q E h=>?_)
  · obtain ⟨a,rfl,_⟩:=h
    rfl
  obtain ⟨a,rfl,q⟩:=h
  exact ⟨_,aF (bV bC),q⟩
theorem JX:bD ["self"] ["self"] (aP pK):=⟨rfl,rfl,rfl,by decide +kernel,rfl,by decide +kernel,by decide +kernel⟩
theorem AO (F:Fun K "word" "Dry.word" pK f fd):n9 P w K mg base CX0 1 f fd ["self"] (oy "dry"):=by
  refine F.okH JX (fun vs H Q E h=>?_) (fun cdv A outer s H vs Q E h=>?_)
  · obtain ⟨a,rfl,_⟩:=h
    rfl
  obtain ⟨a,rfl,q⟩:=h
  exact ⟨_,aF (bV bC),q⟩
theorem Ht:bD ["self"] ["self"] (aP og):=⟨rfl,rfl,rfl,by decide +kernel,rfl,by decide +kernel,by decide +kernel⟩
theorem yk (F:Fun K "word" "Span.word" og f fd):n9 P w K mg base CX0 1 f fd ["self"] (oy "span"):=by
  refine F.okH Ht (fun vs H Q E h=>?_) (fun cdv A outer s H vs Q E h=>?_)
  · obtain ⟨a,rfl,_⟩:=h
    rfl
  obtain ⟨a,rfl,q⟩:=h
  exact ⟨_,aF (bV bC),q⟩
theorem Hu:bD ["self"] ["self"] (aP oh):=⟨rfl,rfl,rfl,by decide +kernel,rfl,by decide +kernel,by decide +kernel⟩
theorem yl (F:Fun K "word" "Late.word" oh f fd):n9 P w K mg base CX0 1 f fd ["self"] (oy "late"):=by
  refine F.okH Hu (fun vs H Q E h=>?_) (fun cdv A outer s H vs Q E h=>?_)
  · obtain ⟨a,rfl,_⟩:=h
    rfl
  obtain ⟨a,rfl,q⟩:=h
  exact ⟨_,aF (bV bC),q⟩
end
def vv {α:Type} (a b c d e f:α):Flt->α
  | .nought=>a
  | .great=>b
  | .full=>c
  | .dry=>d
  | .span=>e
  | .late=>f
end My
namespace My
open PySem L2
theorem gb.hid {ex:List aa} {G:Hp} {qa:List (Str×aa)} {qu:List (Str×List Int)} (n:∀ a∈qa.map (·.2),a∉ex) (q:gb G qa qu):gb (Hid ex G) qa qu:=
  gb.keep (L:=⟨0,0,0,0,0,0,0,0,0,0,.non,.non,qa⟩) (fun a u e m=>by rw [ip (n a m)]; exact e) (fun _ h=>h) q
theorem jB.hid {ex:List aa} {G:Hp} (nt:∀ a∈ex,∃ o,G a=some o/\∀ xs,o≠.tup xs) {v:V} {e:Ev} (h:jB G v e):jB (Hid ex G) v e:=by
  obtain ⟨t,k,e1,h1,h2⟩:=h
  exact ⟨t,k,e1,ic nt h1,ic nt h2⟩
theorem Dg.sta {CD CS:aa} {bs qs:List Str} {H0 G:Hp} {L:Lay} {h:Ev} {ds:List Int} {w:Wk} (g:Dg CD CS bs qs H0 G L h ds w) {ex:List aa} (n:∀ a∈L.all,a∉ex):kC CS (Hid ex G) L.st w.bx w.qu w.dr w.se:=
  ⟨L.dxs,L.bd,L.qd,L.qa,by rw [ip (n _ Iv)]; exact g.hst,by rw [ip (n _ Iw)]; exact g.hb,by rw [ip (n _ in_qd)]; exact g.hq,g.hl.hid fun a m=>n a (in_l m)⟩
theorem Ex.told {CD CS:aa} {bs qs:List Str} {H G:Hp} {L:Lay} {h:Ev} {ds:List Int} {w:Wk} {t rc wl:aa} {ws1 ws2:List V} {qa:List (Str×aa)} (d:Ex CD CS bs qs H G L h ds w t rc wl ws1 ws2 qa) {ex:List aa} (nt:∀ a∈ex,∃ o,H a=some o/\∀ xs,o≠.tup xs) :
    ∃ vs,G L.od=some (.lst vs)/\L.od∉ex/\aW (jB (Hid ex G)) vs w.out/\RcIn (Hid ex G) (.ref rc) ⟨h,wrB bs w,wrQ qs w,w.out⟩:=by
  have ntG:∀ a∈ex,∃ o,G a=some o/\∀ xs,o≠.tup xs:=fun a ha=>by
    obtain ⟨o,e,n⟩:=nt a ha
    exact ⟨o,d.sm _ _ e,n⟩
  have nx:∀ {a},H a=none->a∉ex:=fun {a} z m=>by
    obtain ⟨o,e,_⟩:=nt a m
    rw [z] at e
    cases e
  obtain ⟨H0,s0,g⟩:=d.dg
  obtain ⟨vs,o1,o2⟩:=g.ho
  obtain ⟨k,h1,h2⟩:=d.hrc
  have nod:L.od∉ex:=nx (none_of s0 (g.fr _ Iy))
  have pv':=Paired.mono (fun _ _ z=>jB.hid ntG z) o2
  refine ⟨vs,o1,nod,pv',rc,k,wl,L.od,ws1,ws2,vs,qa,rfl,ic ntG h1,ic ntG (d.sm _ _ h2),?_,Paired.mono (fun _ _ z=>z.keep fun a xs e=>ic ntG e) d.wr.b,Paired.mono (fun _ _ z=>z.keep fun a xs e=>ic ntG e) d.wr.q,d.wr.l.hid fun a m=>nx (d.wr.fr a (aj _ m)),?_,pv'⟩
  · rw [ip (nx (d.wr.fr _ aJ))]
    exact d.wr.hl
  · rw [ip nod]
    exact o1
theorem pf.clean {bs qs:List Str} {w:Wk} (k:pf bs qs w):pf bs qs (w0 w.bx w.qu w.dr w.se):=
  ⟨k.kb,k.kq,k.nb,k.nq,k.wb,k.wq,dj,(fun x hx=>by cases hx),dj,(fun x hx=>by cases hx),(fun x hx=>by cases hx),k.fw⟩
theorem AQ {P:Ds->Prop} {hs:List (Str×Ds)} (h:∀ q∈hs,P q.2) (n:P .nil) (sg:Str):P (ib hs sg):=by
  unfold ib
  cases e:hs.lookup sg with
  | none=>exact n
  | some d=>exact h _ (oq e)
theorem bg.some {ι:Type} {P:aO} {w:bj} {K:af} {mg:Str->Option ae} {base:cb} {CX:CXT} {k:Nat} {f:aa} {fd:bG} {ps:List Str} {sp:ι->Sp} (F:∀ i,bg P w K mg base CX k f fd ps (sp i)) :
    bg P w K mg base CX k f fd ps (fun vs H Q E=>∃ i,sp i vs H Q E):=
  ⟨fun vs H Q E ⟨i,q⟩=>(F i).len vs H Q E q,fun A outer s H args us vs Q E hr he hb hv ⟨i,hs⟩=>(F i).run A outer s H args us vs Q E hr he hb hv hs⟩
theorem EG {D:jS} {σ:St} {H:Hp} (h:D.nx σ H):Ct D σ H:=h
theorem JY {n j:Nat} (h:j < n):ixN n (j:Int)=some j:=by
  unfold ixN
  rw [if_pos (by omega),if_pos (by omega)]
  simp
end My
namespace My
open PySem L2
def MsOk (Ms:List MD):Prop:=∀ M∈Ms,∀ q∈M.hs,q.2.toOk (Ms.length:Int)/\q.2.deep<=4/\q.2.size<=3 * ddz 4
theorem yi.ok {CM:aa} {Ms:List MD} {H:Hp} {m:aa} (h:yi CM Ms H m):MsOk Ms:=by
  obtain ⟨dx,ml,fs,_,_,xs,_,p⟩:=h
  intro M hM
  obtain ⟨j,hj⟩:=bY hM
  obtain ⟨x,_,z⟩:=jR p hj
  exact z.hk
theorem EH {Ms:List MD} {r:RS} (k:ROk Ms.length r) (n:r.pd≠[]):∃ h M s,Did Ms r h M s:=by
  obtain ⟨h,hl⟩:∃ h,r.pd.getLast?=some h:=by
    cases e:r.pd.getLast? with
    | none=>exact absurd (wJ.mp e) n
    | some h=>exact ⟨h,rfl⟩
  have spl:=tM hl
  have hin:h∈r.pd:=by
    rw [spl]
    exact aV _ (au.mpr rfl)
  have eo:=k.ev h hin
  have jl:h.to.toNat < Ms.length:=by have:=eo.to1; have:=eo.to0; omega
  have js:h.to.toNat < r.sts.length:=by rw [k.len]; exact jl
  exact ⟨h,_,_,spl,aC jl,aC js⟩
inductive EI (Ms:List MD) (r:RS):Prop
  | err (h:Ev) (M:MD) (s:Sta) (e:Flt) (d:Did Ms r h M s) (q:doS h M.ds (ib M.hs h.sg) s.w=.error e) (eq:ff Ms r=({r with pd:=r.pd.dropLast,sp:=some (.flt e h)},[]))
  | ok (h:Ev) (M:MD) (s:Sta) (w:Wk) (d:Did Ms r h M s) (q:doS h M.ds (ib M.hs h.sg) s.w=.ok w) (N:News (Ms.length:Int) h (3 * ddz 4) s.w w)
      (eq:ff Ms r=(⟨r.sts.set h.to.toNat ⟨w.bx,w.qu,w.dr,w.se⟩,pk w.out r.pd.dropLast,some h,if w.en=true then some (.fin h) else none⟩,[⟨h,wrB M.bs w,wrQ M.qs w,w.out⟩]))
theorem Hv {Ms:List MD} {r:RS} (mo:MsOk Ms) (k:ROk Ms.length r) (n:r.pd≠[]):EI Ms r:=by
  obtain ⟨h,M,s,d⟩:=EH k n
  have dk:=AQ (P:=fun D=>D.toOk (Ms.length:Int)/\D.deep<=4/\D.size<=3 * ddz 4) (mo M (aM d.hM)) ⟨by simp only [Ds.toOk],by simp only [Ds.deep]; omega,by simp only [Ds.size]; omega⟩ h.sg
  cases q:doS h M.ds (ib M.hs h.sg) s.w with
  | error e=>exact .err h M s e d q (oz d q)
  | ok w=>exact .ok h M s w d q ((j6 _ _ _ dk.1 q).le dk.2.2) (mJ d q)
theorem ym {r:RS} {left:Int} (h:kD r left=none):r.sp=none/\r.pd≠[]/\0 < left:=by
  unfold kD at h
  split at h
  · cases h
  · rename_i e
    split at h
    · cases h
    · rename_i c
      split at h
      · cases h
      · refine ⟨e,fun z=>?_,by omega⟩
        rw [z] at c
        exact c rfl
theorem EJ {r:RS} {left:Int} {s:Stp} (h:r.sp=some s):kD r left=some (.stp s):=by
  unfold kD
  rw [h]
theorem EK {Ms:List MD} {r:RS} (h:EI Ms r):(ff Ms r).1.pd.length<=r.pd.length + 5000 * (ff Ms r).2.length/\((∃ q,(ff Ms r).2=[q])\/((ff Ms r).2=[]/\∃ s,(ff Ms r).1.sp=some s)):=by
  cases h with
  | err h M s e d q eq =>
    rw [eq]
    refine ⟨?_,.inr ⟨rfl,_,rfl⟩⟩
    show r.pd.dropLast.length<=_
    rw [AR]
    omega
  | ok h M s w d q N eq =>
    rw [eq]
    refine ⟨?_,.inl ⟨_,rfl⟩⟩
    show (pk w.out r.pd.dropLast).length<=r.pd.length + 5000 * 1
    rw [(gr _ _).length_eq,aB,AR]
    obtain ⟨new,e1,e2,_⟩:=N.ex
    have e1:w.out=new:=e1
    have dz:3 * ddz 4<=5000:=by decide
    rw [e1]
    omega
def rE (Ms:List MD) (r:RS) (most:Int) (i:Nat) (e:End):Prop:=(∀ j,j < i->ROk Ms.length (itR Ms r j).1/\kD (itR Ms r j).1 (most - (itR Ms r j).2.length)=none)/\kD (itR Ms r i).1 (most - (itR Ms r i).2.length)=some e/\ROk Ms.length (itR Ms r i).1
theorem pN.ref {F:Hp} {v:V}:∀ {e:End},pN F v e->∃ t,v=.ref t
  | .empty,⟨t,e,_⟩=>⟨t,e⟩
  | .cut,⟨t,e,_⟩=>⟨t,e⟩
  | .stp (.fin _),⟨t,_,e,_⟩=>⟨t,e⟩
  | .stp (.flt _ _),⟨t,_,e,_⟩=>⟨t,e⟩
end My
namespace My
open PySem L2
def st0 (M:MD):Sta:=⟨M.ps,M.qs.map fun q=>(q,[]),0,0⟩
def qx (es:List Ev):List Ev:=es.mapIdx fun i e=>atP e i
def hJ (Ms:List MD) (es:List Ev):RS:=⟨Ms.map st0,pk (qx es) [],none,none⟩
theorem lF {α β:Type} {R:α->β->Prop}:∀ {xs:List α} {ys:List β},xs.length=ys.length->(∀ (i:Nat) x y,xs[i]?=some x->ys[i]?=some y->R x y)->aW R xs ys
  | [],[],_,_=>.nil
  | [],_ :: _,l,_=>by cases l
  | _ :: _,[],l,_=>by cases l
  | x :: xs,y :: ys,l,h=>.cons (h 0 x y rfl rfl) (lF (by simpa using l) fun i a b ha hb=>h (i + 1) a b (by simpa using ha) (by simpa using hb))
theorem EL (es:List Ev):(qx es).length=es.length:=kY
theorem qy {es:List Ev} {i:Nat} {x:Ev} (h:(qx es)[i]?=some x):∃ e,es[i]?=some e/\x=atP e i:=by
  unfold qx at h
  rw [jE] at h
  cases z:es[i]? with
  | none =>
    rw [z] at h
    cases h
  | some e =>
    rw [z] at h
    cases h
    exact ⟨e,rfl,rfl⟩
theorem AS (es:List Ev):(qx es).Pairwise (fun a b=>a.key≠b.key):=by
  refine wK.mpr fun i j hi hj lt=>?_
  obtain ⟨e,_,h1⟩:=qy (es:=es) (i:=i) (x:=(qx es)[i]) (aC hi)
  obtain ⟨e',_,h2⟩:=qy (es:=es) (i:=j) (x:=(qx es)[j]) (aC hj)
  rw [h1,h2]
  refine tN (.inr ?_)
  show (i:Int)≠(j:Int)
  omega
theorem AU {Ms:List MD} {es:List Ev} (h:∀ e∈es,Hr Ms.length e):ROk Ms.length (hJ Ms es):=by
  refine ⟨av _,rh List.Pairwise.nil (fun x _ y hy=>by cases hy) (AS es),fun e he=>?_,fun e he=>?_⟩
  · rcases aU.mp ((gr _ _).mem_iff.mp he) with z | z
    · obtain ⟨i,hi⟩:=bY z
      obtain ⟨e',h',rfl⟩:=qy hi
      obtain ⟨a,b,c,d,f⟩:=h e' (aM h')
      exact ⟨a,b,c,d,f⟩
    · cases z
  · rcases aU.mp ((gr _ _).mem_iff.mp he) with z | z
    · obtain ⟨i,hi⟩:=bY z
      obtain ⟨e',h',rfl⟩:=qy hi
      exact .inl rfl
    · cases z
theorem New.sta {H H':Hp} {CS st dx bd qd:aa} {ls:List aa} {M:MD} (N:New H H' CS st M.ps M.qs dx bd qd ls) (nb:(M.ps.map (·.1)).Nodup) (nq:M.qs.Nodup):StA CS H' st (st0 M):=by
  have inj:∀ xs:List Str,xs.Nodup->(xs.map (Sum.inr:Str->Key)).Nodup:=fun xs h=>List.Pairwise.map _ (fun a b z y=>z (je y)) h
  refine ⟨dx,bd,qd,M.qs.zip ls,N.hst,?_,?_,?_⟩
  · have z:H' bd=some (.dK (pB (boK M.ps) [])):=N.hbd
    have e:pB (boK M.ps) []=boK M.ps:=by
      rw [zt]
      · exact oB _
      · rw [oB]
        unfold boK
        rw [gv]
        have:=inj _ nb
        rw [gv] at this
        exact this
    rw [e] at z
    exact z
  · have z:H' qd=some (.dK (pB (quK (M.qs.zip ls)) [])):=N.hqd
    have e:pB (quK (M.qs.zip ls)) []=quK (M.qs.zip ls):=by
      rw [zt]
      · exact oB _
      · rw [oB]
        unfold quK
        rw [gv]
        have e1:(M.qs.zip ls).map ((fun x:Key×V=>x.1) ∘ fun p:Str×aa=>((Sum.inr p.1:Key),V.ref p.2))=((M.qs.zip ls).map (·.1)).map (Sum.inr:Str->Key):=by
          rw [gv]
          rfl
        rw [e1,List.map_fst_zip (by rw [N.len]; exact aE _)]
        exact inj _ nq
    rw [e] at z
    exact z
  · refine lF ?_ fun i x y hx hy=>?_
    · show _=((M.qs.map fun q=>(q,([]:List Int)))).length
      rw [GH,av,N.len,Nat.min_self]
    · have hx:=wc.mp hx
      have hy:(M.qs.map fun q=>(q,([]:List Int)))[i]?=some y:=hy
      rw [bf,hx.1] at hy
      cases hy
      exact ⟨rfl,(N.li _ (aM hx.2)).2⟩
theorem MoI.wk0 {m:Int} {H:Hp} {v:V} {M:MD} (h:MoI m H v M):pf M.bs M.qs (st0 M).w:=by
  have w1:(10:Int) ^ 15=1000000000000000:=by decide
  refine ⟨h.kb,?_,h.nb,h.nq,fun p hp=>?_,fun p hp=>?_,dj,(fun x hx=>by cases hx),dj,(fun x hx=>by cases hx),(fun x hx=>by cases hx),?_⟩
  · show (M.qs.map fun q=>(q,([]:List Int))).map (·.1)=_
    rw [gv]
    exact List.map_id _
  · have:=h.wb p hp
    unfold Wo
    omega
  · obtain ⟨q,_,rfl⟩:=bH.mp hp
    exact ⟨bA _,fun n hn=>by cases hn⟩
  · rw [aB]
    have:=h.lb
    have:=h.lq
    omega
structure JZ (CB CS:aa) (G:Hp) (b:aa) (q:RS×List Rec) (e:End):Prop where
  ex:∃ (dx rl sl:aa) (en:V) (rvs:List V) (ss:List aa),G b=some (.ins CB dx (EC (.ref rl) en (.ref sl)))/\G rl=some (.lst rvs)/\aW (RcIn G) rvs q.2/\pN G en e/\G sl=some (.lst (ss.map V.ref))/\aW (StA CS G) ss q.1.sts
end My
namespace My
open PySem L2
theorem tP {c:Bool} {b:Bool} {p q:Prop} (h:c=b) (t:if b=true then p else q):if c=true then p else q:=by
  rw [h]
  exact t
def j7 (ns:List (List Int)):Prop:=ns.Pairwise fun x y=>HT.lexLt y x=true
structure Place (n:List Int) (ns:List (List Int)) (i:Nat):Prop where
  le:i<=ns.length
  up:∀ (j:Nat) (m:List Int),j < i->ns[j]?=some m->HT.lexLt n m=true
  dn:∀ (j:Nat) (m:List Int),i<=j->ns[j]?=some m->HT.lexLt n m=false
theorem j7.at_ {ns:List (List Int)} (h:j7 ns) {i j:Nat} {a b:List Int} (hij:i < j) (hi:ns[i]?=some a) (hj:ns[j]?=some b):HT.lexLt b a=true:=by
  obtain ⟨l1,e1⟩:=aw.mp hi
  obtain ⟨l2,e2⟩:=aw.mp hj
  subst e1 e2
  exact wK.mp h i j l1 l2 hij
theorem j7.put {ns:List (List Int)} {n:List Int} {i:Nat} (h:j7 ns) (p:Place n ns i) (hn:¬ n∈ns):j7 (ns.take i++n :: ns.drop i):=by
  have h':j7 (ns.take i++ns.drop i):=by rw [oR]; exact h
  obtain ⟨h1,h2,h3⟩:=gy.mp h'
  refine gy.mpr ⟨h1,iK.mpr ⟨fun m hm=>?_,h2⟩,fun a ha b hb=>?_⟩
  · obtain ⟨j,hj⟩:=bY hm
    rw [Cd] at hj
    exact HT.lx_of_not (p.dn _ m (by omega) hj) fun e=>hn (e ▸ aM hj)
  · rcases ak.mp hb with e | hb
    · subst e
      obtain ⟨j,hj⟩:=bY ha
      have lj:=(aw.mp hj).1
      rw [cN] at lj
      rw [List.getElem?_take,if_pos (by omega)] at hj
      exact p.up j a (by omega) hj
    · exact h3 a ha b hb
theorem kZ {ns:List (List Int)} {n m:List Int} {i:Nat}:m∈ns.take i++n :: ns.drop i↔m=n\/m∈ns:=by
  constructor
  · intro h
    rcases aU.mp h with h | h
    · exact .inr (Aw h)
    · rcases ak.mp h with h | h
      · exact .inl h
      · exact .inr (Av h)
  · rintro (h | h)
    · exact aU.mpr (.inr (ak.mpr (.inl h)))
    · rw [<- oR i ns] at h
      rcases aU.mp h with h | h
      · exact aU.mpr (.inl h)
      · exact aU.mpr (.inr (ak.mpr (.inr h)))
theorem j7.found {ns:List (List Int)} {n:List Int} {i:Nat} (h:j7 ns) (p:Place n ns i) (hn:n∈ns):ns[i]?=some n:=by
  obtain ⟨j,hj⟩:=bY hn
  rcases FC j i with l | l | l
  · have z:=p.up j n l hj
    rw [HT.lx_irr] at z
    cases z
  · rw [<- l]
    exact hj
  · have lj:=(aw.mp hj).1
    have hi:ns[i]?=some (ns[i]'(by omega)):=aC _
    have z1:=h.at_ l hi hj
    rw [p.dn i _ (aE _) hi] at z1
    cases z1
theorem j7.erase {ns:List (List Int)} (h:j7 ns) (i:Nat):j7 (ns.eraseIdx i):=List.Pairwise.sublist (List.eraseIdx_sublist _ _) h
theorem j7.mem_erase {ns:List (List Int)} {n m:List Int} {i:Nat} (h:j7 ns) (e:ns[i]?=some n):m∈ns.eraseIdx i↔m∈ns/\m≠n:=by
  rw [List.mem_eraseIdx_iff_getElem?]
  constructor
  · rintro ⟨j,hj,e'⟩
    refine ⟨aM e',fun q=>?_⟩
    subst q
    rcases Nat.lt_or_gt_of_ne hj with l | l
    · have z:=h.at_ l e' e
      rw [HT.lx_irr] at z
      cases z
    · have z:=h.at_ l e e'
      rw [HT.lx_irr] at z
      cases z
  · rintro ⟨hm,ne⟩
    obtain ⟨j,hj⟩:=bY hm
    refine ⟨j,fun q=>ne ?_,hj⟩
    subst q
    rw [e] at hj
    exact (b5 hj).symm
theorem j7.last {ns:List (List Int)} {z:List Int} (h:j7 ns) (e:ns[ns.length - 1]?=some z):∀ m∈ns,HT.lexLt m z=false:=by
  intro m hm
  obtain ⟨j,hj⟩:=bY hm
  have lj:=(aw.mp hj).1
  by_cases q:j=ns.length - 1
  · rw [q,e] at hj
    rw [b5 hj]
    exact HT.lx_irr _
  · exact HT.lx_asym (h.at_ (by omega) hj e)
abbrev kI (n:List Int):List Key:=n.map Sum.inl
structure Keyed (kvs:List (List Key×V)) (ns:List (List Int)):Prop where
  iff:∀ k:List Key,k∈kvs.map (·.1)↔∃ n∈ns,k=kI n
  nd:(kvs.map (·.1)).Nodup
  len:ns.length=kvs.length
theorem Keyed.nil:Keyed [] []:=⟨fun k=>⟨fun h=>(nomatch h),fun ⟨_,h,_⟩=>(nomatch h)⟩,dj,rfl⟩
theorem Keyed.ik {kvs:List (List Key×V)} {ns:List (List Int)} (h:Keyed kvs ns):IntKeys kvs:=fun k hk=>by
  obtain ⟨n,_,e⟩:=(h.iff k).mp hk
  exact ⟨n,e⟩
theorem Keyed.mem {kvs:List (List Key×V)} {ns:List (List Int)} (h:Keyed kvs ns) {n:List Int}:kI n∈kvs.map (·.1)↔n∈ns:=by
  rw [h.iff]
  constructor
  · rintro ⟨m,hm,e⟩
    rw [e8 e]
    exact hm
  · intro hn
    exact ⟨n,hn,rfl⟩
theorem Keyed.isSome {kvs:List (List Key×V)} {ns:List (List Int)} (h:Keyed kvs ns) {n:List Int} {v:V} (e:fZ kvs (kI n)=some v):n∈ns:=h.mem.mp (vY e)
theorem Keyed.isNone {kvs:List (List Key×V)} {ns:List (List Int)} (h:Keyed kvs ns) {n:List Int} (e:fZ kvs (kI n)=none):¬ n∈ns:=fun z=>qc e (h.mem.mpr z)
theorem Keyed.put {kvs:List (List Key×V)} {ns:List (List Int)} (h:Keyed kvs ns) {n:List Int} {v:V} {i:Nat} (e:fZ kvs (kI n)=none):Keyed (fH kvs (kI n) v) (ns.take i++n :: ns.drop i):=by
  refine ⟨fun k=>?_,Ad v h.nd e,?_⟩
  · rw [lK v e,ba,aU,h.iff]
    constructor
    · rintro (⟨m,hm,q⟩ | q)
      · exact ⟨m,kZ.mpr (.inr hm),q⟩
      · exact ⟨n,kZ.mpr (.inl rfl),au.mp q⟩
    · rintro ⟨m,hm,q⟩
      rcases kZ.mp hm with r | r
      · subst r
        exact .inr (au.mpr q)
      · exact .inl ⟨m,r,q⟩
  · rw [lK v e,aB,aB,aL,cN,jw,<- h.len]
    show _=ns.length + 1
    omega
theorem vw {kvs:List (List Key×V)} {k j:List Key}:j∈(gf kvs k).map (·.1)↔j∈kvs.map (·.1)/\j≠k:=by
  unfold gf
  constructor
  · intro h
    obtain ⟨p,hp,e⟩:=bH.mp h
    obtain ⟨h1,h2⟩:=iG.mp hp
    subst e
    exact ⟨bH.mpr ⟨p,h1,rfl⟩,by simpa using h2⟩
  · rintro ⟨h,ne⟩
    obtain ⟨p,hp,e⟩:=bH.mp h
    subst e
    exact bH.mpr ⟨p,iG.mpr ⟨hp,by simpa using ne⟩,rfl⟩
theorem Keyed.drop {kvs:List (List Key×V)} {ns:List (List Int)} (h:Keyed kvs ns) (hf:j7 ns) {n:List Int} {i:Nat} (e:ns[i]?=some n):Keyed (gf kvs (kI n)) (ns.eraseIdx i):=by
  refine ⟨fun k=>?_,qe h.nd,?_⟩
  · rw [vw,h.iff]
    constructor
    · rintro ⟨⟨m,hm,rfl⟩,ne⟩
      exact ⟨m,(hf.mem_erase e).mpr ⟨hm,fun q=>ne (by rw [q])⟩,rfl⟩
    · rintro ⟨m,hm,rfl⟩
      obtain ⟨h1,h2⟩:=(hf.mem_erase e).mp hm
      exact ⟨⟨m,h1,rfl⟩,fun q=>h2 (e8 q)⟩
  · have l1:=uV h.nd (h.mem.mpr (aM e))
    have l2:=(aw.mp e).1
    rw [Aq,if_pos l2,h.len]
    omega
theorem Keyed.empty {kvs:List (List Key×V)} {ns:List (List Int)} (h:Keyed kvs ns):ns=[]↔kvs=[]:=by
  rw [<- eA,<- eA,h.len]
section
variable {κ:Type} [DecidableEq κ]
end
structure cG (ps:List aa) (H H':Hp):Prop where
  keep:∀ b o,H b=some o->¬ b∈ps->H' b=some o
  tup:∀ b xs,H b=some (.tup xs)->H' b=some (.tup xs)
theorem cG.refl (ps:List aa) (H:Hp):cG ps H H:=⟨fun _ _ e _=>e,fun _ _ e=>e⟩
theorem cG.trans {ps:List aa} {H H1 H2:Hp} (a:cG ps H H1) (b:cG ps H1 H2):cG ps H H2:=⟨fun c o e n=>b.keep c o (a.keep c o e n) n,fun c xs e=>b.tup c xs (a.tup c xs e)⟩
theorem cG.mono {ps qs:List aa} {H H':Hp} (a:cG ps H H') (s:∀ b∈ps,b∈qs):cG qs H H':=⟨fun c o e n=>a.keep c o e fun z=>n (s c z),a.tup⟩
theorem cG.same {ps:List aa} {H H':Hp} (a:bF H H'):cG ps H H':=⟨fun c o e _=>a c o e,fun c xs e=>a c _ e⟩
theorem cG.upd {ps:List aa} {H:Hp} {p:aa} {o u:HO} (h:p∈ps) (e:H p=some u) (nt:∀ xs,u≠.tup xs):cG ps H (L2.upd H p o):=
  ⟨fun c v ec n=>by rw [aG (fun z=>n (by rw [z]; exact h))]; exact ec,fun c xs ec=>by rw [aG (fun z=>nt xs (by rw [z,e] at ec; exact b5 ec))]; exact ec⟩
theorem cG.but {p:aa} {H H':Hp} {u:HO} (a:But p H H') (e:H p=some u) (nt:∀ xs,u≠.tup xs):cG [p] H H':=
  ⟨fun c o ec n=>a c o ec fun z=>n (au.mpr z),fun c xs ec=>a c _ ec fun z=>nt xs (by rw [z,e] at ec; exact b5 ec)⟩
end My
namespace My
open PySem L2
def j8 (m:Int) (n:List Int):Prop:=∃ a b c e:Int,n=[a,b,c,e]/\-1500<=a/\a<=1000000000000/\0<=e/\e<=m
theorem jt.stay {H H':Hp} {p:aa} (h:jt H p) (b:But p H H'):cG [p] H H':=by
  obtain ⟨x,y,e⟩:=h
  exact cG.but b e (fun xs z=>by cases z)
end My
namespace My
open PySem L2
structure uy (K:af) (mg:Str->Option ae) (CC:aa):Prop where
  cl:Cls K CC
  nT:dG K CC "things"
  nR:dG K CC "rows"
  mgC:mg "Calendar"=some (.ref CC)
def cF (d r:aa):List (Str×V):=cM "rows" (.ref r) (cM "things" (.ref d) [])
theorem Hw (d r:aa):(cF d r).lookup ("things":Str)=some (.ref d):=by
  unfold cF
  rw [cH,if_neg (by decide +kernel),cH,if_pos rfl]
theorem cF_r (d r:aa):(cF d r).lookup ("rows":Str)=some (.ref r):=by
  unfold cF
  rw [cH,if_pos rfl]
theorem yn (d r:aa) {m:Str} (h1:m≠"rows") (h2:m≠"things"):(cF d r).lookup m=none:=by
  unfold cF
  rw [cH,if_neg h1,cH,if_neg h2]
  rfl
section
variable {P:aO} {w:bj} {K:af} {mg:Str->Option ae} {base:cb} {f fP fR:aa} {fd fdP fdR:bG}
def si:Sp:=fun vs H Q _=>∃ (q b:aa) (as:List aa) (ns:List (List Int)) (n:List Int),vs=[.ref q,.ref b]/\H q=some (.lst (as.map V.ref))/\fu H as ns/\j7 ns/\H b=some (.tup (n.map V.int))/\as.length<=100000 /\
  ∀ i:Nat,Place n ns i->Q (.int i) H
theorem vx:bD ["falling","thing","low","high","middle"] ["falling","thing"] (aP fJ):=⟨rfl,rfl,rfl,by decide +kernel,rfl,by decide +kernel,by decide +kernel⟩
theorem tQ (D:Df K mg "place_in" fJ ["falling","thing"] f fd) (B:Bl mg):bg P w K mg base CX0 1 f fd ["falling","thing"] si:=by
  refine D.F.ok vx (fun vs H Q E h=>?_) (fun cdv A outer s H vs Q E hr h=>?_)
  · obtain ⟨q,b,as,ns,n,rfl,_⟩:=h
    rfl
  obtain ⟨q,b,as,ns,n,rfl,hq,ht,hf,hb,hl,k⟩:=h
  have hu:=ji hr
  refine ⟨_,ax (bK (i:=2) vx.nd rfl (Or.inl rfl) aD)
    (ax (bK (i:=3) vx.nd rfl (Or.inl rfl) (cZ gH (by rfl) B.len df (ai (pv 0) ay)))
    (ax (sy dB (bZ uF (pv 2) (pv 3) (cB _))
      (ax (bK (i:=4) vx.nd rfl (Or.inl rfl) (cS FL (cS gz (pv 2) (pv 3)) aD))
      (aF (c9 (bZ (Jt (Nat.lt_of_succ_lt hu)) (bP eY (pv 0) (pv 4) (fun _ _=>rfl)) (pv 1) (cB _))
        (aF (bK (i:=2) vx.nd rfl (Or.inl rfl) (cS gz (pv 4) aD)))
        (aF (bK (i:=3) vx.nd rfl (Or.inl rfl) (pv 4)))))))
    (aF (bV (pv 2))))),?_⟩
  have hlen:=ht.length
  refine ⟨_,rfl,q,_,rfl,.inl (SqL.of hq),?_⟩
  refine sC (fun σ H2=>∃ (lo hi:Nat) (m:Option V),σ=[some (.ref q),some (.ref b),some (.int lo),some (.int hi),m]/\H2=H/\lo<=hi/\hi<=as.length /\
      (∀ (j:Nat) (z:List Int),j < lo->ns[j]?=some z->HT.lexLt n z=true)/\∀ (j:Nat) (z:List Int),hi<=j->ns[j]?=some z->HT.lexLt n z=false)
    (fun σ _=>match σ with | [_,_,some (.int lo),some (.int hi),_]=>(hi - lo).toNat | _=>0) ?_ ?_ ?_
  · refine ⟨0,as.length,none,?_,rfl,bA _,aE _,fun j z h=>absurd h (iJ _),fun j z h e=>?_⟩
    · rw [av]
      rfl
    · rw [jo (by omega)] at e
      cases e
  · rintro σ H2 ⟨lo,hi,m,rfl,rfl,h1,h2,h3,h4⟩
    refine ⟨_,rfl,_,rfl,_,_,rfl,rfl,_,rfl,?_⟩
    refine jj (fun c=>?_) (fun c=>?_)
    · have c:lo < hi:=by
        have z:=of_decide_eq_true c
        omega
      refine ⟨_,rfl,_,rfl,_,_,rfl,rfl,_,_,rfl,rfl,⟨by decide,by decide⟩,?_⟩
      have em:((lo:Int) + (hi:Int)) / 2=(((lo + hi) / 2:Nat):Int):=by omega
      have lm:(lo + hi) / 2 < as.length:=by omega
      obtain ⟨z,hz,hzt⟩:=ht.get (aC lm)
      have ea:(as.map V.ref)[(lo + hi) / 2]?=some (.ref as[(lo + hi) / 2]):=by rw [bf,aC lm]; rfl
      refine ⟨_,rfl,_,rfl,q,_,_,_,rfl,rfl,SqL.of hq,(by rw [em]; exact jG ea),_,rfl,_,b,z,n,rfl,rfl,hzt,hb,_,rfl,?_⟩
      refine jj (fun g=>?_) (fun g=>?_)
      · refine ⟨_,rfl,_,_,rfl,rfl,⟨(lo + hi) / 2 + 1,hi,some (.int (((lo:Int) + (hi:Int)) / 2)),?_,rfl,by omega,h2,fun j y hj e=>?_,h4⟩,?_⟩
        · have e2:(((lo + hi) / 2 + 1:Nat):Int)=((lo:Int) + (hi:Int)) / 2 + 1:=by omega
          rw [e2]
          rfl
        · by_cases ej:j=(lo + hi) / 2
          · rw [ej,hz] at e
            cases e
            exact g
          · have la:j < ns.length:=(aw.mp e).1
            exact HT.lx_trans g (hf.at_ (by omega) e hz)
        · show ((hi:Int) - (((lo:Int) + (hi:Int)) / 2 + 1)).toNat < ((hi:Int) - (lo:Int)).toNat
          omega
      · refine ⟨_,rfl,⟨lo,(lo + hi) / 2,some (.int (((lo:Int) + (hi:Int)) / 2)),?_,rfl,by omega,by omega,h3,fun j y hj e=>?_⟩,?_⟩
        · rw [<- em]
          rfl
        · have g':HT.lexLt n z=false:=by
            cases e':HT.lexLt n z with
            | false=>rfl
            | true=>exact absurd e' g
          by_cases ej:j=(lo + hi) / 2
          · rw [ej,hz] at e
            cases e
            exact g'
          · have z1:=hf.at_ (show (lo + hi) / 2 < j by omega) hz e
            cases e':HT.lexLt n y with
            | false=>rfl
            | true =>
              have z2:=HT.lx_trans e' z1
              rw [g'] at z2
              cases z2
        · show ((((lo:Int) + (hi:Int)) / 2) - (lo:Int)).toNat < ((hi:Int) - (lo:Int)).toNat
          omega
    · have e:lo=hi:=by
        have z:¬ ((lo:Int) < (hi:Int)):=fun z=>c (decide_eq_true z)
        omega
      subst e
      exact ⟨_,rfl,k lo ⟨by omega,h3,h4⟩⟩
  · rintro σ H2 Q1 Q2 hq2 h
    obtain ⟨a1,e1,a2,e2,i,j,e3,e4,b',e5,h⟩:=h
    exact ⟨a1,e1,a2,e2,i,j,e3,e4,b',e5,hq2 _ _ h⟩
def wL:Sp:=fun vs H Q _=>∃ (q b:aa) (as:List aa) (ns:List (List Int)) (n:List Int),vs=[.ref q,.ref b]/\H q=some (.lst (as.map V.ref))/\fu H as ns/\j7 ns/\H b=some (.tup (n.map V.int))/\as.length<=100000 /\
  ∀ i:Nat,Place n ns i->Q .non (upd H q (.lst ((as.take i++b :: as.drop i).map V.ref)))
theorem scPi:bD ["falling","thing"] ["falling","thing"] (aP j1):=⟨rfl,rfl,rfl,by decide +kernel,rfl,by decide +kernel,by decide +kernel⟩
theorem yo (D:Df K mg "put_in" j1 ["falling","thing"] f fd) (DP:Df K mg "place_in" fJ ["falling","thing"] fP fdP) (B:Bl mg):bg P w K mg base CX0 2 f fd ["falling","thing"] wL:=by
  have GP:bg P w K mg base CX0 1 fP fdP ["falling","thing"] si:=tQ DP B
  refine D.F.ok scPi (fun vs H Q E h=>?_) (fun cdv A outer s H vs Q E hr h=>?_)
  · obtain ⟨q,b,as,ns,n,rfl,_⟩:=h
    rfl
  obtain ⟨q,b,as,ns,n,rfl,hq,ht,hf,hb,hl,k⟩:=h
  refine ⟨_,aF (c5 (jX bM PySem.F.slot_list_insert PySem.F.type_list_insert By (pv 0) (ai (cw GP hr rfl DP.m DP.F.kp DP.b .nil cL (ai (pv 0) (ai (pv 1) ay))) (ai (pv 1) ay)))),?_⟩
  refine ⟨_,rfl,.inl ⟨rfl,_,SqL.of hq⟩,_,rfl,_,rfl,q,b,as,ns,n,rfl,hq,ht,hf,hb,hl,fun i p=>⟨_,rfl,q,_,i,_,rfl,rfl,hq,?_,?_,?_⟩⟩
  · rw [av]
    have:=p.le
    have:=ht.length
    omega
  · rw [av]
    exact bz hl (by decide)
  · have z:=k i p
    rw [ba,cC,JQ,List.map_drop] at z
    exact z
def zE:Sp:=fun vs H Q _=>∃ (q:aa) (xs:List V),vs=[.ref q]/\H q=some (.lst xs)/\(xs=[]->Q .non H)/\∀ v,xs[xs.length - 1]?=some v->Q v H
theorem scLo:bD ["falling"] ["falling"] (aP ia):=⟨rfl,rfl,rfl,by decide +kernel,rfl,by decide +kernel,by decide +kernel⟩
theorem AV (D:Df K mg "last_of" ia ["falling"] f fd):bg P w K mg base CX0 1 f fd ["falling"] zE:=by
  refine D.F.ok scLo (fun vs H Q E h=>?_) (fun cdv A outer s H vs Q E hr h=>?_)
  · obtain ⟨q,xs,rfl,_⟩:=h
    rfl
  obtain ⟨q,xs,rfl,hq,k1,k2⟩:=h
  refine ⟨_,aF (bV (nG (pZ (pv 0) (fun _=>rfl)) (bP eY (pv 0) (sD pG aD) (fun _ _=>rfl)) l9)),?_⟩
  refine ⟨_,rfl,_,.inl ⟨xs,SqL.of hq,rfl⟩,?_⟩
  cases xs with
  | nil=>exact fG (k1 rfl)
  | cons x r =>
    refine gJ ?_
    obtain ⟨ys,y,e⟩:∃ ys y,x :: r=ys++[y]:=by
      rcases zF (x :: r) with z | ⟨ys,y,z⟩
      · cases z
      · exact ⟨ys,y,by simpa using z⟩
    rw [e] at hq k2
    refine ⟨_,rfl,_,rfl,q,_,_,_,rfl,rfl,SqL.of hq,xq ys y,k2 y ?_⟩
    rw [aB,gT,qX,dD (aE _),zC]
    rfl
end
end My
namespace My
open PySem L2
def Cal (CC:aa) (H:Hp) (c d r q:aa) (kvs:List (List Key×V)):Prop:=
  ∃ (dx:aa) (as:List aa) (ns:List (List Int)),H c=some (.ins CC dx (cF d r))/\H d=some (.dT kvs)/\H r=some (.lst [.ref q])/\H q=some (.lst (as.map V.ref))/\fu H as ns/\j7 ns/\Keyed kvs ns/\r≠q
theorem Cal.stay {CC c d r q:aa} {H H':Hp} {kvs:List (List Key×V)} {ps:List aa} (h:Cal CC H c d r q kvs) (s:cG ps H H') (hn:∀ b∈[c,d,r,q],¬ b∈ps):Cal CC H' c d r q kvs:=by
  obtain ⟨dx,as,ns,h1,h2,h3,h4,h5,h6,h7,h8⟩:=h
  refine ⟨dx,as,ns,s.keep _ _ h1 (hn c (by simp)),s.keep _ _ h2 (hn d (by simp)),s.keep _ _ h3 (hn r (by simp)),s.keep _ _ h4 (hn q (by simp)),h5.keep s.tup,h6,h7,h8⟩
section
variable {P:aO} {w:bj} {K:af} {mg:Str->Option ae} {base:cb} {f fP fPl fL fR fLe fT CC:aa} {fd fdP fdPl fdL fdR fdLe fdT:bG}
def wM (CC:aa):Sp:=fun vs H Q _=>∃ c dx:aa,vs=[.ref c]/\H c=some (.ins CC dx [])/\∀ (d r q:aa) (H':Hp),H d=none->H r=none->H q=none->d≠r->Cal CC H' c d r q []->cG [c] H H'->Q .non H'
theorem scCaI:bD ["self"] ["self"] (aP gL):=⟨rfl,rfl,rfl,by decide +kernel,rfl,by decide +kernel,by decide +kernel⟩
theorem yp (F:Fun K "__init__" "Calendar.__init__" gL f fd) (cl:Cls K CC) (nT:dG K CC "things") (nR:dG K CC "rows"):bg P w K mg base CX0 1 f fd ["self"] (wM CC):=by
  refine F.ok scCaI (fun vs H Q E h=>?_) (fun cdv A outer s H vs Q E hr h=>?_)
  · obtain ⟨c,dx,rfl,_⟩:=h
    rfl
  obtain ⟨c,dx,rfl,hc,k⟩:=h
  refine ⟨_,ax (fk (pv 0) Dm rfl) (aF (fk (pv 0) (dP (ai (dP ay) ay)) rfl)),?_⟩
  intro d hd
  have ncd:c≠d:=aN hc hd
  refine ⟨_,rfl,c,CC,dx,_,rfl,(by rw [aG ncd]; exact hc),cl,nT,(by decide),?_⟩
  refine ⟨bA _,fun q hq=>⟨(by show 1<=az; decide),fun r hr2=>?_⟩⟩
  have nq:q≠c:=fun e=>by rw [e,ah] at hq; cases hq
  have nqd:q≠d:=fun e=>by rw [e,aG (cj ncd),ah] at hq; cases hq
  have nrq:r≠q:=fun e=>by rw [e,ah] at hr2; cases hr2
  have nr:r≠c:=fun e=>by rw [e,aG (cj nq),ah] at hr2; cases hr2
  have nrd:r≠d:=fun e=>by rw [e,aG (cj nqd),aG (cj ncd),ah] at hr2; cases hr2
  refine ⟨_,rfl,c,CC,dx,_,rfl,(by rw [aG (cj nr),aG (cj nq)]; exact ah),cl,nR,(bz (eR _ _ _) (by decide)),?_⟩
  refine k d r q _ hd ?_ ?_ (cj nrd) ⟨dx,[],[],ah,?_,?_,?_,.nil,List.Pairwise.nil,Keyed.nil,nrq⟩ ?_
  · rw [aG nrq,aG nr,aG nrd] at hr2
    exact hr2
  · rw [aG nq,aG nqd] at hq
    exact hq
  · rw [aG (cj ncd),aG (cj nrd),aG (cj nqd),aG (cj ncd)]
    exact ah
  · rw [aG nr]
    exact ah
  · rw [aG nq,aG (cj nrq)]
    exact ah
  · have s1:bF H (upd H d (.dT [])):=aH hd _
    have s2:cG [c] (upd H d (.dT [])) (upd (upd H d (.dT [])) c (.ins CC dx (cM "things" (.ref d) []))):=cG.upd (by simp) (s1 c _ hc) (fun xs z=>by cases z)
    have s3:bF (upd (upd H d (.dT [])) c (.ins CC dx (cM "things" (.ref d) []))) _:=(aH hq (.lst [])).trans (aH hr2 (.lst [.ref q]))
    exact (cG.same s1).trans (s2.trans ((cG.same s3).trans (cG.upd (by simp) (s3 c _ ah) (fun xs z=>by cases z))))
theorem Hx (F:Fun K "__init__" "Calendar.__init__" gL f fd) (T:uy K mg CC):bg P w K mg base CX0 1 f fd ["self"] (wM CC):=yp F T.cl T.nT T.nR
def EM (CC:aa):Sp:=fun vs H Q _=>∃ (c dx d r q:aa) (x:V),vs=[.ref c,x]/\H c=some (.ins CC dx (cF d r))/\H r=some (.lst [.ref q])/\Q (.ref q) H
theorem scRf:bD ["self","key"] ["self","key"] (aP dX):=⟨rfl,rfl,rfl,by decide +kernel,rfl,by decide +kernel,by decide +kernel⟩
theorem EN (F:Fun K "row_for" "Calendar.row_for" dX f fd) (T:uy K mg CC):bg P w K mg base CX0 1 f fd ["self","key"] (EM CC):=by
  refine F.ok scRf (fun vs H Q E h=>?_) (fun cdv A outer s H vs Q E hr h=>?_)
  · obtain ⟨c,dx,d,r,q,x,rfl,_⟩:=h
    rfl
  obtain ⟨c,dx,d,r,q,x,rfl,h1,h3,k⟩:=h
  refine ⟨_,aF (bV (bP eY (cq (pv 0) rfl) aD (fun _ _=>rfl))),?_⟩
  exact ⟨_,rfl,c,CC,dx,_,_,rfl,h1,T.cl,T.nR,cF_r d r,r,_,_,_,rfl,rfl,SqL.of h3,rfl,k⟩
def J0 (CC:aa):Sp:=fun vs H Q _=>∃ (c d r q:aa) (kvs:List (List Key×V)),vs=[.ref c]/\Cal CC H c d r q kvs/\Q (.int kvs.length) H
theorem scSz:bD ["self"] ["self"] (aP fi):=⟨rfl,rfl,rfl,by decide +kernel,rfl,by decide +kernel,by decide +kernel⟩
theorem Hy (F:Fun K "size" "Calendar.size" fi f fd) (T:uy K mg CC) (B:Bl mg):bg P w K mg base CX0 1 f fd ["self"] (J0 CC):=by
  refine F.ok scSz (fun vs H Q E h=>?_) (fun cdv A outer s H vs Q E hr h=>?_)
  · obtain ⟨c,d,r,q,kvs,rfl,_⟩:=h
    rfl
  obtain ⟨c,d,r,q,kvs,rfl,⟨dx,as,ns,h1,h2,h3,h4,_⟩,k⟩:=h
  refine ⟨_,aF (bV (cZ uZ (by rfl) B.len df (ai (cq (pv 0) rfl) ay))),?_⟩
  exact ⟨_,rfl,c,CC,dx,_,_,rfl,h1,T.cl,T.nT,Hw d r,d,kvs,rfl,h2,k⟩
def spPut (CC:aa):Sp:=fun vs H Q _=>∃ (c d r q b:aa) (n:List Int) (v:V) (kvs:List (List Key×V)),vs=[.ref c,.ref b,v]/\Cal CC H c d r q kvs/\H b=some (.tup (n.map V.int))/\fZ kvs (kI n)=none/\kvs.length<=100000 /\
  ∀ H':Hp,Cal CC H' c d r q (fH kvs (kI n) v)->cG [d,q] H H'->Q .non H'
theorem scPuc:bD ["self","key","thing"] ["self","key","thing"] (aP iQ):=⟨rfl,rfl,rfl,by decide +kernel,rfl,by decide +kernel,by decide +kernel⟩
theorem J1 (F:Fun K "put" "Calendar.put" iQ f fd) (T:uy K mg CC) (B:Bl mg) (DP:Df K mg "put_in" j1 ["falling","thing"] fP fdP) (DPl:Df K mg "place_in" fJ ["falling","thing"] fPl fdPl)
    (FR:Fun K "row_for" "Calendar.row_for" dX fR fdR) (bR:Binds K fdR ["self","key"] []) (mR:gu K CC "row_for" fR):bg P w K mg base CX0 3 f fd ["self","key","thing"] (spPut CC):=by
  have GP:bg P w K mg base CX0 2 fP fdP ["falling","thing"] wL:=yo DP DPl B
  have GR:bg P w K mg base CX0 1 fR fdR ["self","key"] (EM CC):=EN FR T
  refine F.ok scPuc (fun vs H Q E h=>?_) (fun cdv A outer s H vs Q E hr h=>?_)
  · obtain ⟨c,d,r,q,b,n,v,kvs,rfl,_⟩:=h
    rfl
  obtain ⟨c,d,r,q,b,n,v,kvs,rfl,hC,hb,hv,hl,k⟩:=h
  obtain ⟨dx,as,ns,h1,h2,h3,h4,h5,h6,h7,h8⟩:=id hC
  have hu:=ji hr
  have hr1:dN 1 _:=hr.mono (by decide)
  refine ⟨_,ax (jI hu (cq (pv 0) rfl) (pv 1) (pv 2) rfl)
    (aF (c5 (cw GP hr rfl DP.m DP.F.kp DP.b .nil cL (ai (eI (pv 0) T.cl mR GR hr1 bR .nil cL (ai (pv 1) ay)) (ai (pv 1) ay))))),?_⟩
  have eb:H b=some (.tup ((kI n).map kV)):=by rw [wx]; exact hb
  refine ⟨_,rfl,_,rfl,c,CC,dx,_,_,rfl,h1,T.cl,T.nT,Hw d r,_,rfl,d,_,rfl,o7.t (k:=kI n) h2 eb (bz hl (by decide)),?_⟩
  have s1:cG [d] H (upd H d (.dT (fH kvs (kI n) v))):=cG.upd (by simp) h2 (fun xs z=>by cases z)
  have ncd:c≠d:=fc h1 h2 (by intro z; cases z)
  have nrd:r≠d:=fc h3 h2 (by intro z; cases z)
  have nqd:q≠d:=fc h4 h2 (by intro z; cases z)
  have g1:=s1.keep c _ h1 (by simpa using ncd)
  have g3:=s1.keep r _ h3 (by simpa using nrd)
  have g4:=s1.keep q _ h4 (by simpa using nqd)
  have g5:fu (upd H d (.dT (fH kvs (kI n) v))) as ns:=h5.keep s1.tup
  have la:=h5.length
  have ll:=h7.len
  refine ⟨_,rfl,c,dx,_,rfl,g1,yn d r (by decide +kernel) (by decide +kernel),_,rfl,c,dx,d,r,q,_,rfl,g1,g3,_,rfl,q,b,as,ns,n,rfl,g4,g5,h6,s1.tup b _ hb,by omega,fun i p=>?_⟩
  have nn:¬ n∈ns:=h7.isNone hv
  have ncq:c≠q:=fc h1 h4 (by intro z; cases z)
  have s2:cG [d,q] (upd H d (.dT (fH kvs (kI n) v))) (upd (upd H d (.dT (fH kvs (kI n) v))) q (.lst ((as.take i++b :: as.drop i).map V.ref))):=cG.upd (by simp) g4 (fun xs z=>by cases z)
  refine k _ ⟨dx,as.take i++b :: as.drop i,ns.take i++n :: ns.drop i,?_,?_,?_,ah,?_,h6.put p nn,h7.put hv,h8⟩ ((s1.mono (by simp)).trans s2)
  · rw [aG ncq]
    exact g1
  · rw [aG (cj nqd)]
    exact ah
  · rw [aG h8]
    exact g3
  · exact (((h5.take i).append (.cons hb (h5.drop i))).keep s1.tup).keep s2.tup
def AW (CC:aa):Sp:=fun vs H Q _=>∃ (c d r q:aa) (kvs:List (List Key×V)),vs=[.ref c]/\Cal CC H c d r q kvs/\(kvs=[]->Q .non H)/\∀ (a:aa) (n:List Int),H a=some (.tup (n.map V.int))->Least (kvs.map (·.1)) n->Q (.ref a) H
theorem scLe:bD ["self"] ["self"] (aP gA):=⟨rfl,rfl,rfl,by decide +kernel,rfl,by decide +kernel,by decide +kernel⟩
theorem yq (F:Fun K "least" "Calendar.least" gA f fd) (T:uy K mg CC) (DL:Df K mg "last_of" ia ["falling"] fL fdL):bg P w K mg base CX0 2 f fd ["self"] (AW CC):=by
  have GL:bg P w K mg base CX0 1 fL fdL ["falling"] zE:=AV DL
  refine F.ok scLe (fun vs H Q E h=>?_) (fun cdv A outer s H vs Q E hr h=>?_)
  · obtain ⟨c,d,r,q,kvs,rfl,_⟩:=h
    rfl
  obtain ⟨c,d,r,q,kvs,rfl,⟨dx,as,ns,h1,h2,h3,h4,h5,h6,h7,h8⟩,k1,k2⟩:=h
  refine ⟨_,aF (bV (cw GL hr rfl DL.m DL.F.kp DL.b .nil cL (ai (bP eY (cq (pv 0) rfl) aD (fun _ _=>rfl)) ay))),?_⟩
  refine ⟨_,rfl,c,CC,dx,_,_,rfl,h1,T.cl,T.nR,cF_r d r,r,_,_,_,rfl,rfl,SqL.of h3,rfl,q,_,rfl,h4,fun e=>?_,fun v e=>?_⟩
  · refine k1 (h7.empty.mp ?_)
    have la:=h5.length
    rw [BQ] at e
    rw [e] at la
    exact eA.mp la.symm
  · rw [av,bf] at e
    obtain ⟨a,ea,rfl⟩:=gI.mp e
    obtain ⟨n,en,hn⟩:=h5.get ea
    rw [h5.length] at en
    refine k2 a n hn ⟨h7.mem.mpr (aM en),fun m hm=>h6.last en m (h7.mem.mp hm)⟩
def EO (CC:aa):Sp:=fun vs H Q _=>∃ (c d r q b:aa) (n:List Int) (kvs:List (List Key×V)),vs=[.ref c,.ref b]/\Cal CC H c d r q kvs/\H b=some (.tup (n.map V.int))/\kvs.length<=100000/\(fZ kvs (kI n)=none->Q .non H) /\
  ∀ (v:V) (H':Hp),fZ kvs (kI n)=some v->Cal CC H' c d r q (gf kvs (kI n))->cG [d,q] H H'->Q v H'
theorem Hz:bD ["self","key","row"] ["self","key"] (aP dm):=⟨rfl,rfl,rfl,by decide +kernel,rfl,by decide +kernel,by decide +kernel⟩
theorem AX (F:Fun K "take_out" "Calendar.take_out" dm f fd) (T:uy K mg CC) (B:Bl mg) (DPl:Df K mg "place_in" fJ ["falling","thing"] fPl fdPl)
    (FR:Fun K "row_for" "Calendar.row_for" dX fR fdR) (bR:Binds K fdR ["self","key"] []) (mR:gu K CC "row_for" fR):bg P w K mg base CX0 2 f fd ["self","key"] (EO CC):=by
  have GP:bg P w K mg base CX0 1 fPl fdPl ["falling","thing"] si:=tQ DPl B
  have GR:bg P w K mg base CX0 1 fR fdR ["self","key"] (EM CC):=EN FR T
  refine F.ok Hz (fun vs H Q E h=>?_) (fun cdv A outer s H vs Q E hr h=>?_)
  · obtain ⟨c,d,r,q,b,n,kvs,rfl,_⟩:=h
    rfl
  obtain ⟨c,d,r,q,b,n,kvs,rfl,hC,hb,hl,k1,k2⟩:=h
  obtain ⟨dx,as,ns,h1,h2,h3,h4,h5,h6,h7,h8⟩:=id hC
  have hu:=ji hr
  refine ⟨_,ax (c9 (me (uU hu (pv 1) (cq (pv 0) rfl))) (aF (bV l9)) cE)
    (ax (bK (i:=2) Hz.nd rfl (Or.inl rfl) (eI (pv 0) T.cl mR GR hr bR .nil cL (ai (pv 1) ay)))
    (ax (c5 (jX bM m7 m8 sS (pv 2) (ai (cw GP hr rfl DPl.m DPl.F.kp DPl.b .nil cL (ai (pv 2) (ai (pv 1) ay))) ay)))
    (aF (bV (xR hu (cq (pv 0) rfl) (pv 1) ⟨rfl,rfl,rfl,rfl⟩))))),?_⟩
  have eb:H b=some (.tup ((kI n).map kV)):=by rw [wx]; exact hb
  refine ⟨_,rfl,_,rfl,c,CC,dx,_,_,rfl,h1,T.cl,T.nT,Hw d r,d,_,rfl,hZ.t (k:=kI n) h2 eb,_,rfl,?_⟩
  cases e:fZ kvs (kI n) with
  | none=>exact gJ (k1 e)
  | some v =>
    refine fG ?_
    refine ⟨_,rfl,c,dx,_,rfl,h1,yn d r (by decide +kernel) (by decide +kernel),_,rfl,c,dx,d,r,q,_,rfl,h1,h3,?_⟩
    have la:=h5.length
    have ll:=h7.len
    refine ⟨_,rfl,.inl ⟨rfl,_,SqL.of h4⟩,_,rfl,_,rfl,q,b,as,ns,n,rfl,h4,h5,h6,hb,by omega,fun i p=>?_⟩
    have hn:ns[i]?=some n:=h6.found p (h7.isSome e)
    have li:i < as.length:=by
      have:=(aw.mp hn).1
      omega
    have ei:vV (i:Int) (as.map V.ref).length=some i:=by
      rw [av,qQ (by omega) (by omega),l8]
    have eg:(as.map V.ref)[i]?=some (.ref as[i]):=by rw [bf,aC li]; rfl
    refine ⟨q,_,_,i,_,rfl,rfl,h4,by omega,by omega,ei,eg,?_⟩
    have s1:cG [d,q] H (upd H q (.lst ((as.map V.ref).eraseIdx i))):=cG.upd (by simp) h4 (fun xs z=>by cases z)
    have ncq:c≠q:=fc h1 h4 (by intro z; cases z)
    have ndq:d≠q:=fc h2 h4 (by intro z; cases z)
    have ncd:c≠d:=fc h1 h2 (by intro z; cases z)
    have nrd:r≠d:=fc h3 h2 (by intro z; cases z)
    have g1:upd H q (.lst ((as.map V.ref).eraseIdx i)) c=_:=(aG ncq).trans h1
    have g2:upd H q (.lst ((as.map V.ref).eraseIdx i)) d=_:=(aG ndq).trans h2
    have g3:upd H q (.lst ((as.map V.ref).eraseIdx i)) r=_:=(aG h8).trans h3
    refine ⟨_,rfl,c,CC,dx,_,_,rfl,g1,T.cl,T.nT,Hw d r,d,rfl,.inr ⟨_,.inl g2⟩,_,rfl,kvs,kI n,b,v,g2,rfl,s1.tup b _ eb,e,?_⟩
    have s2:cG [d,q] (upd H q (.lst ((as.map V.ref).eraseIdx i))) (upd (upd H q (.lst ((as.map V.ref).eraseIdx i))) d (.dT (gf kvs (kI n)))):=cG.upd (by simp) g2 (fun xs z=>by cases z)
    refine k2 v _ e ⟨dx,as.eraseIdx i,ns.eraseIdx i,(aG ncd).trans g1,ah,(aG nrd).trans g3,?_,(((h5.erase i).keep s1.tup).keep s2.tup),h6.erase i,h7.drop h6 hn,h8⟩ (s1.trans s2)
    rw [aG (cj ndq),ah,erase_map]
def HA (CC:aa):Sp:=fun vs H Q _=>∃ (c d r q:aa) (kvs:List (List Key×V)),vs=[.ref c]/\Cal CC H c d r q kvs/\kvs.length<=100000/\(kvs=[]->Q .non H) /\
  ∀ (a t:aa) (n:List Int) (v:V) (H':Hp),Least (kvs.map (·.1)) n->fZ kvs (kI n)=some v->H' a=some (.tup (n.map V.int))->H' t=some (.tup [.ref a,v])->Cal CC H' c d r q (gf kvs (kI n))->cG [d,q] H H'->Q (.ref t) H'
theorem HB:bD ["self","key"] ["self"] (aP eX):=⟨rfl,rfl,rfl,by decide +kernel,rfl,by decide +kernel,by decide +kernel⟩
theorem ER (F:Fun K "leave" "Calendar.leave" eX f fd) (T:uy K mg CC) (B:Bl mg) (DPl:Df K mg "place_in" fJ ["falling","thing"] fPl fdPl) (DL:Df K mg "last_of" ia ["falling"] fL fdL)
    (FR:Fun K "row_for" "Calendar.row_for" dX fR fdR) (bR:Binds K fdR ["self","key"] []) (mR:gu K CC "row_for" fR)
    (FLe:Fun K "least" "Calendar.least" gA fLe fdLe) (bLe:Binds K fdLe ["self"] []) (mLe:gu K CC "least" fLe)
    (FT:Fun K "take_out" "Calendar.take_out" dm fT fdT) (bT:Binds K fdT ["self","key"] []) (mT:gu K CC "take_out" fT):bg P w K mg base CX0 3 f fd ["self"] (HA CC):=by
  have GLe:bg P w K mg base CX0 2 fLe fdLe ["self"] (AW CC):=yq FLe T DL
  have GT:bg P w K mg base CX0 2 fT fdT ["self","key"] (EO CC):=AX FT T B DPl FR bR mR
  refine F.ok HB (fun vs H Q E h=>?_) (fun cdv A outer s H vs Q E hr h=>?_)
  · obtain ⟨c,d,r,q,kvs,rfl,_⟩:=h
    rfl
  obtain ⟨c,d,r,q,kvs,rfl,hC,hl,k1,k2⟩:=h
  obtain ⟨dx,as,ns,h1,h2,h3,h4,h5,h6,h7,h8⟩:=id hC
  refine ⟨_,ax (bK (i:=1) HB.nd rfl (Or.inl rfl) (jg (pv 0) T.cl mLe GLe hr bLe .nil cL))
    (ax (c9 (me (vI (pv 1))) (aF (bV l9)) cE)
    (aF (bV (cK (ai (pv 1) (ai (eI (pv 0) T.cl mT GT hr bT .nil cL (ai (pv 1) ay)) ay)))))),?_⟩
  refine ⟨_,rfl,c,dx,_,rfl,h1,yn d r (by decide +kernel) (by decide +kernel),c,d,r,q,kvs,rfl,hC,fun e=>?_,fun a n ha le=>?_⟩
  · refine ⟨_,rfl,_,rfl,?_⟩
    exact tP (decide_eq_true rfl) (gJ (k1 e))
  · refine ⟨_,rfl,_,rfl,?_⟩
    refine tP (decide_eq_false (fun z=>by cases z)) (fG ?_)
    refine ⟨_,rfl,_,rfl,c,dx,_,rfl,h1,yn d r (by decide +kernel) (by decide +kernel),_,rfl,c,d,r,q,a,n,kvs,rfl,hC,ha,hl,fun e=>?_,fun v H1 e hC1 s1=>?_⟩
    · exact absurd (h7.mem.mp le.1) (h7.isNone e)
    · refine ⟨lt2,fun t ht=>?_⟩
      have s2:bF H1 (upd H1 t (.tup [.ref a,v])):=aH ht _
      refine k2 a t n v _ le e (s2 a _ (s1.tup a _ ha)) ah (hC1.stay (ps:=[]) (cG.same s2) (fun _ _ z=>(nomatch z))) (s1.trans (cG.same s2))
end
end My
namespace My
open PySem L2
abbrev CK:=Hp->aa->List aa->List (List Key×V)->Prop
structure zG (CC:aa) (I:CK):Prop where
  stay:∀ {H H':Hp} {c:aa} {own ps:List aa} {kvs:List (List Key×V)},I H c own kvs->cG ps H H'->(∀ b∈own,¬ b∈ps)->I H' c own kvs
  inst:∀ {H:Hp} {c:aa} {own:List aa} {kvs:List (List Key×V)},I H c own kvs->∃ dx fs,H c=some (.ins CC dx fs)/\∀ m∈(["put","size","least","leave","take_out"]:List Str),fs.lookup m=none
  ik:∀ {H:Hp} {c:aa} {own:List aa} {kvs:List (List Key×V)},I H c own kvs->IntKeys kvs
  nd:∀ {H:Hp} {c:aa} {own:List aa} {kvs:List (List Key×V)},I H c own kvs->(kvs.map (·.1)).Nodup
  own:∀ {H:Hp} {c:aa} {own:List aa} {kvs:List (List Key×V)},I H c own kvs->∀ b∈own,∃ o,H b=some o/\∀ xs,o≠.tup xs
def IE (I:CK):Sp:=fun vs H Q _=>∃ (c:aa) (own:List aa) (kvs:List (List Key×V)),vs=[.ref c]/\I H c own kvs/\Q (.int kvs.length) H
def zH (I:CK):Sp:=fun vs H Q _=>∃ (c:aa) (own:List aa) (kvs:List (List Key×V)),vs=[.ref c]/\I H c own kvs/\kvs.length<=1000/\(∀ H',kvs=[]->I H' c own kvs->cG own H H'->Q .non H') /\
  ∀ (a:aa) (n:List Int) (H':Hp),I H' c own kvs->cG own H H'->H' a=some (.tup (n.map V.int))->Least (kvs.map (·.1)) n->Q (.ref a) H'
def gPut (I:CK):Sp:=fun vs H Q _=>∃ (c b:aa) (own:List aa) (n:List Int) (v:V) (kvs:List (List Key×V)),vs=[.ref c,.ref b,v]/\I H c own kvs/\H b=some (.tup (n.map V.int))/\j8 200 n/\fZ kvs (kI n)=none/\kvs.length<=1000 /\
  ∀ H':Hp,I H' c own (fH kvs (kI n) v)->cG own H H'->Q .non H'
def ES (I:CK):Sp:=fun vs H Q _=>∃ (c b:aa) (own:List aa) (n:List Int) (kvs:List (List Key×V)),vs=[.ref c,.ref b]/\I H c own kvs/\H b=some (.tup (n.map V.int))/\j8 200 n/\kvs.length<=1000/\(fZ kvs (kI n)=none->Q .non H) /\
  ∀ (v:V) (H':Hp),fZ kvs (kI n)=some v->I H' c own (gf kvs (kI n))->cG own H H'->Q v H'
def ET (I:CK):Sp:=fun vs H Q _=>∃ (c:aa) (own:List aa) (kvs:List (List Key×V)),vs=[.ref c]/\I H c own kvs/\kvs.length<=1000/\(∀ H',kvs=[]->I H' c own kvs->cG own H H'->Q .non H') /\
  ∀ (a t:aa) (n:List Int) (v:V) (H':Hp),Least (kvs.map (·.1)) n->fZ kvs (kI n)=some v->H' a=some (.tup (n.map V.int))->H' t=some (.tup [.ref a,v])->I H' c own (gf kvs (kI n))->cG own H H'->Q (.ref t) H'
structure CkT (P:aO) (w:bj) (K:af) (mg:Str->Option ae) (base:cb) (CC:aa) (I:CK) (fS fLe fPu fT fLv:aa) (dS dLe dPu dT dLv:bG):Prop where
  ok:zG CC I
  cl:Cls K CC
  GS:bg P w K mg base CX0 1 fS dS ["self"] (IE I)
  bS:Binds K dS ["self"] []
  mS:gu K CC "size" fS
  GLe:bg P w K mg base CX0 4 fLe dLe ["self"] (zH I)
  bLe:Binds K dLe ["self"] []
  mLe:gu K CC "least" fLe
  GPu:bg P w K mg base CX0 4 fPu dPu ["self","key","thing"] (gPut I)
  bPu:Binds K dPu ["self","key","thing"] []
  mPu:gu K CC "put" fPu
  GT:bg P w K mg base CX0 4 fT dT ["self","key"] (ES I)
  bT:Binds K dT ["self","key"] []
  mT:gu K CC "take_out" fT
  GLv:bg P w K mg base CX0 5 fLv dLv ["self"] (ET I)
  bLv:Binds K dLv ["self"] []
  mLv:gu K CC "leave" fLv
theorem zI {c d r q e:aa} (h:e∈[d,q]):e∈[c,d,r,q]:=by
  rcases ak.mp h with h | h
  · rw [h]
    simp
  · rw [au.mp h]
    simp
def yt (CC:aa):CK:=fun H c own kvs=>∃ d r q,own=[c,d,r,q]/\Cal CC H c d r q kvs
theorem oS (CC:aa):zG CC (yt CC) where
  stay:=fun ⟨d,r,q,e,h⟩ s hn=>⟨d,r,q,e,h.stay s (by subst e; exact hn)⟩
  inst:=fun ⟨d,r,q,e,dx,_,_,h1,_⟩=>⟨dx,_,h1,fun m hm=>by
    simp only [ak,aX,or_false] at hm
    rcases hm with rfl | rfl | rfl | rfl | rfl <;> exact yn d r (by decide +kernel) (by decide +kernel)⟩
  ik:=fun ⟨d,r,q,e,_,_,ns,_,_,_,_,_,_,h7,_⟩=>h7.ik
  nd:=fun ⟨d,r,q,e,_,_,ns,_,_,_,_,_,_,h7,_⟩=>h7.nd
  own:=fun ⟨d,r,q,e,dx,as,ns,h1,h2,h3,h4,_⟩ b hb=>by
    subst e
    simp only [ak,aX,or_false] at hb
    rcases hb with rfl | rfl | rfl | rfl
    · exact ⟨_,h1,fun xs z=>by cases z⟩
    · exact ⟨_,h2,fun xs z=>by cases z⟩
    · exact ⟨_,h3,fun xs z=>by cases z⟩
    · exact ⟨_,h4,fun xs z=>by cases z⟩
section
variable {P:aO} {w:bj} {K:af} {mg:Str->Option ae} {base:cb} {fS fLe fPu fT fLv fP fPl fL fR CC:aa} {dS dLe dPu dT dLv fdP fdPl fdL dR:bG}
theorem AY (T:uy K mg CC) (B:Bl mg) (DP:Df K mg "put_in" j1 ["falling","thing"] fP fdP) (DPl:Df K mg "place_in" fJ ["falling","thing"] fPl fdPl) (DL:Df K mg "last_of" ia ["falling"] fL fdL)
    (FR:Fun K "row_for" "Calendar.row_for" dX fR dR) (bR:Binds K dR ["self","key"] []) (mR:gu K CC "row_for" fR)
    (FS:Fun K "size" "Calendar.size" fi fS dS) (bS:Binds K dS ["self"] []) (mS:gu K CC "size" fS)
    (FLe:Fun K "least" "Calendar.least" gA fLe dLe) (bLe:Binds K dLe ["self"] []) (mLe:gu K CC "least" fLe)
    (FPu:Fun K "put" "Calendar.put" iQ fPu dPu) (bPu:Binds K dPu ["self","key","thing"] []) (mPu:gu K CC "put" fPu)
    (FT:Fun K "take_out" "Calendar.take_out" dm fT dT) (bT:Binds K dT ["self","key"] []) (mT:gu K CC "take_out" fT)
    (FLv:Fun K "leave" "Calendar.leave" eX fLv dLv) (bLv:Binds K dLv ["self"] []) (mLv:gu K CC "leave" fLv):CkT P w K mg base CC (yt CC) fS fLe fPu fT fLv dS dLe dPu dT dLv where
  ok:=oS CC
  cl:=T.cl
  GS:=(Hy FS T B).imp fun vs H Q E ⟨c,own,kvs,e,⟨d,r,q,_,h⟩,k⟩=>⟨c,d,r,q,kvs,e,h,k⟩
  bS:=bS
  mS:=mS
  GLe:=((yq FLe T DL).imp fun vs H Q E ⟨c,own,kvs,e,⟨d,r,q,e2,h⟩,_,k1,k2⟩=>⟨c,d,r,q,kvs,e,h,fun z=>k1 H z ⟨d,r,q,e2,h⟩ (cG.refl _ _),fun a n ha le=>k2 a n H ⟨d,r,q,e2,h⟩ (cG.refl _ _) ha le⟩).mono (by decide)
  bLe:=bLe
  mLe:=mLe
  GPu:=((J1 FPu T B DP DPl FR bR mR).imp fun vs H Q E ⟨c,b,own,n,v,kvs,e,⟨d,r,q,e2,h⟩,hb,_,hv,hl,k⟩=>⟨c,d,r,q,b,n,v,kvs,e,h,hb,hv,cv hl (by decide),fun H' h' s'=>k H' ⟨d,r,q,e2,h'⟩ (s'.mono fun b hb=>by rw [e2]; exact zI hb)⟩).mono (by decide)
  bPu:=bPu
  mPu:=mPu
  GT:=((AX FT T B DPl FR bR mR).imp fun vs H Q E ⟨c,b,own,n,kvs,e,⟨d,r,q,e2,h⟩,hb,_,hl,k1,k2⟩=>⟨c,d,r,q,b,n,kvs,e,h,hb,cv hl (by decide),k1,fun v H' ev h' s'=>k2 v H' ev ⟨d,r,q,e2,h'⟩ (s'.mono fun b hb=>by rw [e2]; exact zI hb)⟩).mono (by decide)
  bT:=bT
  mT:=mT
  GLv:=((ER FLv T B DPl DL FR bR mR FLe bLe mLe FT bT mT).imp fun vs H Q E ⟨c,own,kvs,e,⟨d,r,q,e2,h⟩,hl,k1,k2⟩=>⟨c,d,r,q,kvs,e,h,cv hl (by decide),fun z=>k1 H z ⟨d,r,q,e2,h⟩ (cG.refl _ _),
    fun a t n v H' le ev ha ht h' s'=>k2 a t n v H' le ev ha ht ⟨d,r,q,e2,h'⟩ (s'.mono fun b hb=>by rw [e2]; exact zI hb)⟩).mono (by decide)
  bLv:=bLv
  mLv:=mLv
end
end My
namespace My
open PySem L2
theorem boot_min:eE "min"=some (.builtin "min"):=by decide +kernel
theorem J2 {H:Hp} {a b:aa} {n:List Int} (ha:H a=some (.tup (n.map V.int))) (hb:H b=some (.tup (n.map V.int))):TEq H 1 (.ref a) (.ref b):=by
  refine .inr (.inr ⟨a,b,_,_,rfl,rfl,ha,hb,?_⟩)
  have all:∀ n:List Int,aW (TEq H 0) (n.map V.int) (n.map V.int):=by
    intro n
    induction n with
    | nil=>exact .nil
    | cons x r ih=>exact .cons ⟨True.intro,rfl⟩ ih
  exact all n
end My
namespace My
open PySem L2
structure WhT (K:af) (mg:Str->Option ae) (CW:aa):Prop where
  cl:Cls K CW
  nT:dG K CW "things"
  nR:dG K CW "rows"
  nS:dG K CW "span"
  nE:dG K CW "earliest"
  mgW:mg "Wheel"=some (.ref CW)
  rows:∃ t,mg "ROWS"=some (.int 64 t)
def wF (d r:aa) (sp e:Int):List (Str×V):=[("things",.ref d),("rows",.ref r),("span",.int sp),("earliest",.int e)]
theorem J3:("things":Str)≠"rows":=by decide +kernel
theorem J4:("things":Str)≠"span":=by decide +kernel
theorem HC:("things":Str)≠"earliest":=by decide +kernel
theorem J6:("rows":Str)≠"span":=by decide +kernel
theorem HD:("rows":Str)≠"earliest":=by decide +kernel
theorem HE:("span":Str)≠"earliest":=by decide +kernel
theorem yu (d r:aa) (sp e:Int):wF d r sp e=cM "earliest" (.int e) (cM "span" (.int sp) (cM "rows" (.ref r) (cM "things" (.ref d) []))):=by
  simp only [wF,cM,if_neg J3,if_neg J4,if_neg HC,if_neg J6,if_neg HD,if_neg HE]
theorem EU (d r:aa) (sp e e':Int):cM "earliest" (.int e') (wF d r sp e)=wF d r sp e':=by
  simp only [wF,cM,if_neg HC,if_neg HD,if_neg HE,if_true]
theorem Ka (d r r0:aa) (sp:Int):cM "earliest" (.int 0) (cM "span" (.int sp) (cM "rows" (.ref r) (cF d r0)))=wF d r sp 0:=by
  simp only [wF,cF,cM,if_neg J3,if_neg J4,if_neg HC,if_neg J6,if_neg HD,if_neg HE,if_true]
theorem EV (d r:aa) (sp e:Int):(wF d r sp e).lookup ("things":Str)=some (.ref d):=by
  rw [yu,cH,if_neg HC,cH,if_neg J4,cH,if_neg J3,cH,if_pos rfl]
theorem Kb (d r:aa) (sp e:Int):(wF d r sp e).lookup ("rows":Str)=some (.ref r):=by
  rw [yu,cH,if_neg HD,cH,if_neg J6,cH,if_pos rfl]
theorem wF_s (d r:aa) (sp e:Int):(wF d r sp e).lookup ("span":Str)=some (.int sp):=by
  rw [yu,cH,if_neg HE,cH,if_pos rfl]
theorem Kc (d r:aa) (sp e:Int):(wF d r sp e).lookup ("earliest":Str)=some (.int e):=by
  rw [yu,cH,if_pos rfl]
theorem tR (d r:aa) (sp e:Int) {m:Str} (h1:m≠"things") (h2:m≠"rows") (h3:m≠"span") (h4:m≠"earliest"):(wF d r sp e).lookup m=none:=by
  rw [yu,cH,if_neg h4,cH,if_neg h3,cH,if_neg h2,cH,if_neg h1]
  rfl
theorem zJ (d r:aa) (sp e:Int):(wF d r sp e).length < 1000:=by show 4 < 1000; decide
def c8 (sp:Int) (n:List Int):Int:=n.headD 0 / sp
def d5 (sp:Int) (n:List Int):Nat:=(c8 sp n % 64).toNat
theorem j9 (sp:Int) (n:List Int):d5 sp n < 64:=by
  unfold d5
  have:=gj (c8 sp n) (show (0:Int) < 64 by decide)
  have:=gx (c8 sp n) (show (64:Int)≠0 by decide)
  omega
theorem vy (sp:Int) (n:List Int):((d5 sp n:Nat):Int)=c8 sp n % 64:=by
  unfold d5
  have:=gx (c8 sp n) (show (64:Int)≠0 by decide)
  omega
theorem tS {sp:Int} {n m:List Int} (h:1<=sp) (kn:∃ m,j8 m n) (km:∃ k,j8 k m) (l:c8 sp n < c8 sp m):HT.lexLt n m=true:=by
  obtain ⟨_,a,b,c,e,rfl,_⟩:=kn
  obtain ⟨_,a',b',c',e',rfl,_⟩:=km
  have l:a / sp < a' / sp:=l
  have z:a < a':=by
    apply Int.lt_of_not_ge
    intro g
    have:=Int.ediv_le_ediv (show 0 < sp by omega) g
    omega
  rw [HT.lexLt_cons,if_neg (by omega)]
  exact decide_eq_true z
theorem tT {sp:Int} {n m:List Int} (h:1<=sp) (kn:∃ m,j8 m n) (km:∃ k,j8 k m) (l:HT.lexLt n m=false):c8 sp m<=c8 sp n:=by
  apply Int.le_of_not_gt
  intro g
  rw [tS h kn km g] at l
  cases l
theorem tU {sp:Int} {n:List Int} {k:Int} (h:1<=sp) (kn:j8 k n):-1500<=c8 sp n/\c8 sp n<=1000000000000:=by
  obtain ⟨a,b,c,e,rfl,h1,h2,_⟩:=kn
  show -1500<=a / sp/\a / sp<=1000000000000
  constructor
  · apply Int.le_ediv_of_mul_le (by omega)
    have:(-1500) * sp<=-1500:=by
      have:=Int.mul_le_mul_of_nonpos_left (a:=(-1500:Int)) (b:=sp) (c:=1) (by decide) (by omega)
      omega
    omega
  · apply Int.ediv_le_of_le_mul (by omega)
    have:(1000000000000:Int) * 1<=1000000000000 * sp:=Int.mul_le_mul_of_nonneg_left (by omega) (by decide)
    omega
structure iI (CW:aa) (H:Hp) (c dx d r:aa) (qs:List aa) (As:Nat->List aa) (R:Nat->List (List Int)) (sp e:Int) (kvs:List (List Key×V)):Prop where
  hc:H c=some (.ins CW dx (wF d r sp e))
  hd:H d=some (.dT kvs)
  hr:H r=some (.lst (qs.map V.ref))
  hq:∀ (i:Nat) (q:aa),qs[i]?=some q->H q=some (.lst ((As i).map V.ref))
  ht:∀ i,i < 64->fu H (As i) (R i)
  hf:∀ i,i < 64->j7 (R i)
  l64:qs.length=64
  ndq:qs.Nodup
  rq:¬ r∈qs
  mem:∀ i,i < 64->∀ n∈R i,j8 200 n/\d5 sp n=i
  key:∀ k:List Key,k∈kvs.map (·.1)↔∃ i,i < 64/\∃ n∈R i,k=kI n
  nd:(kvs.map (·.1)).Nodup
  early:∀ i,i < 64->∀ n∈R i,e<=c8 sp n
  sp1:1<=sp/\sp<=1000
  e0:-1500<=e/\e<=1000000000000
def whK (CW:aa):CK:=fun H c own kvs=>∃ dx d r qs As R sp e,own=c :: d :: r :: qs/\iI CW H c dx d r qs As R sp e kvs
section
variable {CW c dx d r:aa} {H:Hp} {qs:List aa} {As:Nat->List aa} {R:Nat->List (List Int)} {sp e:Int} {kvs:List (List Key×V)}
theorem iI.memK (h:iI CW H c dx d r qs As R sp e kvs) {n:List Int}:kI n∈kvs.map (·.1)↔n∈R (d5 sp n):=by
  rw [h.key]
  constructor
  · rintro ⟨i,hi,m,hm,z⟩
    have z:=e8 z
    subst z
    rw [(h.mem i hi n hm).2]
    exact hm
  · intro hn
    exact ⟨_,j9 sp n,n,hn,rfl⟩
theorem iI.ik (h:iI CW H c dx d r qs As R sp e kvs):IntKeys kvs:=fun k hk=>by
  obtain ⟨_,_,n,_,z⟩:=(h.key k).mp hk
  exact ⟨n,z⟩
theorem yv {α:Type} [DecidableEq α]:∀ {l m:List α},l.Nodup->(∀ x∈l,x∈m)->l.length<=m.length
  | [],_,_,_=>bA _
  | x :: r,m,nd,h=>by
    obtain ⟨h1,h2⟩:=bh.mp nd
    have hx:=h x aJ
    have ih:=yv (l:=r) (m:=m.erase x) h2 fun y hy=>(AB (fun (z:y=x)=>h1 (by rw [<- z]; exact hy))).mpr (h y (aj _ hy))
    have le:=xg hx
    have:=nA hx
    rw [aL]
    omega
theorem j7.nodup {ns:List (List Int)} (h:j7 ns):ns.Nodup:=vz (fun {a b} z e=>by rw [e,HT.lx_irr] at z; cases z) h
theorem iI.short (h:iI CW H c dx d r qs As R sp e kvs) {i:Nat} (hi:i < 64):(R i).length<=kvs.length:=by
  have z:=yv (l:=(R i).map kI) (m:=kvs.map (·.1)) ?_ ?_
  · rw [av,av] at z
    exact z
  · exact EW.mpr (vz (fun z q=>z (e8 q)) (h.hf i hi).nodup)
  · intro k hk
    obtain ⟨n,hn,rfl⟩:=bH.mp hk
    exact (h.key _).mpr ⟨i,hi,n,hn,rfl⟩
theorem iI.ncd (h:iI CW H c dx d r qs As R sp e kvs):c≠d:=fc h.hc h.hd (by intro z; cases z)
theorem iI.ncr (h:iI CW H c dx d r qs As R sp e kvs):c≠r:=fc h.hc h.hr (by intro z; cases z)
theorem iI.ndr (h:iI CW H c dx d r qs As R sp e kvs):d≠r:=fc h.hd h.hr (by intro z; cases z)
theorem iI.ncq (h:iI CW H c dx d r qs As R sp e kvs) {i:Nat} {q:aa} (hq:qs[i]?=some q):c≠q:=fc h.hc (h.hq i q hq) (by intro z; cases z)
theorem iI.ndq' (h:iI CW H c dx d r qs As R sp e kvs) {i:Nat} {q:aa} (hq:qs[i]?=some q):d≠q:=fc h.hd (h.hq i q hq) (by intro z; cases z)
theorem iI.nrq (h:iI CW H c dx d r qs As R sp e kvs) {i:Nat} {q:aa} (hq:qs[i]?=some q):r≠q:=fun z=>h.rq (z ▸ aM hq)
theorem iI.stay {H':Hp} {ps:List aa} (h:iI CW H c dx d r qs As R sp e kvs) (s:cG ps H H') (hn:∀ b∈c :: d :: r :: qs,¬ b∈ps):iI CW H' c dx d r qs As R sp e kvs:=
  ⟨s.keep _ _ h.hc (hn c (by simp)),s.keep _ _ h.hd (hn d (by simp)),s.keep _ _ h.hr (hn r (by simp)),fun i q hq=>s.keep _ _ (h.hq i q hq) (hn q (by have:=aM hq; simp [this])),fun i hi=>(h.ht i hi).keep s.tup,h.hf,h.l64,h.ndq,h.rq,h.mem,h.key,h.nd,h.early,h.sp1,h.e0⟩
theorem iI.set {e':Int} (h:iI CW H c dx d r qs As R sp e kvs) (he:∀ i,i < 64->∀ n∈R i,e'<=c8 sp n) (e0:-1500<=e'/\e'<=1000000000000):iI CW (upd H c (.ins CW dx (wF d r sp e'))) c dx d r qs As R sp e' kvs:=by
  have s:cG [c] H (upd H c (.ins CW dx (wF d r sp e'))):=cG.upd (by simp) h.hc (fun xs z=>by cases z)
  exact ⟨ah,(aG (cj h.ncd)).trans h.hd,(aG (cj h.ncr)).trans h.hr,fun i q hq=>(aG (cj (h.ncq hq))).trans (h.hq i q hq),fun i hi=>(h.ht i hi).keep s.tup,h.hf,h.l64,h.ndq,h.rq,h.mem,h.key,h.nd,he,h.sp1,e0⟩
end
theorem oC (CW:aa):zG CW (whK CW) where
  stay:=fun ⟨dx,d,r,qs,As,R,sp,e,eo,h⟩ s hn=>⟨dx,d,r,qs,As,R,sp,e,eo,h.stay s (by subst eo; exact hn)⟩
  inst:=fun ⟨dx,d,r,qs,As,R,sp,e,eo,h⟩=>⟨dx,_,h.hc,fun m hm=>by
    simp only [ak,aX,or_false] at hm
    rcases hm with rfl | rfl | rfl | rfl | rfl <;> exact tR d r sp e (by decide +kernel) (by decide +kernel) (by decide +kernel) (by decide +kernel)⟩
  ik:=fun ⟨dx,d,r,qs,As,R,sp,e,eo,h⟩=>h.ik
  nd:=fun ⟨dx,d,r,qs,As,R,sp,e,eo,h⟩=>h.nd
  own:=fun ⟨dx,d,r,qs,As,R,sp,e,eo,h⟩ b hb=>by
    subst eo
    rcases ak.mp hb with rfl | hb
    · exact ⟨_,h.hc,fun xs z=>by cases z⟩
    · rcases ak.mp hb with rfl | hb
      · exact ⟨_,h.hd,fun xs z=>by cases z⟩
      · rcases ak.mp hb with rfl | hb
        · exact ⟨_,h.hr,fun xs z=>by cases z⟩
        · obtain ⟨i,hi⟩:=bY hb
          exact ⟨_,h.hq i b hi,fun xs z=>by cases z⟩
end My
namespace My
open PySem L2
def tTru (K:af) (ta:TE):L2.TT:=fun σ H Q=>ta σ H fun x H'=>∃ k,I9 K x H' k/\Q k H'
theorem BR {X:Cx} {a:cA} {ta:TE} (K:af) (hK:X.K=K) (ha:PE X a ta) (he:∀ whole,vH a X.env whole=(do let v <- whole; nh a.pos; jx [v] (yM v))) :
    PT X a (tTru K ta):=by
  subst hK
  exact pZ ha he
theorem cb_i {r:List V->Hp->VK->Prop} {t:TA} {σ:St} {H:Hp} {Q:VK} (h:t σ H fun vs H1=>r vs H1 Q):tCB r t σ H Q:=h
theorem fld_i {K:af} {ta tv:TE} {f:Str} {D:jS} {σ:St} {H:Hp} (h:tv σ H fun v H1=>ta σ H1 fun x H2=>∃ a C dx fs,x=.ref a/\H2 a=some (.ins C dx fs)/\Cls K C/\dG K C f/\fs.length < 1000/\D.nx σ (upd H2 a (.ins C dx (cM f v fs)))):sFld K ta tv f D σ H:=h
theorem yw {K:af} {a c C dx:aa} {fs:List (Str×V)} {f:Str} {xs:List V} {n i:Nat} {g:TG} {tc:L2.TT} {te:TE} {σ:St} {H:Hp} {Q:VK} (hv:σ[i]?=some (some (.ref c))) (hc:H c=some (.ins C dx fs)) (cl:Cls K C) (na:dG K C f) (lk:fs.lookup f=some (.ref a))
    (hx:SqL K H a xs) (Pv:Nat->List V->Hp->Prop) (h0:Pv 0 [] H) (hl:∀ i ys H,i<=xs.length->Pv i ys H->SqL K H a xs/\ys.length < az)
    (hs:∀ i x ys H,xs[i]?=some x->Pv i ys H->g x (b7 n none++σ) H fun σ2 H2=>σ2.drop n=σ/\tc σ2 H2 fun b H3=>if b=true then te σ2 H3 fun y H4=>Pv (i + 1) (ys++[y]) H4 else Pv (i + 1) ys H3)
    (hd:∀ ys H,Pv xs.length ys H->∀ p,H p=none->Q (.ref p) (upd H p (.lst ys))):qg n (CH K (FU K (t7 i) f)) g tc te σ H Q:=
  ⟨.ref c,hv,c,C,dx,fs,.ref a,rfl,hc,cl,na,lk,a,rfl,⟨xs,hx⟩,qV Pv h0 hl hs hd⟩
theorem BS {n:Nat} {M:Int} (m:Nat) (hm:M.toNat=m) {g:TG} {tc:L2.TT} {te:TE} {σ:St} {H:Hp} {Q:VK} (h1:-(2 ^ 62)<=M) (h2:M < 2 ^ 62) (Pv:Nat->List V->Hp->Prop) (h0:Pv 0 [] H) (hl:∀ i ys H,i<=m->Pv i ys H->ys.length < az)
    (hs:∀ i ys H,i < m->Pv i ys H->g (.int (0 + i)) (b7 n none++σ) H fun σ2 H2=>σ2.drop n=σ/\tc σ2 H2 fun b H3=>if b=true then te σ2 H3 fun y H4=>Pv (i + 1) (ys++[y]) H4 else Pv (i + 1) ys H3)
    (hd:∀ ys H,Pv m ys H->∀ p,H p=none->Q (.ref p) (upd H p (.lst ys))):qg n (zW (iV (tC (.int M)) rK)) g tc te σ H Q:=by
  subst hm
  exact ⟨M,rfl,h1,h2,xT Pv h0 hl hs hd⟩
section
variable {P:aO} {w:bj} {K:af} {mg:Str->Option ae} {base:cb} {f fP fPl fL fR fSt fO fLe fT CW CC fI:aa} {fd fdP fdPl fdL fdR fdSt fdO fdLe fdT fdI:bG}
def yy (CW:aa):Sp:=fun vs H Q _=>∃ (c dx d r b:aa) (sp e:Int) (n:List Int),vs=[.ref c,.ref b]/\H c=some (.ins CW dx (wF d r sp e))/\1<=sp/\sp<=1000/\H b=some (.tup (n.map V.int))/\(∃ m,j8 m n)/\Q (.int (c8 sp n)) H
theorem scSo:bD ["self","key"] ["self","key"] (aP c7):=⟨rfl,rfl,rfl,by decide +kernel,rfl,by decide +kernel,by decide +kernel⟩
theorem wN (F:Fun K "stretch_of" "Wheel.stretch_of" c7 f fd) (T:WhT K mg CW):bg P w K mg base CX0 1 f fd ["self","key"] (yy CW):=by
  refine F.ok scSo (fun vs H Q E h=>?_) (fun cdv A outer s H vs Q E hr h=>?_)
  · obtain ⟨c,dx,d,r,b,sp,e,n,rfl,_⟩:=h
    rfl
  obtain ⟨c,dx,d,r,b,sp,e,n,rfl,hc,s1,s2,hb,⟨m,a,b',c',e',rfl,_⟩,k⟩:=h
  refine ⟨_,aF (bV (cS qh (bP b8 (pv 1) aD (fun _ _=>rfl)) (cq (pv 0) rfl))),?_⟩
  exact ⟨_,rfl,b,_,_,_,rfl,rfl,SqT.of hb,rfl,_,rfl,c,CW,dx,_,_,rfl,hc,T.cl,T.nS,wF_s d r sp e,_,_,rfl,rfl,⟨by omega,by omega⟩,k⟩
def zK (CW:aa):Sp:=fun vs H Q _=>∃ (c dx d r b q:aa) (qs:List aa) (sp e:Int) (n:List Int),vs=[.ref c,.ref b]/\H c=some (.ins CW dx (wF d r sp e))/\1<=sp/\sp<=1000/\H b=some (.tup (n.map V.int))/\(∃ m,j8 m n)/\H r=some (.lst (qs.map V.ref))/\qs[d5 sp n]?=some q/\Q (.ref q) H
theorem scRw:bD ["self","key"] ["self","key"] (aP gp):=⟨rfl,rfl,rfl,by decide +kernel,rfl,by decide +kernel,by decide +kernel⟩
theorem AZ (F:Fun K "row_for" "Wheel.row_for" gp f fd) (T:WhT K mg CW) (FS:Fun K "stretch_of" "Wheel.stretch_of" c7 fSt fdSt) (bS:Binds K fdSt ["self","key"] []) (mS:gu K CW "stretch_of" fSt):bg P w K mg base CX0 2 f fd ["self","key"] (zK CW):=by
  have GS:bg P w K mg base CX0 1 fSt fdSt ["self","key"] (yy CW):=wN FS T
  obtain ⟨tk,hrows⟩:=T.rows
  refine F.ok scRw (fun vs H Q E h=>?_) (fun cdv A outer s H vs Q E hr h=>?_)
  · obtain ⟨c,dx,d,r,b,q,qs,sp,e,n,rfl,_⟩:=h
    rfl
  obtain ⟨c,dx,d,r,b,q,qs,sp,e,n,rfl,hc,s1,s2,hb,ko,hr',hq,k⟩:=h
  refine ⟨_,aF (bV (bP eY (cq (pv 0) rfl) (cS mh (eI (pv 0) T.cl mS GS hr bS .nil cL (ai (pv 1) ay)) (pX (v:=.int 64) (by rfl) hrows ⟨_,rfl⟩)) (fun _ _=>rfl))),?_⟩
  refine ⟨_,rfl,c,CW,dx,_,_,rfl,hc,T.cl,T.nR,Kb d r sp e,_,rfl,c,dx,_,rfl,hc,tR d r sp e (by decide +kernel) (by decide +kernel) (by decide +kernel) (by decide +kernel),_,rfl,c,dx,d,r,b,sp,e,n,rfl,hc,s1,s2,hb,ko,?_⟩
  refine ⟨_,_,rfl,rfl,(by show (0:Int) < 64; decide),r,_,_,_,rfl,rfl,SqL.of hr',?_,k⟩
  rw [<- vy]
  exact jG (by rw [bf,hq]; rfl)
theorem EX (F:Fun K "size" "Calendar.size" fi f fd) (T:WhT K mg CW) (B:Bl mg):bg P w K mg base CX0 1 f fd ["self"] (IE (whK CW)):=by
  refine F.ok scSz (fun vs H Q E h=>?_) (fun cdv A outer s H vs Q E hr h=>?_)
  · obtain ⟨c,own,kvs,rfl,_⟩:=h
    rfl
  obtain ⟨c,own,kvs,rfl,⟨dx,d,r,qs,As,R,sp,e,eo,h⟩,k⟩:=h
  refine ⟨_,aF (bV (cZ uZ (by rfl) B.len df (ai (cq (pv 0) rfl) ay))),?_⟩
  exact ⟨_,rfl,c,CW,dx,_,_,rfl,h.hc,T.cl,T.nT,EV d r sp e,d,kvs,rfl,h.hd,k⟩
abbrev EY {α:Type} (R:Nat->α) (i:Nat) (x:α):Nat->α:=fun j=>if j=i then x else R j
theorem iS {α:Type} (R:Nat->α) (i:Nat) (x:α):EY R i x i=x:=if_pos rfl
theorem jd {α:Type} (R:Nat->α) {i j:Nat} (x:α) (h:j≠i):EY R i x j=R j:=if_neg h
theorem iI.row {CW c dx d r q:aa} {H:Hp} {qs as':List aa} {As:Nat->List aa} {R:Nat->List (List Int)} {sp e:Int} {kvs kvs':List (List Key×V)} {i:Nat} {ns':List (List Int)} (h:iI CW H c dx d r qs As R sp e kvs) (hi:i < 64) (hq:qs[i]?=some q)
    (ht:fu H as' ns') (hf:j7 ns') (hm:∀ n∈ns',j8 200 n/\d5 sp n=i) (he:∀ n∈ns',e<=c8 sp n) (nd:(kvs'.map (·.1)).Nodup) (hk:∀ k:List Key,k∈kvs'.map (·.1)↔∃ j,j < 64/\∃ n∈EY R i ns' j,k=kI n)
    (H1 H2:Hp) (e1:H1=upd (upd H d (.dT kvs')) q (.lst (as'.map V.ref))\/H1=upd (upd H q (.lst (as'.map V.ref))) d (.dT kvs')):iI CW H1 c dx d r qs (EY As i as') (EY R i ns') sp e kvs':=by
  have ncq:=h.ncq hq
  have ndq:=h.ndq' hq
  have nrq:=h.nrq hq
  have at_:∀ b,b≠d->b≠q->H1 b=H b:=fun b b1 b2=>by
    rcases e1 with e1 | e1 <;> rw [e1]
    · rw [aG b2,aG b1]
    · rw [aG b1,aG b2]
  have ad:H1 d=some (.dT kvs'):=by
    rcases e1 with e1 | e1 <;> rw [e1]
    · rw [aG ndq]
      exact ah
    · exact ah
  have aq:H1 q=some (.lst (as'.map V.ref)):=by
    rcases e1 with e1 | e1 <;> rw [e1]
    · exact ah
    · rw [aG (cj ndq)]
      exact ah
  have tp:∀ b xs,H b=some (.tup xs)->H1 b=some (.tup xs):=fun b xs hb=>by
    rw [at_ b (fc hb h.hd (by intro z; cases z)) (fc hb (h.hq i q hq) (by intro z; cases z))]
    exact hb
  refine ⟨(at_ c h.ncd ncq).trans h.hc,ad,(at_ r (cj h.ndr) nrq).trans h.hr,fun j q' hq'=>?_,fun j hj=>?_,fun j hj=>?_,h.l64,h.ndq,h.rq,fun j hj n hn=>?_,hk,nd,fun j hj n hn=>?_,h.sp1,h.e0⟩
  · by_cases z:j=i
    · subst z
      rw [hq] at hq'
      cases hq'
      rw [iS]
      exact aq
    · rw [jd _ _ z,at_ q' (cj (h.ndq' hq')) (fun y=>z ?_)]
      · exact h.hq j q' hq'
      · subst y
        have lj:=(aw.mp hq').1
        exact (List.getElem?_inj lj h.ndq).mp (hq'.trans hq.symm)
  · by_cases z:j=i
    · subst z
      rw [iS,iS]
      exact ht.keep tp
    · rw [jd _ _ z,jd _ _ z]
      exact (h.ht j hj).keep tp
  · by_cases z:j=i
    · subst z
      rw [iS]
      exact hf
    · rw [jd _ _ z]
      exact h.hf j hj
  · by_cases z:j=i
    · subst z
      rw [iS] at hn
      exact hm n hn
    · rw [jd _ _ z] at hn
      exact h.mem j hj n hn
  · by_cases z:j=i
    · subst z
      rw [iS] at hn
      exact he n hn
    · rw [jd _ _ z] at hn
      exact h.early j hj n hn
theorem scPw:bD ["self","key","thing"] ["self","key","thing"] (aP kR):=⟨rfl,rfl,rfl,by decide +kernel,rfl,by decide +kernel,by decide +kernel⟩
theorem HF (F:Fun K "put" "Wheel.put" kR f fd) (T:WhT K mg CW) (B:Bl mg) (mn:mg "min"=none) (DP:Df K mg "put_in" j1 ["falling","thing"] fP fdP) (DPl:Df K mg "place_in" fJ ["falling","thing"] fPl fdPl)
    (FS:Fun K "stretch_of" "Wheel.stretch_of" c7 fSt fdSt) (bS:Binds K fdSt ["self","key"] []) (mS:gu K CW "stretch_of" fSt) (FR:Fun K "row_for" "Wheel.row_for" gp fR fdR) (bR:Binds K fdR ["self","key"] []) (mR:gu K CW "row_for" fR) :
    bg P w K mg base CX0 4 f fd ["self","key","thing"] (gPut (whK CW)):=by
  have GP:bg P w K mg base CX0 2 fP fdP ["falling","thing"] wL:=yo DP DPl B
  have GR:bg P w K mg base CX0 2 fR fdR ["self","key"] (zK CW):=AZ FR T FS bS mS
  have GS:bg P w K mg base CX0 1 fSt fdSt ["self","key"] (yy CW):=wN FS T
  refine F.ok scPw (fun vs H Q E h=>?_) (fun cdv A outer s H vs Q E hr h=>?_)
  · obtain ⟨c,b,own,n,v,kvs,rfl,_⟩:=h
    rfl
  obtain ⟨c,b,own,n,v,kvs,rfl,⟨dx,d,r,qs,As,R,sp,e,eo,h⟩,hb,ko,hv,hl,k⟩:=h
  have hu:=ji hr
  have r1:dN 1 _:=hr.mono (by decide)
  have r2:dN 2 _:=hr.mono (by decide)
  refine ⟨_,ax (fk (pv 0) (cZ (uH rfl) (by rfl) mn boot_min (ai (cq (pv 0) rfl) (ai (eI (pv 0) T.cl mS GS r1 bS .nil cL (ai (pv 1) ay)) ay))) rfl)
    (ax (jI hu (cq (pv 0) rfl) (pv 1) (pv 2) rfl)
    (aF (c5 (cw GP r2 (by rfl) DP.m DP.F.kp DP.b .nil cL (ai (eI (pv 0) T.cl mR GR r2 bR .nil cL (ai (pv 1) ay)) (ai (pv 1) ay)))))),?_⟩
  have nom:∀ e',(wF d r sp e').lookup ("stretch_of":Str)=none:=fun e'=>tR d r sp e' (by decide +kernel) (by decide +kernel) (by decide +kernel) (by decide +kernel)
  have nom2:∀ e',(wF d r sp e').lookup ("row_for":Str)=none:=fun e'=>tR d r sp e' (by decide +kernel) (by decide +kernel) (by decide +kernel) (by decide +kernel)
  refine ⟨_,rfl,c,CW,dx,_,_,rfl,h.hc,T.cl,T.nE,Kc d r sp e,_,rfl,c,dx,_,rfl,h.hc,nom e,_,rfl,c,dx,d,r,b,sp,e,n,rfl,h.hc,h.sp1.1,h.sp1.2,hb,⟨_,ko⟩,e,c8 sp n,rfl,?_⟩
  refine ⟨_,rfl,c,CW,dx,_,rfl,h.hc,T.cl,T.nE,(zJ d r sp e),?_⟩
  rw [EU]
  obtain ⟨e',he'⟩:∃ e',e'=(if c8 sp n < e then c8 sp n else e):=⟨_,rfl⟩
  rw [<- he']
  have bd:=tU h.sp1.1 ko
  have le1:e'<=e/\e'<=c8 sp n/\-1500<=e'/\e'<=1000000000000:=by
    have:=h.e0
    rw [he']
    split <;> omega
  have h1:=h.set (e':=e') (fun i hi m hm=>Int.le_trans le1.1 (h.early i hi m hm)) ⟨le1.2.2.1,le1.2.2.2⟩
  have s1:cG [c] H (upd H c (.ins CW dx (wF d r sp e'))):=cG.upd (by simp) h.hc (fun xs z=>by cases z)
  generalize hH1:upd H c (.ins CW dx (wF d r sp e'))=H1 at h1 s1
  have hb1:=s1.tup _ _ hb
  have eb:H1 b=some (.tup ((kI n).map kV)):=by rw [wx]; exact hb1
  refine ⟨_,rfl,_,rfl,c,CW,dx,_,_,rfl,h1.hc,T.cl,T.nT,EV d r sp e',_,rfl,d,_,rfl,o7.t (k:=kI n) h1.hd eb (bz hl (by decide)),?_⟩
  have hi:=j9 sp n
  obtain ⟨q,hq⟩:∃ q,qs[d5 sp n]?=some q:=⟨_,aC (by rw [h.l64]; exact hi)⟩
  have s2:cG [d] H1 (upd H1 d (.dT (fH kvs (kI n) v))):=cG.upd (by simp) h1.hd (fun xs z=>by cases z)
  have g1:upd H1 d (.dT (fH kvs (kI n) v)) c=_:=(aG h1.ncd).trans h1.hc
  have g3:upd H1 d (.dT (fH kvs (kI n) v)) r=_:=(aG (cj h1.ndr)).trans h1.hr
  have g4:upd H1 d (.dT (fH kvs (kI n) v)) q=_:=(aG (cj (h1.ndq' hq))).trans (h1.hq _ q hq)
  have sh:=h.short hi
  have la:=(h1.ht _ hi).length
  refine ⟨_,rfl,c,dx,_,rfl,g1,nom2 e',_,rfl,c,dx,d,r,b,q,qs,sp,e',n,rfl,g1,h.sp1.1,h.sp1.2,s2.tup _ _ hb1,⟨_,ko⟩,g3,hq,_,rfl,q,b,As (d5 sp n),R (d5 sp n),n,rfl,g4,(h1.ht _ hi).keep s2.tup,h1.hf _ hi,s2.tup _ _ hb1,by omega,fun i p=>?_⟩
  have nn:¬ n∈R (d5 sp n):=fun z=>qc hv (h.memK.mpr z)
  have s3:cG [q] (upd H1 d (.dT (fH kvs (kI n) v))) (upd (upd H1 d (.dT (fH kvs (kI n) v))) q (.lst (((As (d5 sp n)).take i++b :: (As (d5 sp n)).drop i).map V.ref))):=cG.upd (by simp) g4 (fun xs z=>by cases z)
  refine k _ ⟨dx,d,r,qs,_,_,sp,e',eo,h1.row hi hq (ns':=(R (d5 sp n)).take i++n :: (R (d5 sp n)).drop i) (as':=(As (d5 sp n)).take i++b :: (As (d5 sp n)).drop i) (((h1.ht _ hi).take i).append (.cons hb1 ((h1.ht _ hi).drop i))) ((h1.hf _ hi).put p nn)
    (fun m hm=>?_) (fun m hm=>?_) (Ad v h.nd hv) (fun k=>?_) _ H (.inl rfl)⟩ ?_
  · rcases kZ.mp hm with z | z
    · subst z
      exact ⟨ko,rfl⟩
    · exact h.mem _ hi m z
  · rcases kZ.mp hm with z | z
    · subst z
      exact le1.2.1
    · exact h1.early _ hi m z
  · rw [lK v hv,ba,aU,h.key]
    constructor
    · rintro (⟨j,hj,m,hm,z⟩ | z)
      · by_cases ej:j=d5 sp n
        · subst ej
          exact ⟨_,hi,m,by rw [iS]; exact kZ.mpr (.inr hm),z⟩
        · exact ⟨j,hj,m,by rw [jd _ _ ej]; exact hm,z⟩
      · exact ⟨_,hi,n,by rw [iS]; exact kZ.mpr (.inl rfl),au.mp z⟩
    · rintro ⟨j,hj,m,hm,z⟩
      by_cases ej:j=d5 sp n
      · subst ej
        rw [iS] at hm
        rcases kZ.mp hm with y | y
        · subst y
          exact .inr (au.mpr z)
        · exact .inl ⟨_,hi,m,y,z⟩
      · rw [jd _ _ ej] at hm
        exact .inl ⟨j,hj,m,hm,z⟩
  · subst eo
    refine (s1.mono fun b hb=>?_).trans ((s2.mono fun b hb=>?_).trans (s3.mono fun b hb=>?_))
    · rw [au.mp hb]; simp
    · rw [au.mp hb]; simp
    · rw [au.mp hb]
      have:=aM hq
      simp [this]
end
end My
namespace My
open PySem L2
section
variable {P:aO} {w:bj} {K:af} {mg:Str->Option ae} {base:cb} {f fP fPl fL fR fSt fO fLe fT CW CC fI:aa} {fd fdP fdPl fdL fdR fdSt fdO fdLe fdT fdI:bG}
theorem EZ (F:Fun K "take_out" "Calendar.take_out" dm f fd) (T:WhT K mg CW) (B:Bl mg) (DPl:Df K mg "place_in" fJ ["falling","thing"] fPl fdPl)
    (FS:Fun K "stretch_of" "Wheel.stretch_of" c7 fSt fdSt) (bS:Binds K fdSt ["self","key"] []) (mS:gu K CW "stretch_of" fSt) (FR:Fun K "row_for" "Wheel.row_for" gp fR fdR) (bR:Binds K fdR ["self","key"] []) (mR:gu K CW "row_for" fR) :
    bg P w K mg base CX0 4 f fd ["self","key"] (ES (whK CW)):=by
  have GP:bg P w K mg base CX0 1 fPl fdPl ["falling","thing"] si:=tQ DPl B
  have GR:bg P w K mg base CX0 2 fR fdR ["self","key"] (zK CW):=AZ FR T FS bS mS
  refine F.ok Hz (fun vs H Q E h=>?_) (fun cdv A outer s H vs Q E hr h=>?_)
  · obtain ⟨c,b,own,n,kvs,rfl,_⟩:=h
    rfl
  obtain ⟨c,b,own,n,kvs,rfl,⟨dx,d,r,qs,As,R,sp,e,eo,h⟩,hb,ko,hl,k1,k2⟩:=h
  have hu:=ji hr
  have r1:dN 1 _:=hr.mono (by decide)
  have r2:dN 2 _:=hr.mono (by decide)
  refine ⟨_,ax (c9 (me (uU hu (pv 1) (cq (pv 0) rfl))) (aF (bV l9)) cE)
    (ax (bK (i:=2) Hz.nd rfl (Or.inl rfl) (eI (pv 0) T.cl mR GR r2 bR .nil cL (ai (pv 1) ay)))
    (ax (c5 (jX bM m7 m8 sS (pv 2) (ai (cw GP r1 (by rfl) DPl.m DPl.F.kp DPl.b .nil cL (ai (pv 2) (ai (pv 1) ay))) ay)))
    (aF (bV (xR hu (cq (pv 0) rfl) (pv 1) ⟨rfl,rfl,rfl,rfl⟩))))),?_⟩
  have eb:H b=some (.tup ((kI n).map kV)):=by rw [wx]; exact hb
  refine ⟨_,rfl,_,rfl,c,CW,dx,_,_,rfl,h.hc,T.cl,T.nT,EV d r sp e,d,_,rfl,hZ.t (k:=kI n) h.hd eb,_,rfl,?_⟩
  cases ev:fZ kvs (kI n) with
  | none=>exact gJ (k1 ev)
  | some v =>
    refine fG ?_
    have hi:=j9 sp n
    obtain ⟨q,hq⟩:∃ q,qs[d5 sp n]?=some q:=⟨_,aC (by rw [h.l64]; exact hi)⟩
    have h4:=h.hq _ q hq
    have h5:=h.ht _ hi
    have h6:=h.hf _ hi
    refine ⟨_,rfl,c,dx,_,rfl,h.hc,tR d r sp e (by decide +kernel) (by decide +kernel) (by decide +kernel) (by decide +kernel),_,rfl,c,dx,d,r,b,q,qs,sp,e,n,rfl,h.hc,h.sp1.1,h.sp1.2,hb,⟨_,ko⟩,h.hr,hq,?_⟩
    have la:=h5.length
    have sh:=h.short hi
    refine ⟨_,rfl,.inl ⟨rfl,_,SqL.of h4⟩,_,rfl,_,rfl,q,b,As (d5 sp n),R (d5 sp n),n,rfl,h4,h5,h6,hb,by omega,fun i p=>?_⟩
    have hn:(R (d5 sp n))[i]?=some n:=h6.found p (h.memK.mp (vY ev))
    have li:i < (As (d5 sp n)).length:=by
      have:=(aw.mp hn).1
      omega
    have ei:vV (i:Int) ((As (d5 sp n)).map V.ref).length=some i:=by
      rw [av,qQ (by omega) (by omega),l8]
    have eg:((As (d5 sp n)).map V.ref)[i]?=some (.ref (As (d5 sp n))[i]):=by rw [bf,aC li]; rfl
    refine ⟨q,_,_,i,_,rfl,rfl,h4,by omega,by omega,ei,eg,?_⟩
    rw [erase_map]
    have s1:cG [q] H (upd H q (.lst (((As (d5 sp n)).eraseIdx i).map V.ref))):=cG.upd (by simp) h4 (fun xs z=>by cases z)
    have g1:upd H q (.lst (((As (d5 sp n)).eraseIdx i).map V.ref)) c=_:=(aG (h.ncq hq)).trans h.hc
    have g2:upd H q (.lst (((As (d5 sp n)).eraseIdx i).map V.ref)) d=_:=(aG (h.ndq' hq)).trans h.hd
    refine ⟨_,rfl,c,CW,dx,_,_,rfl,g1,T.cl,T.nT,EV d r sp e,d,rfl,.inr ⟨_,.inl g2⟩,_,rfl,kvs,kI n,b,v,g2,rfl,s1.tup b _ eb,ev,?_⟩
    have s2:cG [d] (upd H q (.lst (((As (d5 sp n)).eraseIdx i).map V.ref))) (upd (upd H q (.lst (((As (d5 sp n)).eraseIdx i).map V.ref))) d (.dT (gf kvs (kI n)))):=cG.upd (by simp) g2 (fun xs z=>by cases z)
    refine k2 v _ ev ⟨dx,d,r,qs,_,_,sp,e,eo,h.row hi hq (ns':=(R (d5 sp n)).eraseIdx i) (as':=(As (d5 sp n)).eraseIdx i) (h5.erase i) (h6.erase i) (fun m hm=>h.mem _ hi m ((h6.mem_erase hn).mp hm).1) (fun m hm=>h.early _ hi m ((h6.mem_erase hn).mp hm).1) (qe h.nd) (fun k=>?_) _ H (.inr rfl)⟩ ?_
    · rw [vw,h.key]
      constructor
      · rintro ⟨⟨j,hj,m,hm,rfl⟩,ne⟩
        by_cases ej:j=d5 sp n
        · subst ej
          exact ⟨_,hi,m,by rw [iS]; exact (h6.mem_erase hn).mpr ⟨hm,fun z=>ne (by rw [z])⟩,rfl⟩
        · exact ⟨j,hj,m,by rw [jd _ _ ej]; exact hm,rfl⟩
      · rintro ⟨j,hj,m,hm,rfl⟩
        by_cases ej:j=d5 sp n
        · subst ej
          rw [iS] at hm
          obtain ⟨y1,y2⟩:=(h6.mem_erase hn).mp hm
          exact ⟨⟨_,hi,m,y1,rfl⟩,fun z=>y2 (e8 z)⟩
        · rw [jd _ _ ej] at hm
          refine ⟨⟨j,hj,m,hm,rfl⟩,fun z=>ej ?_⟩
          have z:=e8 z
          subst z
          exact ((h.mem j hj m hm).2).symm
    · subst eo
      refine (s1.mono fun b hb=>?_).trans (s2.mono fun b hb=>?_)
      · rw [au.mp hb]
        have:=aM hq
        simp [this]
      · rw [au.mp hb]
        simp
def E1 (CW:aa):Sp:=fun vs H Q _=>∃ (c:aa) (own:List aa) (kvs:List (List Key×V)),vs=[.ref c]/\whK CW H c own kvs/\Q .non H/\∀ (a:aa) (n:List Int),H a=some (.tup (n.map V.int))->Least (kvs.map (·.1)) n->Q (.ref a) H
theorem Kd:bD ["self","stretch","key"] ["self"] (aP dJ):=⟨rfl,rfl,rfl,by decide +kernel,rfl,by decide +kernel,by decide +kernel⟩
theorem HG (F:Fun K "least_in_one_turn" "Wheel.least_in_one_turn" dJ f fd) (T:WhT K mg CW) (B:Bl mg) (DL:Df K mg "last_of" ia ["falling"] fL fdL)
    (FS:Fun K "stretch_of" "Wheel.stretch_of" c7 fSt fdSt) (bS:Binds K fdSt ["self","key"] []) (mS:gu K CW "stretch_of" fSt):bg P w K mg base CX0 2 f fd ["self"] (E1 CW):=by
  have GL:bg P w K mg base CX0 1 fL fdL ["falling"] zE:=AV DL
  have GS:bg P w K mg base CX0 1 fSt fdSt ["self","key"] (yy CW):=wN FS T
  obtain ⟨tk,hrows⟩:=T.rows
  refine F.ok Kd (fun vs H Q E h=>?_) (fun cdv A outer s H vs Q E hr h=>?_)
  · obtain ⟨c,own,kvs,rfl,_⟩:=h
    rfl
  obtain ⟨c,own,kvs,rfl,⟨dx,d,r,qs,As,R,sp,e,eo,h⟩,k1,k2⟩:=h
  refine ⟨_,ax (lu dB rfl (Be rfl B.range (ai (cq (pv 0) rfl) (ai (cS gz (cq (pv 0) rfl) (pX (v:=.int 64) (by rfl) hrows ⟨_,rfl⟩)) ay))) (eF (i:=1) Kd.nd rfl (Or.inl rfl))
      (ax (bK (i:=2) Kd.nd rfl (Or.inl rfl) (cw GL hr (by rfl) DL.m DL.F.kp DL.b .nil cL (ai (bP eY (cq (pv 0) (by rfl)) (cS mh (pv 1) (pX (v:=.int 64) (by rfl) hrows ⟨_,rfl⟩)) (fun _ _=>rfl)) ay)))
      (aF (c9 (qH (me (FF (pv 2))) (pY (bZ gc (eI (pv 0) T.cl mS GS hr bS .nil cL (ai (pv 2) ay)) (pv 1) (cB _)))).pt (aF (bV (pv 2))) cE))))
    (aF (bV l9)),?_⟩
  have e64:(e + 64 - e).toNat=64:=by omega
  have eb:=h.e0
  refine ⟨_,rfl,c,CW,dx,_,_,rfl,h.hc,T.cl,T.nE,Kc d r sp e,_,rfl,c,CW,dx,_,_,rfl,h.hc,T.cl,T.nE,Kc d r sp e,_,_,rfl,rfl,e,e + 64,rfl,⟨by omega,by omega,by omega,by omega⟩,?_⟩
  refine uE (lo:=e) (n:=(e + 64 - e).toNat) (fun j σ G=>∃ v1 v2:Option V,σ=[some (.ref c),v1,v2]/\G=H/\∀ i,i < 64->∀ m∈R i,e + (j:Int)<=c8 sp m) ⟨none,none,rfl,rfl,fun i hi m hm=>by have:=h.early i hi m hm; omega⟩ ?_ ?_
  · rintro j σ G hj ⟨v1,v2,rfl,rfl,pass⟩
    -- the row of this c8
    have m0:=gx (e + (j:Int)) (show (64:Int)≠0 by decide)
    have m1:=gj (e + (j:Int)) (show (0:Int) < 64 by decide)
    obtain ⟨i,ei⟩:∃ i:Nat,(e + (j:Int)) % 64=(i:Int):=⟨((e + (j:Int)) % 64).toNat,by omega⟩
    have hi:i < 64:=by omega
    obtain ⟨q,hq⟩:∃ q,qs[i]?=some q:=⟨_,aC (by rw [h.l64]; exact hi)⟩
    have aq:atI (qs.map V.ref) ((e + (j:Int)) % 64)=some (.ref q):=by
      rw [ei]
      exact jG (by rw [bf,hq]; rfl)
    -- those in this c8 lie in this row
    have inrow:∀ i',i' < 64->∀ m∈R i',c8 sp m=e + (j:Int)->i'=i:=fun i' hi' m hm z=>by
      have y:=(h.mem i' hi' m hm).2
      have x:=vy sp m
      rw [z,ei] at x
      omega
    refine ⟨_,rfl,c,CW,dx,_,_,rfl,h.hc,T.cl,T.nR,Kb d r sp e,_,rfl,_,_,rfl,rfl,(by show (0:Int) < 64; decide),r,_,_,_,rfl,rfl,SqL.of h.hr,aq,q,_,rfl,h.hq i q hq,fun em=>?_,fun v ev=>?_⟩
    · -- an empty row
      refine ⟨_,rfl,_,rfl,fG (fG ?_)⟩
      refine ⟨_,_,rfl,rfl,fun i' hi' m hm=>?_⟩
      have:=pass i' hi' m hm
      by_cases z:c8 sp m=e + (j:Int)
      · have y:=inrow i' hi' m hm z
        subst y
        have la:=(h.ht i' hi').length
        rw [BQ.mp em] at la
        have z0:=eA.mp la.symm
        rw [z0] at hm
        exact nomatch hm
      · omega
    · rw [av,bf] at ev
      obtain ⟨a,ea,rfl⟩:=gI.mp ev
      obtain ⟨n,en,hn⟩:=(h.ht i hi).get ea
      rw [(h.ht i hi).length] at en
      have mn:=aM en
      obtain ⟨kn,ri⟩:=h.mem i hi n mn
      refine ⟨_,rfl,_,rfl,tP (by rw [decide_eq_false (fun z=>by cases z)]; rfl) (gJ ?_)⟩
      refine ⟨_,rfl,c,dx,_,rfl,h.hc,tR d r sp e (by decide +kernel) (by decide +kernel) (by decide +kernel) (by decide +kernel),_,rfl,c,dx,d,r,a,sp,e,n,rfl,h.hc,h.sp1.1,h.sp1.2,hn,⟨_,kn⟩,_,rfl,rfl,_,rfl,?_⟩
      refine jj (fun cc=>?_) (fun cc=>?_)
      · have es:c8 sp n=e + (j:Int):=by
          have z:=of_decide_eq_true cc
          exact V.int.inj z
        refine ⟨_,rfl,k2 a n hn ⟨h.memK.mpr (by rw [ri]; exact mn),fun m hm=>?_⟩⟩
        have hm':=h.memK.mp hm
        have hj':=j9 sp m
        obtain ⟨km,_⟩:=h.mem _ hj' m hm'
        have pm:=pass _ hj' m hm'
        by_cases z:c8 sp m=e + (j:Int)
        · have y:=inrow _ hj' m hm' z
          rw [y] at hm'
          exact (h.hf i hi).last en m hm'
        · exact HT.lx_asym (tS h.sp1.1 ⟨_,kn⟩ ⟨_,km⟩ (by omega))
      · have es:c8 sp n≠e + (j:Int):=fun z=>cc (decide_eq_true (by rw [z]))
        refine ⟨_,_,rfl,rfl,fun i' hi' m hm=>?_⟩
        have pm:=pass i' hi' m hm
        by_cases z:c8 sp m=e + (j:Int)
        · exfalso
          have y:=inrow i' hi' m hm z
          subst y
          obtain ⟨km,_⟩:=h.mem i' hi' m hm
          have l1:=tT h.sp1.1 ⟨_,km⟩ ⟨_,kn⟩ ((h.hf i' hi').last en m hm)
          have l2:=pass i' hi' n mn
          omega
        · omega
  · rintro σ G ⟨v1,v2,rfl,rfl,_⟩
    exact k1
abbrev nLw:List Str:=["self","key"]
theorem Ke:bD nLw ["self"] (aP iz):=⟨rfl,rfl,rfl,by decide +kernel,rfl,by decide +kernel,by decide +kernel⟩
theorem Kf:((["row"]:List Str)++nLw).Nodup:=by decide +kernel
theorem BU (F:Fun K "least" "Wheel.least" iz f fd) (T:WhT K mg CW) (B:Bl mg) (mn:mg "min"=none) (DL:Df K mg "last_of" ia ["falling"] fL fdL)
    (FS:Fun K "stretch_of" "Wheel.stretch_of" c7 fSt fdSt) (bS:Binds K fdSt ["self","key"] []) (mS:gu K CW "stretch_of" fSt)
    (FO:Fun K "least_in_one_turn" "Wheel.least_in_one_turn" dJ fO fdO) (bO:Binds K fdO ["self"] []) (mO:gu K CW "least_in_one_turn" fO):bg P w K mg base CX0 4 f fd ["self"] (zH (whK CW)):=by
  have GO:bg P w K mg base CX0 2 fO fdO ["self"] (E1 CW):=HG FO T B DL FS bS mS
  have GS:bg P w K mg base CX0 1 fSt fdSt ["self","key"] (yy CW):=wN FS T
  refine F.ok Ke (fun vs H Q E h=>?_) (fun cdv A outer s H vs Q E hr h=>?_)
  · obtain ⟨c,own,kvs,rfl,_⟩:=h
    rfl
  obtain ⟨c,own,kvs,rfl,hW,hl,k1,k2⟩:=h
  have hu:=ji hr
  have h50:=Jp hr
  have hu2:=bz (p9 (show 2<=50 by decide) _) h50
  have r1:dN 1 _:=hr.mono (by decide)
  have r2:dN 2 _:=hr.mono (by decide)
  refine ⟨_,ax (c9 (Cs (pt_dT (cq (pv 0) rfl) (fun _=>rfl))) (aF (bV l9)) cE)
    (ax (bK (i:=1) Ke.nd rfl (Or.inl rfl) (jg (pv 0) T.cl mO GO r2 bO .nil cL))
    (ax (c9 (me (vI (pv 1))) (aF (bK (i:=1) Ke.nd rfl (Or.inl rfl) (cZ (vc hu2 rfl) (by rfl) mn boot_min (ai (kN ["row"] (gY.open (NN:=nLw) (N:=nLw) (sc:=aP iz) rfl rfl (by decide +kernel) rfl (by decide +kernel) (by decide +kernel) rfl (by decide +kernel)) rfl
      (iL (cq (pv 0) (by rfl))) (fun _ _ _ _=>eF (i:=0) Kf rfl (Or.inl rfl)) (fun _ _ _ _=>Gg (BR K rfl (pv 0) (fun _=>rfl))) (fun _ _ _ _=>bP (yd K rfl) (pv 0) (sD pG aD) (fun _ _=>rfl))) ay)))) cE)
    (ax (fk (pv 0) (eI (pv 0) T.cl mS GS r1 bS .nil cL (ai (pv 1) ay)) rfl)
    (aF (bV (pv 1)))))),?_⟩
  obtain ⟨dx,d,r,qs,As,R,sp,e,eo,h⟩:=id hW
  have nom:∀ {m:Str},m≠"things"->m≠"rows"->m≠"span"->m≠"earliest"->(wF d r sp e).lookup m=none:=fun a b c' d'=>tR d r sp e a b c' d'
  refine ⟨_,rfl,c,CW,dx,_,_,rfl,h.hc,T.cl,T.nT,EV d r sp e,d,kvs,rfl,h.hd,?_⟩
  cases kvs with
  | nil =>
    refine gJ ?_
    exact k1 H rfl hW (cG.refl _ _)
  | cons kv kvs =>
    refine fG ?_
    -- the key is found: earliest is set
    have last:∀ (G:Hp) (a:aa) (n:List Int),iI CW G c dx d r qs As R sp e (kv :: kvs)->cG [] H G->G a=some (.tup (n.map V.int))->Least ((kv :: kvs).map (·.1)) n->(∃ m,j8 m n)/\Q (.ref a) (upd G c (.ins CW dx (cM "earliest" (.int (c8 sp n)) (wF d r sp e)))):=by
      intro G a n hG sG ha le
      have mn':=hG.memK.mp le.1
      obtain ⟨kn,_⟩:=hG.mem _ (j9 sp n) n mn'
      refine ⟨⟨_,kn⟩,?_⟩
      rw [EU]
      have s1:cG [c] G (upd G c (.ins CW dx (wF d r sp (c8 sp n)))):=cG.upd (by simp) hG.hc (fun xs z=>by cases z)
      refine k2 a n _ ⟨dx,d,r,qs,As,R,sp,c8 sp n,eo,hG.set (fun i hi m hm=>?_) (tU hG.sp1.1 kn)⟩ ((sG.mono fun b hb=>(nomatch hb)).trans (s1.mono fun b hb=>?_)) (s1.tup _ _ ha) le
      · obtain ⟨km,ri⟩:=hG.mem i hi m hm
        exact tT hG.sp1.1 ⟨_,km⟩ ⟨_,kn⟩ (le.2 m (hG.memK.mpr (by rw [ri]; exact hm)))
      · rw [au.mp hb,eo]
        exact aJ
    refine ⟨_,rfl,c,dx,_,rfl,h.hc,nom (by decide +kernel) (by decide +kernel) (by decide +kernel) (by decide +kernel),c,own,_,rfl,hW,?_,fun a n ha le=>?_⟩
    · refine ⟨_,rfl,_,rfl,tP (decide_eq_true rfl) (gJ ?_)⟩
      -- min of the rows' last keys
      refine e9 (cb_i (Ez (yw (K:=K) (a:=r) (xs:=qs.map V.ref) rfl h.hc T.cl T.nR (Kb d r sp e) (SqL.of h.hr) (fun j ys G=>G=H/\ys.length<=j/\∃ (bs:List aa) (ms:List (List Int)),ys=bs.map V.ref/\fu H bs ms /\
          (∀ m∈ms,∃ i,i < 64/\(R i)[(R i).length - 1]?=some m)/\∀ i z,i < j->i < 64->(R i)[(R i).length - 1]?=some z->z∈ms) ⟨rfl,aE _,[],[],rfl,.nil,fun _ h=>(nomatch h),fun i z hi=>absurd hi (iJ _)⟩ ?_ ?_ ?_)))
      · rintro j ys G hj ⟨rfl,hy,_⟩
        rw [av,h.l64] at hj
        exact ⟨SqL.of h.hr,bz hy (bz hj (by decide))⟩
      · rintro j x ys G hj ⟨rfl,hy,bs,ms,rfl,tb,m1,m2⟩
        rw [bf] at hj
        obtain ⟨q,hq,rfl⟩:=gI.mp hj
        have lj:j < 64:=by
          have:=(aw.mp hq).1
          rw [h.l64] at this
          exact this
        have hqq:=h.hq j q hq
        refine ⟨rfl,_,rfl,_,.inl ⟨_,SqL.of hqq,rfl⟩,?_⟩
        have la:=(h.ht j lj).length
        cases ea:As j with
        | nil =>
          refine fG ⟨rfl,by omega,bs,ms,rfl,tb,m1,fun i z hi hi64 hz=>?_⟩
          by_cases ej:i=j
          · subst ej
            rw [ea] at la
            have z0:R i=[]:=eA.mp la.symm
            rw [z0] at hz
            exact nomatch hz
          · exact m2 i z (by omega) hi64 hz
        | cons a0 ar =>
          refine gJ ?_
          obtain ⟨zs,z,ez⟩:∃ zs z,As j=zs++[z]:=by
            rcases zF (As j) with y | ⟨zs,z,y⟩
            · rw [y] at ea; cases ea
            · exact ⟨zs,z,by simpa using y⟩
          have el:(As j)[(As j).length - 1]?=some z:=by
            rw [ez,aB,gT,qX,dD (aE _),zC]
            rfl
          obtain ⟨n,en,hn⟩:=(h.ht j lj).get el
          rw [la] at en
          rw [ez,ba] at hqq
          refine ⟨_,rfl,_,rfl,q,_,_,_,rfl,rfl,SqL.of hqq,xq _ _,?_⟩
          refine ⟨rfl,by rw [aB,gT]; omega,bs++[z],ms++[n],by rw [ba]; rfl,tb.append (.cons hn .nil),fun m hm=>?_,fun i z' hi hi64 hz'=>?_⟩
          · rcases aU.mp hm with y | y
            · exact m1 m y
            · rw [au.mp y]
              exact ⟨j,lj,en⟩
          · by_cases ej:i=j
            · subst ej
              rw [en] at hz'
              cases hz'
              exact aU.mpr (.inr aJ)
            · exact aU.mpr (.inl (m2 i z' (by omega) hi64 hz'))
      · rintro ys G ⟨rfl,_,bs,ms,rfl,tb,m1,m2⟩ p hp
        have s1:=aH hp (.lst (bs.map V.ref))
        have h1:iI CW (upd G p (.lst (bs.map V.ref))) c dx d r qs As R sp e (kv :: kvs):=h.stay (ps:=[]) (cG.same s1) (fun b hb z=>(nomatch z))
        rw [av,h.l64] at m2
        have lastof:∀ m,kI m∈(kv :: kvs).map (·.1)->∃ z,z∈ms/\HT.lexLt m z=false:=fun m hm=>by
          have hm':=h.memK.mp hm
          have hi:=j9 sp m
          have lp:=nA hm'
          have ez:(R (d5 sp m))[(R (d5 sp m)).length - 1]?=some ((R (d5 sp m))[(R (d5 sp m)).length - 1]'(by omega)):=aC _
          exact ⟨_,m2 _ _ hi hi ez,(h.hf _ hi).last ez m hm'⟩
        have nem:ms≠[]:=fun z=>by
          obtain ⟨_,_,n0,_,e0⟩:=(h.key kv.1).mp (aJ)
          obtain ⟨z',hz',_⟩:=lastof n0 (by rw [<- e0]; exact aJ)
          rw [z] at hz'
          exact nomatch hz'
        refine ⟨p,bs,ms,rfl,ah,tb.keep (fun b xs z=>s1 b _ z),nem,fun a n _ hn ha best=>?_⟩
        have le:Least ((kv :: kvs).map (·.1)) n:=by
          refine ⟨?_,fun m hm=>?_⟩
          · obtain ⟨i,hi,ei⟩:=m1 n hn
            have mi:=aM ei
            exact h.memK.mpr (by rw [(h.mem i hi n mi).2]; exact mi)
          · obtain ⟨z,hz,l1⟩:=lastof m hm
            have l2:=best z hz
            cases y:HT.lexLt m n with
            | false=>rfl
            | true =>
              by_cases ez:m=z
              · rw [ez,l2] at y
                cases y
              · have l3:=HT.lx_of_not l1 ez
                have l4:=HT.lx_trans l3 y
                rw [l2] at l4
                cases l4
        obtain ⟨kn,fin⟩:=last _ a n h1 (cG.same s1) ha le
        exact ⟨_,rfl,c,dx,_,rfl,h1.hc,nom (by decide +kernel) (by decide +kernel) (by decide +kernel) (by decide +kernel),_,rfl,c,dx,d,r,a,sp,e,n,rfl,h1.hc,h.sp1.1,h.sp1.2,ha,kn,_,rfl,c,CW,dx,_,rfl,h1.hc,T.cl,T.nE,(zJ d r sp e),_,rfl,fin⟩
    · refine ⟨_,rfl,_,rfl,tP (decide_eq_false (fun z=>by cases z)) (fG ?_)⟩
      obtain ⟨kn,fin⟩:=last H a n h (cG.refl _ _) ha le
      exact ⟨_,rfl,c,dx,_,rfl,h.hc,nom (by decide +kernel) (by decide +kernel) (by decide +kernel) (by decide +kernel),_,rfl,c,dx,d,r,a,sp,e,n,rfl,h.hc,h.sp1.1,h.sp1.2,ha,kn,_,rfl,c,CW,dx,_,rfl,h.hc,T.cl,T.nE,(zJ d r sp e),_,rfl,fin⟩
end
end My
namespace My
open PySem L2
section
variable {P:aO} {w:bj} {K:af} {mg:Str->Option ae} {base:cb} {f fP fPl fL fR fSt fO fLe fT fS fPu fLv CW CC fI:aa} {fd fdP fdPl fdL fdR fdSt fdO dLe dT dS dPu dLv fdI:bG}
theorem BV (F:Fun K "leave" "Calendar.leave" eX f fd) (T:WhT K mg CW) (GLe:bg P w K mg base CX0 4 fLe dLe ["self"] (zH (whK CW))) (bLe:Binds K dLe ["self"] []) (mLe:gu K CW "least" fLe)
    (GT:bg P w K mg base CX0 4 fT dT ["self","key"] (ES (whK CW))) (bT:Binds K dT ["self","key"] []) (mT:gu K CW "take_out" fT):bg P w K mg base CX0 5 f fd ["self"] (ET (whK CW)):=by
  refine F.ok HB (fun vs H Q E h=>?_) (fun cdv A outer s H vs Q E hr h=>?_)
  · obtain ⟨c,own,kvs,rfl,_⟩:=h
    rfl
  obtain ⟨c,own,kvs,rfl,hW,hl,k1,k2⟩:=h
  refine ⟨_,ax (bK (i:=1) HB.nd rfl (Or.inl rfl) (jg (pv 0) T.cl mLe GLe hr bLe .nil cL))
    (ax (c9 (me (vI (pv 1))) (aF (bV l9)) cE)
    (aF (bV (cK (ai (pv 1) (ai (eI (pv 0) T.cl mT GT hr bT .nil cL (ai (pv 1) ay)) ay)))))),?_⟩
  obtain ⟨dx,fs,hc,no⟩:=(oC CW).inst hW
  refine ⟨_,rfl,c,dx,_,rfl,hc,no "least" (by simp),c,own,kvs,rfl,hW,hl,fun H1 e hW1 s1=>?_,fun a n H1 hW1 s1 ha le=>?_⟩
  · refine ⟨_,rfl,_,rfl,?_⟩
    exact tP (decide_eq_true rfl) (gJ (k1 H1 e hW1 s1))
  · refine ⟨_,rfl,_,rfl,?_⟩
    refine tP (decide_eq_false (fun z=>by cases z)) (fG ?_)
    obtain ⟨dx1,fs1,hc1,no1⟩:=(oC CW).inst hW1
    have ko:j8 200 n:=by
      obtain ⟨_,_,_,_,_,_,sp,_,_,h⟩:=id hW1
      exact (h.mem _ (j9 sp n) n (h.memK.mp le.1)).1
    refine ⟨_,rfl,_,rfl,c,dx1,_,rfl,hc1,no1 "take_out" (by simp),_,rfl,c,a,own,n,kvs,rfl,hW1,ha,ko,hl,fun e=>?_,fun v H2 e hW2 s2=>?_⟩
    · exact absurd le.1 (qc e)
    · refine ⟨lt2,fun t ht=>?_⟩
      have s3:bF H2 (upd H2 t (.tup [.ref a,v])):=aH ht _
      exact k2 a t n v _ le e (s3 a _ (s2.tup a _ ha)) ah ((oC CW).stay (ps:=[]) hW2 (cG.same s3) (fun _ _ z=>(nomatch z))) (s1.trans (s2.trans (cG.same s3)))
def spWI (CW:aa):Sp:=fun vs H Q _=>∃ (c dx:aa) (sp:Int),vs=[.ref c,.int sp]/\H c=some (.ins CW dx [])/\1<=sp/\sp<=1000/\∀ (own:List aa) (H':Hp),whK CW H' c (c :: own) []->(∀ b∈own,H b=none)->cG [c] H H'->Q .non H'
abbrev nWi:List Str:=["self","span"]
theorem scWi:bD nWi nWi (aP jK):=⟨rfl,rfl,rfl,by decide +kernel,rfl,by decide +kernel,by decide +kernel⟩
theorem nd_pl:((["place"]:List Str)++nWi).Nodup:=by decide +kernel
theorem ok_WI (F:Fun K "__init__" "Wheel.__init__" jK f fd) (T:WhT K mg CW) (B:Bl mg) (mgC:mg "Calendar"=some (.ref CC)) (cm:DG K CC "__init__" fI) (FI:Fun K "__init__" "Calendar.__init__" gL fI fdI) (bI:Binds K fdI ["self"] []) :
    bg P w K mg base CX0 2 f fd nWi (spWI CW):=by
  have GI:bg P w K mg base CX0 1 fI fdI ["self"] (wM CW):=yp FI T.cl T.nT T.nR
  obtain ⟨tk,hrows⟩:=T.rows
  refine F.ok scWi (fun vs H Q E h=>?_) (fun cdv A outer s H vs Q E hr h=>?_)
  · obtain ⟨c,dx,sp,rfl,_⟩:=h
    rfl
  obtain ⟨c,dx,sp,rfl,hc,s1,s2,k⟩:=h
  refine ⟨_,ax (c5 (DH cm GI hr (by rfl) mgC bI .nil cL (ai (pv 0) ay)))
    (ax (fk (pv 0) (kN ["place"] (gY.open (NN:=nWi) (N:=nWi) (sc:=aP jK) rfl rfl (by decide +kernel) rfl (by decide +kernel) (by decide +kernel) rfl (by decide +kernel)) rfl
      (oJ rfl B.range (ai (pX (v:=.int 64) (by rfl) hrows ⟨_,rfl⟩) ay)) (fun _ _ _ _=>eF (i:=0) nd_pl rfl (Or.inl rfl)) (fun _ _ _ _=>jJ) (fun _ _ _ _=>dP ay)) rfl)
    (ax (fk (pv 0) (cZ (qJ rfl) (by rfl) B.max boot_max (ai (pv 1) (ai aD ay))) rfl)
    (aF (fk (pv 0) aD rfl)))),?_⟩
  refine ⟨_,rfl,c,dx,rfl,hc,fun d r0 q0 H1 nd nr nq ndr hC st1=>?_⟩
  obtain ⟨dx1,as0,ns0,g1,g2,g3,g4,_⟩:=hC
  have edx:dx1=dx\/True:=.inr True.intro
  refine fld_i (BS 64 rfl (by decide) (by decide) (fun i ys G=>ys.length=i/\bF H1 G/\∃ qs:List aa,ys=qs.map V.ref/\qs.Nodup/\∀ q∈qs,G q=some (.lst [])/\H1 q=none) ⟨rfl,bF.refl H1,[],rfl,dj,fun _ h=>(nomatch h)⟩ ?_ ?_ ?_)
  · rintro i ys G hi ⟨hy,_⟩
    rw [hy]
    exact bz hi (by decide)
  · rintro i ys G hi ⟨hy,sG,qs,rfl,nq',hq'⟩
    refine ⟨rfl,?_⟩
    unfold um
    refine gJ ?_
    refine ⟨bA _,fun q hq=>?_⟩
    have sn:=aH hq (.lst [])
    have nn:¬ q∈qs:=fun z=>by
      rw [(hq' q z).1] at hq
      cases hq
    refine ⟨by rw [aB,hy]; rfl,sG.trans sn,qs++[q],by rw [ba]; rfl,rS nq' nn,fun q2 hq2=>?_⟩
    rcases aU.mp hq2 with z | z
    · exact ⟨sn _ _ (hq' q2 z).1,(hq' q2 z).2⟩
    · rw [au.mp z]
      exact ⟨ah,sG.free hq⟩
  · rintro ys G ⟨hy,sG,qs,rfl,nq',hq'⟩ r hr'
    have l64:qs.length=64:=by
      rw [av] at hy
      exact hy
    have sr:=aH hr' (.lst (qs.map V.ref))
    have c1:upd G r (.lst (qs.map V.ref)) c=some (.ins CW dx1 (cF d r0)):=sr _ _ (sG _ _ g1)
    refine ⟨_,rfl,c,CW,dx1,_,rfl,c1,T.cl,T.nR,(bz (eR _ _ _) (bz (dM (eR _ _ _)) (by decide))),?_⟩
    refine ⟨_,rfl,sp,1,rfl,_,rfl,c,CW,dx1,_,rfl,ah,T.cl,T.nS,(bz (eR _ _ _) (bz (dM (eR _ _ _)) (bz (dM (dM (eR _ _ _))) (by decide)))),?_⟩
    refine ⟨_,rfl,c,CW,dx1,_,rfl,ah,T.cl,T.nE,(bz (eR _ _ _) (bz (dM (eR _ _ _)) (bz (dM (dM (eR _ _ _))) (bz (dM (dM (dM (eR _ _ _)))) (by decide))))),?_⟩
    have esp:(if (1:Int) > sp then 1 else sp)=sp:=if_neg (by omega)
    rw [esp,Ka]
    have cs:cG [c] H1 (upd (upd (upd (upd G r (.lst (qs.map V.ref))) c (.ins CW dx1 (cM "rows" (.ref r) (cF d r0)))) c (.ins CW dx1 (cM "span" (.int sp) (cM "rows" (.ref r) (cF d r0))))) c (.ins CW dx1 (wF d r sp 0))):=
      (cG.same (sG.trans sr)).trans ((cG.upd (by simp) c1 (fun xs z=>by cases z)).trans ((cG.upd (by simp) ah (fun xs z=>by cases z)).trans (cG.upd (by simp) ah (fun xs z=>by cases z))))
    have nc:∀ b o,upd G r (.lst (qs.map V.ref)) b=some o->b≠c->upd (upd (upd (upd G r (.lst (qs.map V.ref))) c (.ins CW dx1 (cM "rows" (.ref r) (cF d r0)))) c (.ins CW dx1 (cM "span" (.int sp) (cM "rows" (.ref r) (cF d r0))))) c (.ins CW dx1 (wF d r sp 0)) b=some o:=fun b o hb n=>by
      rw [aG n,aG n,aG n]
      exact hb
    have hrH:H1 r=none:=sG.free hr'
    have ndc:d≠c:=(fc g1 g2 (by intro z; cases z)).symm
    have nrc:r≠c:=fun z=>by rw [z,g1] at hrH; cases hrH
    have fr:∀ b,H1 b=none->H b=none:=fun b hb=>by
      cases e:H b with
      | none=>rfl
      | some o =>
        by_cases z:b=c
        · subst z
          rw [g1] at hb
          cases hb
        · rw [st1.keep b o e (by simpa using z)] at hb
          cases hb
    refine k (d :: r :: qs) _ ⟨dx1,d,r,qs,fun _=>[],fun _=>[],sp,0,rfl,ah,nc _ _ (sr _ _ (sG _ _ g2)) ndc,nc _ _ ah nrc,fun i q hq=>?_,fun _ _=>.nil,fun _ _=>List.Pairwise.nil,l64,nq',fun z=>?_,fun _ _ _ h=>(nomatch h),fun k=>⟨fun h=>(nomatch h),fun ⟨_,_,_,h,_⟩=>(nomatch h)⟩,dj,fun _ _ _ h=>(nomatch h),⟨s1,s2⟩,⟨by decide,by decide⟩⟩ (fun b hb=>?_) (st1.trans cs)
    · have mq:=aM hq
      obtain ⟨a1,a2⟩:=hq' q mq
      refine nc _ _ (sr _ _ a1) fun z=>?_
      rw [z,g1] at a2
      cases a2
    · rw [(hq' r z).1] at hr'
      cases hr'
    · rcases ak.mp hb with rfl | hb
      · exact nd
      · rcases ak.mp hb with rfl | hb
        · exact fr _ hrH
        · exact fr _ (hq' b hb).2
theorem E2 (T:WhT K mg CW) (B:Bl mg) (mn:mg "min"=none) (DP:Df K mg "put_in" j1 ["falling","thing"] fP fdP) (DPl:Df K mg "place_in" fJ ["falling","thing"] fPl fdPl) (DL:Df K mg "last_of" ia ["falling"] fL fdL)
    (FSt:Fun K "stretch_of" "Wheel.stretch_of" c7 fSt fdSt) (bSt:Binds K fdSt ["self","key"] []) (mSt:gu K CW "stretch_of" fSt) (FR:Fun K "row_for" "Wheel.row_for" gp fR fdR) (bR:Binds K fdR ["self","key"] []) (mR:gu K CW "row_for" fR)
    (FO:Fun K "least_in_one_turn" "Wheel.least_in_one_turn" dJ fO fdO) (bO:Binds K fdO ["self"] []) (mO:gu K CW "least_in_one_turn" fO)
    (FS:Fun K "size" "Calendar.size" fi fS dS) (bS:Binds K dS ["self"] []) (mS:gu K CW "size" fS)
    (FLe:Fun K "least" "Wheel.least" iz fLe dLe) (bLe:Binds K dLe ["self"] []) (mLe:gu K CW "least" fLe)
    (FPu:Fun K "put" "Wheel.put" kR fPu dPu) (bPu:Binds K dPu ["self","key","thing"] []) (mPu:gu K CW "put" fPu)
    (FT:Fun K "take_out" "Calendar.take_out" dm fT dT) (bT:Binds K dT ["self","key"] []) (mT:gu K CW "take_out" fT)
    (FLv:Fun K "leave" "Calendar.leave" eX fLv dLv) (bLv:Binds K dLv ["self"] []) (mLv:gu K CW "leave" fLv):CkT P w K mg base CW (whK CW) fS fLe fPu fT fLv dS dLe dPu dT dLv:=
  have GLe:=BU FLe T B mn DL FSt bSt mSt FO bO mO
  have GT:=EZ FT T B DPl FSt bSt mSt FR bR mR
  {ok:=oC CW,cl:=T.cl,GS:=EX FS T B,bS:=bS,mS:=mS,GLe:=GLe,bLe:=bLe,mLe:=mLe,GPu:=HF FPu T B mn DP DPl FSt bSt mSt FR bR mR,bPu:=bPu,mPu:=mPu,GT:=GT,bT:=bT,mT:=mT,
    GLv:=BV FLv T GLe bLe mLe GT bT mT,bLv:=bLv,mLv:=mLv}
end
end My
namespace My
open PySem L2
def Kg (F:Hp) (v:V) (e:Ev):Prop:=∃ t,v=.ref t/\F t=some (.tup [.int e.to,.str e.sg,.int e.a,.int e.b])
def kE (F:Hp) (q:List Key×V) (e:Ev):Prop:=q.1=kI e.key/\Kg F q.2 e
theorem kE.tups {H H':Hp} (s:∀ a xs,H a=some (.tup xs)->H' a=some (.tup xs)) {q:List Key×V} {e:Ev} (h:kE H q e):kE H' q e:=by
  obtain ⟨h1,t,h2,h3⟩:=h
  exact ⟨h1,t,h2,s _ _ h3⟩
theorem jB.tups {H H':Hp} (s:∀ a xs,H a=some (.tup xs)->H' a=some (.tup xs)) {v:V} {e:Ev} (h:jB H v e):jB H' v e:=by
  obtain ⟨t,k,e1,h1,h2⟩:=h
  exact ⟨t,k,e1,s _ _ h1,s _ _ h2⟩
theorem IF {F:Hp} {n:List Int}:∀ {kvs:List (List Key×V)} {es:List Ev},aW (kE F) kvs es->(∀ e∈es,n≠e.key)->fZ kvs (kI n)=none
  | _,_,.nil,_=>rfl
  | _,_,.cons a b,h=>by
    rw [iw]
    · exact IF b fun e he=>h e (aj _ he)
    · rw [a.1]
      exact fun z=>h _ aJ (e8 z).symm
theorem E3 {F:Hp} {n:List Int} {v:V}:∀ {kvs:List (List Key×V)} {es:List Ev},aW (kE F) kvs es->fZ kvs (kI n)=some v->∃ e∈es,e.key=n/\Kg F v e
  | _,_,.nil,h=>by cases h
  | q :: _,_,.cons a b,h=>by
    by_cases c:q.1=kI n
    · rw [iN c] at h
      cases h
      rw [a.1] at c
      exact ⟨_,aJ,e8 c,a.2⟩
    · rw [iw c] at h
      obtain ⟨e,h1,h2⟩:=E3 b h
      exact ⟨e,aj _ h1,h2⟩
theorem zL {F:Hp} {k:List Key}:∀ {kvs:List (List Key×V)} {es:List Ev},aW (kE F) kvs es->(k∈kvs.map (·.1)↔∃ e∈es,k=kI e.key)
  | _,_,.nil=>⟨fun h=>by (cases h),fun ⟨_,h,_⟩=>by cases h⟩
  | q :: _,_,.cons a b=>by
    rw [cC,ak,zL b]
    constructor
    · rintro (z | ⟨e,h,z⟩)
      · exact ⟨_,aJ,z.trans a.1⟩
      · exact ⟨e,aj _ h,z⟩
    · rintro ⟨e,h,z⟩
      rcases ak.mp h with y | y
      · rw [y] at z
        exact .inl (z.trans a.1.symm)
      · exact .inr ⟨e,y,z⟩
theorem wO {F:Hp} {n:List Int}:∀ {kvs:List (List Key×V)} {es:List Ev},aW (kE F) kvs es->aW (kE F) (gf kvs (kI n)) (es.filter fun e=>decide (e.key≠n))
  | _,_,.nil=>.nil
  | q :: _,_,.cons a b=>by
    by_cases c:q.1=kI n
    · rw [qT c,mZ]
      · exact wO b
      · rw [a.1] at c
        simpa using e8 c
    · rw [oN c,yb]
      · exact .cons a (wO b)
      · rw [a.1] at c
        simpa using fun z=>c (by rw [z])
theorem A0 {pd:List Ev} (f:lW pd):pd.Pairwise (fun a b=>a.key≠b.key):=f.imp fun {a b} z e=>by
  rw [e,HT.lx_irr] at z
  cases z
theorem E4 {F:Hp} {kvs:List (List Key×V)} {es pd:List Ev} {h:Ev} {n:List Int} (p:aW (kE F) kvs es) (q:es.Perm (pd++[h])) (f:lW (pd++[h])) (l:L2.Least (kvs.map (·.1)) n):n=h.key:=by
  obtain ⟨l1,l2⟩:=l
  obtain ⟨e,he,z⟩:=(zL p).mp l1
  have z:=e8 z
  have hm:h∈es:=q.mem_iff.mpr (aV _ (au.mpr rfl))
  have l3:=l2 h.key ((zL p).mpr ⟨h,hm,rfl⟩)
  rcases aU.mp (q.mem_iff.mp he) with y | y
  · have:=(jQ f).2 e y
    rw [z,this] at l3
    cases l3
  · rw [z,au.mp y]
theorem HH {F:Hp} {kvs:List (List Key×V)} {es pd:List Ev} {h:Ev} (p:aW (kE F) kvs es) (q:es.Perm (pd++[h])) (f:lW (pd++[h])):∃ es',aW (kE F) (gf kvs (kI h.key)) es'/\es'.Perm pd:=by
  refine ⟨_,wO p,(q.filter _).trans ?_⟩
  rw [Cm,Bv.mpr,mZ (by simp)]
  · simp
  · intro e he
    have:=(jQ f).2 e he
    simp only [decide_eq_true_eq]
    intro z
    rw [z,HT.lx_irr] at this
    cases this
theorem HI {F:Hp} {kvs:List (List Key×V)} {es pd:List Ev} {h:Ev} {v:V} (p:aW (kE F) kvs es) (q:es.Perm (pd++[h])) (f:lW (pd++[h])) (e:fZ kvs (kI h.key)=some v):Kg F v h:=by
  obtain ⟨e',h1,h2,h3⟩:=E3 p e
  rcases aU.mp (q.mem_iff.mp h1) with y | y
  · have:=(jQ f).2 e' y
    rw [h2,HT.lx_irr] at this
    cases this
  · rw [au.mp y] at h3
    exact h3
section
variable {P:aO} {w:bj} {K:af} {mg:Str->Option ae} {base:cb} {f CC fS fLe fPu fT fLv:aa} {fd dS dLe dPu dT dLv:bG} {I:CK}
seal L2.PS L2.PSs L2.PE L2.PA L2.PT L2.PW L2.PI L2.PG L2.PGs L2.PC
def Kh (I:CK):Sp:=fun vs H Q _=>∃ (c l:aa) (own:List aa) (kvs:List (List Key×V)) (es:List Ev) (xs:List V) (out:List Ev),vs=[.ref c,.ref l]/\I H c own kvs/\aW (kE H) kvs es/\H l=some (.lst xs)/\l∉own/\aW (jB H) xs out/\(∀ e∈out,j8 200 e.key)/\(out++es).Pairwise (fun a b=>a.key≠b.key)/\(out++es).length<=1000 /\
  ∀ (H':Hp) (kvs':List (List Key×V)) (es':List Ev),I H' c own kvs'->aW (kE H') kvs' es'->es'.Perm (out++es)->cG own H H'->Q .non H'
abbrev nPa:List Str:=["calendar","happenings","happening"]
theorem scPa:bD nPa ["calendar","happenings"] (aP lS):=⟨rfl,rfl,rfl,by decide +kernel,rfl,by decide +kernel,by decide +kernel⟩
theorem IG (D:Df K mg "put_all" lS ["calendar","happenings"] f fd) (T:CkT P w K mg base CC I fS fLe fPu fT fLv dS dLe dPu dT dLv):bg P w K mg base CX0 5 f fd ["calendar","happenings"] (Kh I):=by
  refine D.F.ok scPa (fun vs H Q E h=>?_) (fun cdv A outer s H vs Q E hr h=>?_)
  · obtain ⟨c,l,own,kvs,es,xs,out,rfl,_⟩:=h
    rfl
  obtain ⟨c,l,own,kvs,es,xs,out,rfl,hI,hkv,hl,nl,hx,ko,pw,len,k⟩:=h
  have r4:dN 4 _:=hr.mono (by decide)
  refine ⟨_,aF (lu dB rfl (iL (pv 1)) (eF (i:=2) scPa.nd rfl (Or.inl rfl)) (aF (c5 (eI (pv 0) T.cl T.mPu T.GPu r4 T.bPu .nil cL (ai (bP b8 (pv 2) aD (fun _ _=>rfl)) (ai (xp Jg (pv 2) (Aa aD) z9) ay)))))),?_⟩
  have lx:=bJ hx
  refine ⟨_,rfl,l,rfl,⟨_,SqL.of hl⟩,jU (K:=K) (a:=l) (xs:=xs) (fun i σ G=>∃ (u:Option V) (kvs1:List (List Key×V)) (es1:List Ev),σ=[some (.ref c),some (.ref l),u]/\I G c own kvs1/\aW (kE G) kvs1 es1/\es1.Perm (out.take i++es)/\cG own H G) ⟨_,kvs,es,rfl,hI,hkv,dO _,cG.refl _ _⟩ ?_ ?_ ?_⟩
  · rintro i σ G _ ⟨_,_,_,rfl,_,_,_,st⟩
    exact SqL.of (st.keep _ _ hl nl)
  · rintro i x σ G hi ⟨u,kvs1,es1,rfl,hI1,hkv1,pm,st⟩
    obtain ⟨e,he,t,kk,rfl,h1,h2⟩:=jO hx hi
    have h1:=st.tup _ _ h1
    have h2:=st.tup _ _ h2
    obtain ⟨dx,fs,hc,no⟩:=T.ok.inst hI1
    have mem:e∈out:=aM he
    have tk:out.take (i + 1)=out.take i++[e]:=by
      rw [eT,he]
      rfl
    refine ⟨_,rfl,c,dx,fs,rfl,hc,no _ (by simp),_,rfl,t,_,_,_,rfl,rfl,SqT.of h1,rfl,_,rfl,_,rfl,t,_,rfl,SqT.of h1,(by show ¬ (HT.sIx 5 0 (some 1)=0/\HT.sIx 5 5 none=5); decide),fun p hp=>?_⟩
    have sp:=aH hp (.tup [.int e.to,.str e.sg,.int e.a,.int e.b])
    have ln:kvs1.length=(out.take i++es).length:=(bJ hkv1).trans pm.length_eq
    have hkv2:=Paired.mono (fun _ _ z=>kE.tups (fun a xs e=>sp _ _ e) z) hkv1
    have lt:i < out.length:=(aw.mp he).1
    have ne:∀ y∈es1,e.key≠y.key:=fun y hy=>by
      have pw':(out.take i++([e]++(out.drop (i + 1)++es))).Pairwise (fun a b:Ev=>a.key≠b.key):=by
        have:out.take i++([e]++(out.drop (i + 1)++es))=out++es:=by
          rw [<- dQ,<- tk,<- dQ,oR]
        rw [this]
        exact pw
      obtain ⟨p1,p2,p3⟩:=gy.mp pw'
      rcases aU.mp (pm.mem_iff.mp hy) with z | z
      · exact fun q=>p3 y z e (by simp) q.symm
      · exact (gy.mp p2).2.2 e (by simp) y (aV _ z)
    have nv:=IF hkv1 ne
    refine ⟨c,kk,own,e.key,.ref p,kvs1,rfl,T.ok.stay (ps:=[]) hI1 (cG.same sp) (fun b _ z=>nomatch z),sp _ _ h2,ko e mem,nv,?_,fun H' hI2 st2=>?_⟩
    · rw [ln,aB,cN]
      rw [aB] at len
      omega
    · rw [lK _ nv] at hI2
      refine ⟨_,_,es1++[e],rfl,hI2,fb (Paired.mono (fun _ _ z=>kE.tups st2.tup z) hkv2) ⟨rfl,p,rfl,st2.tup _ _ ah⟩,?_,st.trans ((cG.same sp).trans st2)⟩
      rw [tk]
      refine (pm.append (dO _)).trans ?_
      rw [dQ,dQ]
      exact jv.append_left _
  · rintro σ G ⟨u,kvs1,es1,rfl,hI1,hkv1,pm,st⟩
    rw [lx,eC] at pm
    exact k G kvs1 es1 hI1 hkv1 pm st
end
end My
namespace My
open PySem L2
structure wQ (I:CK) (CS:aa) (Ms:List MD) (Hb G:Hp) (c:aa) (own:List aa) (sl rl:aa) (r:RS) (rs:List Rec):Prop where
  ok:ROk Ms.length r
  sm:bF Hb (Hid (sl :: rl :: own) G)
  n1:sl∉own
  n2:rl∉own
  n3:sl≠rl
  hc:∃ kvs es,I G c own kvs/\aW (kE G) kvs es/\es.Perm r.pd
  hs:∃ ss:List aa,G sl=some (.lst (ss.map V.ref))/\aW (StA CS (Hid (sl :: rl :: own) G)) ss r.sts
  hr:∃ rvs,G rl=some (.lst rvs)/\aW (RcIn (Hid (sl :: rl :: own) G)) rvs rs
  wk:∀ (i:Nat) (M:MD) (s:Sta),Ms[i]?=some M->r.sts[i]?=some s->pf M.bs M.qs s.w
def yz (r:RS):Prop:=r.pd.length<=1000/\∀ e∈r.pd,j8 200 e.key
theorem vA {CC:aa} {I:CK} (T:zG CC I) {G:Hp} {c sl rl:aa} {own:List aa} {kvs:List (List Key×V)} {xs ys:List V} (h:I G c own kvs) (h1:G sl=some (.lst xs)) (h2:G rl=some (.lst ys)):∀ a∈sl :: rl :: own,∃ o,G a=some o/\∀ xs,o≠.tup xs:=fun a ha=>by
  rcases ak.mp ha with z | ha
  · rw [z]
    exact ⟨_,h1,fun xs z=>by cases z⟩
  · rcases ak.mp ha with z | z
    · rw [z]
      exact ⟨_,h2,fun xs z=>by cases z⟩
    · exact T.own h a z
theorem wQ.same {CC:aa} {I:CK} (T:zG CC I) {CS:aa} {Ms:List MD} {Hb G G':Hp} {c:aa} {own:List aa} {sl rl:aa} {r:RS} {rs:List Rec} (h:wQ I CS Ms Hb G c own sl rl r rs) (s:bF G G'):wQ I CS Ms Hb G' c own sl rl r rs:=by
  obtain ⟨kvs,es,h1,h2,h3⟩:=h.hc
  obtain ⟨ss,h4,h5⟩:=h.hs
  obtain ⟨rvs,h6,h7⟩:=h.hr
  have f:=qv (ex:=sl :: rl :: own) s
  exact ⟨h.ok,h.sm.trans f,h.n1,h.n2,h.n3,⟨kvs,es,T.stay (ps:=[]) h1 (cG.same s) (fun b _ z=>nomatch z),Paired.mono (fun _ _ z=>z.tups fun a xs e=>s _ _ e) h2,h3⟩,⟨ss,s _ _ h4,Paired.mono (fun _ _ z=>kC.same' f z) h5⟩,⟨rvs,s _ _ h6,Paired.mono (fun _ _ z=>z.same f) h7⟩,h.wk⟩
theorem vB {G:Hp} {a b:aa} {o:HO} {xs:List V} (h:G a=some o) (n:∀ xs,o≠.tup xs) (k:G b=some (.tup xs)):b≠a:=fun z=>by
  rw [z,h] at k
  cases k
  exact n _ rfl
section
variable {P:aO} {w:bj} {K:af} {mg:Str->Option ae} {base:cb} {f fPa fDn CC CM CS CD CF fS fLe fPu fT fLv:aa} {fd fdPa fdDn dS dLe dPu dT dLv:bG} {I:CK} {cf fW:Flt->aa} {fdW:Flt->bG}
seal L2.PS L2.PSs L2.PE L2.PA L2.PT L2.PW L2.PI L2.PG L2.PGs L2.PC
def spDn (CM CS:aa) (I:CK):Sp:=fun vs H Q _=>∃ (Ms:List MD) (Hb:Hp) (m c sl rl:aa) (own:List aa) (r:RS) (rs:List Rec),vs=[.ref m,.ref sl,.ref rl,.ref c]/\yi CM Ms Hb m/\wQ I CS Ms Hb H c own sl rl r rs/\rs.length < 2000/\r.sp=none/\r.pd≠[]/\yz r/\yz (ff Ms r).1 /\
  ∀ v G,wQ I CS Ms Hb G c own sl rl (ff Ms r).1 (rs++(ff Ms r).2)->SpIn (Hid (sl :: rl :: own) G) v (ff Ms r).1.sp->Q v G
abbrev nDx:List Str:=["model","states","records","calendar","left","happening","at","told","fault"]
theorem BX:bD nDx ["model","states","records","calendar"] (aP oO):=⟨rfl,rfl,rfl,by decide +kernel,rfl,by decide +kernel,by decide +kernel⟩
theorem IH (D:Df K mg "do_next" oO ["model","states","records","calendar"] f fd) (T:CkT P w K mg base CC I fS fLe fPu fT fLv dS dLe dPu dT dLv) (DPa:Df K mg "put_all" lS ["calendar","happenings"] fPa fdPa)
    (DDn:Df K mg "done" wz ["model","state","happening"] fDn fdDn) (GDn:∀ bq:List Str×List Str,bg P w K mg base (CXo P w) 37 fDn fdDn ["model","state","happening"] (Ey cf CM CD CS bq.1 bq.2 5))
    (mW:∀ e,gu K (cf e) "word" (fW e)) (bW:∀ e,Binds K (fdW e) ["self"] []) (GW:∀ e,n9 P w K mg base CX0 1 (fW e) (fdW e) ["self"] (oy (AN e))) (XN:∀ e,ur K (cf e)) (mF:mg "Fault"=some (.ref CF)) (hx:∀ e,cQ K (.ref (cf e)) (.ref CF)=some true) :
    bg P w K mg base CX0 38 f fd ["model","states","records","calendar"] (spDn CM CS I):=by
  have GD:=bg.some GDn
  have GPa:bg P w K mg base CX0 5 fPa fdPa ["calendar","happenings"] (Kh I):=IG DPa T
  refine D.F.ok BX (fun vs H Q E h=>?_) (fun cdv A outer s H vs Q E hr h=>?_)
  · obtain ⟨Ms,Hb,m,c,sl,rl,own,r,rs,rfl,_⟩:=h
    rfl
  obtain ⟨Ms,Hb,m,c,sl,rl,own,r,rs,rfl,hM,ca,lrs,hsp,hpd,sm1,sm2,k⟩:=h
  have r1:dN 1 _:=hr.mono (by decide)
  have r5:dN 5 _:=hr.mono (by decide)
  obtain ⟨kvs,es,hI,hkv,pm⟩:=ca.hc
  obtain ⟨ss,hs0,hss⟩:=ca.hs
  obtain ⟨rvs,hr0,hrv⟩:=ca.hr
  -- the last one
  obtain ⟨h,hl⟩:∃ h,r.pd.getLast?=some h:=by
    cases e:r.pd.getLast? with
    | none=>exact absurd (wJ.mp e) hpd
    | some h=>exact ⟨h,rfl⟩
  have spl:=tM hl
  have hin:h∈r.pd:=by
    rw [spl]
    exact aV _ (au.mpr rfl)
  have eo:=ca.ok.ev h hin
  obtain ⟨j,hj⟩:∃ j:Nat,h.to=(j:Int):=⟨h.to.toNat,by have:=eo.to0; omega⟩
  have jl:j < Ms.length:=by have:=eo.to1; omega
  have ej:h.to.toNat=j:=by omega
  have js:j < r.sts.length:=by rw [ca.ok.len]; exact jl
  obtain ⟨Mm,hMm⟩:∃ M,Ms[j]?=some M:=⟨_,aC jl⟩
  obtain ⟨st0,hst0⟩:∃ s,r.sts[j]?=some s:=⟨_,aC js⟩
  have d:Did Ms r h Mm st0:=⟨spl,by rw [ej]; exact hMm,by rw [ej]; exact hst0⟩
  have fall:lW (r.pd.dropLast++[h]):=by
    rw [<- spl]
    exact ca.ok.fall
  rw [spl] at pm
  obtain ⟨es1,hkv1,pm1⟩:=HH hkv pm fall
  -- the bb and the machine
  obtain ⟨dxm,ml,fs,hm,hfs,xs,hml,hxs⟩:=id (hM.same ca.sm)
  obtain ⟨mv,hmv,hMo⟩:=jR hxs hMm
  obtain ⟨sta,hsta,hSt⟩:=jR hss hst0
  have dk:=AQ (P:=fun D=>D.toOk (Ms.length:Int)/\D.deep<=4/\D.size<=3 * ddz 4) hMo.hk ⟨by simp only [Ds.toOk],by simp only [Ds.deep]; omega,by simp only [Ds.size]; omega⟩ h.sg
  have dz:3 * ddz 4<=5000:=by decide
  refine ⟨_,ax (bK (i:=4) BX.nd rfl (Or.inl rfl) (jg (pv 3) T.cl T.mLv T.GLv r5 T.bLv .nil cL))
    (ax (bK (i:=5) BX.nd rfl (Or.inl rfl) (cS Ab (cK (ai (bP b8 (pv 4) aD (fun _ _=>rfl)) ay)) (bP b8 (pv 4) aD (fun _ _=>rfl))))
    (ax (bK (i:=6) BX.nd rfl (Or.inl rfl) (bP b8 (pv 5) aD (fun _ _=>rfl)))
    (ax (Gw (fun C σ G=>∃ (e:Flt) (t th:aa) (G2:Hp) (u7 u8:Option V),C=cf e/\σ=[some (.ref m),some (.ref sl),some (.ref rl),some (.ref c),some (.ref t),some (.ref th),some (.int h.to),u7,u8]/\doS h Mm.ds (ib Mm.hs h.sg) st0.w=.error e/\bF G2 G /\
          (∃ kh,G2 th=some (.tup [.ref kh,.int h.to,.str h.sg,.int h.a,.int h.b])/\G2 kh=some (zD h))/\bF (Hid (sl :: rl :: own) H) (Hid (sl :: rl :: own) G2)/\I G2 c own (gf kvs (kI h.key))/\aW (kE G2) (gf kvs (kI h.key)) es1/\G2 sl=some (.lst (ss.map V.ref))/\G2 rl=some (.lst rvs))
        (fun pins=>aF (bK (i:=7) BX.nd rfl (Or.inl rfl) (Do GD hr (by rfl) DDn.m DDn.F.kp DDn.b zf (ai (pv 0) (ai (bP (yd K (by rfl)) (pv 1) (pv 6) (fun _ _=>rfl)) (ai (pv 5) ay))))))
        (Js 8 (by rfl) mF BX.nd rfl rfl (fun ea=>aF (bV (cK (ai bC (ai (BC (ι:=Flt) (C:=cf) (fm:=fW) (fd:=fdW) (sp:=fun e=>oy (AN e)) (pv 8) XN mW GW ⟨rfl,r1.dp,r1.un⟩ bW cL) (ai (bP (kX K (by rfl)) (pv 5) aD (fun _ _=>rfl)) ay)))))) Gf)
        cE)
    (ax (yP (bP b8 (pv 7) aD (fun _ _=>rfl)) (yO (pv 1) (pv 6) sR))
    (ax (c5 (jX bM cI cJ gN (pv 2) (ai (bP b8 (pv 7) aD (fun _ _=>rfl)) ay)))
    (ax (c5 (cw GPa r5 (by rfl) DPa.m DPa.F.kp DPa.b .nil cL (ai (pv 3) (ai (bP b8 (bP b8 (pv 7) aD (fun _ _=>rfl)) aD (fun _ _=>rfl)) ay))))
    (aF (bV (nG (sv (bP b8 (pv 7) aD (fun _ _=>rfl))) (cK (ai bC (ai (bP b8 (pv 5) aD (fun _ _=>rfl)) ay))) l9))))))))),?_⟩
  -- it leaves
  refine eO (e9 ?_)
  obtain ⟨dxc,fsc,hcO,no⟩:=T.ok.inst hI
  have lkv:kvs.length=r.pd.length:=(bJ hkv).trans (by rw [pm.length_eq,<- spl])
  refine ⟨_,rfl,c,dxc,fsc,rfl,hcO,no _ (by simp),c,own,kvs,rfl,hI,by rw [lkv]; exact sm1.1,fun _ z=>?_,fun a t n v G1 le ev ha ht hI1 st1=>?_⟩
  · rw [z] at lkv
    exact absurd (jF lkv.symm) hpd
  have en:=E4 hkv pm fall le
  subst en
  obtain ⟨tt,rfl,htt⟩:=HI hkv pm fall ev
  have htt:=st1.tup _ _ htt
  refine cT ?_
  dsimp only
  refine eO (e9 ?_)
  refine ⟨_,rfl,t,_,_,_,rfl,rfl,SqT.of ht,rfl,pj,fun p1 hp1=>?_⟩
  have q1:=aH hp1 (.tup [.ref a])
  refine ⟨_,rfl,t,_,_,_,rfl,rfl,SqT.of (q1 _ _ ht),rfl,p1,tt,_,_,rfl,rfl,SqT.of ah,SqT.of (q1 _ _ htt),(by intro z; cases z),(by show 5<=az; decide),(fun z=>by cases z),fun _ th hth=>?_⟩
  refine cT ?_
  dsimp only
  have q2:=aH hth (.tup ([.ref a]++[.int h.to,.str h.sg,.int h.a,.int h.b]))
  have q12:=q1.trans q2
  have F1:bF (Hid (sl :: rl :: own) H) (Hid (sl :: rl :: own) G1):=EE fun b o e n=>st1.keep b o e fun z=>n (by simp [z])
  have hth2:upd (upd G1 p1 (.tup [.ref a])) th (.tup ([.ref a]++[.int h.to,.str h.sg,.int h.a,.int h.b])) th=some (.tup [.ref a,.int h.to,.str h.sg,.int h.a,.int h.b]):=ah
  have hkh:upd (upd G1 p1 (.tup [.ref a])) th (.tup ([.ref a]++[.int h.to,.str h.sg,.int h.a,.int h.b])) a=some (zD h):=q12 _ _ ha
  have hI2:=T.ok.stay (ps:=[]) hI1 (cG.same q12) (fun b _ z=>nomatch z)
  have hkv2:aW (kE (upd (upd G1 p1 (.tup [.ref a])) th (.tup ([.ref a]++[.int h.to,.str h.sg,.int h.a,.int h.b])))) (gf kvs (kI h.key)) es1:=Paired.mono (fun _ _ z=>z.tups fun b xs e=>q12 _ _ (st1.tup _ _ e)) hkv1
  have F2:=F1.trans (qv (ex:=sl :: rl :: own) q12)
  have hs2:=q12 _ _ (st1.keep _ _ hs0 ca.n1)
  have hr2:=q12 _ _ (st1.keep _ _ hr0 ca.n2)
  revert hth2 hkh hI2 hkv2 F2 hs2 hr2
  clear q12 q2 hth q1 hp1
  generalize upd (upd G1 p1 (.tup [.ref a])) th (.tup ([.ref a]++[.int h.to,.str h.sg,.int h.a,.int h.b]))=G2
  intro hth2 hkh hI2 hkv2 F2 hs2 hr2
  have nt2:=vA T.ok hI2 hs2 hr2
  have sF2:bF (Hid (sl :: rl :: own) H) G2:=F2.trans oA
  refine eO (e9 ?_)
  refine ⟨_,rfl,th,_,_,_,rfl,rfl,SqT.of hth2,rfl,?_⟩
  refine cT ?_
  dsimp only
  refine eO ?_
  refine ⟨?_,fun C σ' G6 hl ht=>?_⟩
  · refine e9 ?_
    have at1:atI (ss.map V.ref) h.to=some (.ref sta):=by
      rw [hj]
      exact jG (by rw [bf,hsta]; rfl)
    refine ⟨_,rfl,_,rfl,_,rfl,sl,_,_,_,rfl,rfl,SqL.of hs2,at1,_,rfl,?_⟩
    refine ⟨(Mm.bs,Mm.qs),m,dxm,ml,sta,fs,xs,.ref th,mv,h,Mm.ds,Mm.hs,st0.bx,st0.qu,st0.dr,st0.se,rfl,sF2 _ _ hm,hfs,sF2 _ _ hml,⟨th,a,rfl,hth2,hkh⟩,by rw [hj]; exact jG hmv,(hMo.same sF2).ma,kC.same' sF2 hSt,ca.wk j Mm st0 hMm hst0,eo.wt,eo.wa,eo.wb,by omega,by omega,?_⟩
    cases ew:doS h Mm.ds (ib Mm.hs h.sg) (w0 st0.bx st0.qu st0.dr st0.se) with
    | error e =>
      exact fun G6 s6=>⟨_,rfl,e,t,th,G2,_,_,rfl,rfl,ew,s6,⟨a,hth2,hkh⟩,F2,hI2,hkv2,hs2,hr2⟩
    | ok w' =>
      intro G6 L t6 rc wl ws1 ws2 qa Dn
      have ew':doS h Mm.ds (ib Mm.hs h.sg) st0.w=.ok w':=ew
      rw [mJ d ew'] at k sm2
      have N:=j6 (m:=(Ms.length:Int)) _ _ _ dk.1 ew'
      obtain ⟨nw1,nw2,nw3⟩:=yh ca.ok d N
      obtain ⟨H0,s0,g⟩:=Dn.dg
      have rok:=qt ca.ok d ew' N g.ok.wo
      rw [mJ d ew'] at rok
      obtain ⟨vs,hod,nod,hvs,hrec⟩:=Dn.told nt2
      have sm6:=Dn.sm
      obtain ⟨kk,hrc,_⟩:=Dn.hrc
      have nx:∀ a∈L.all,a∉sl :: rl :: own:=fun a ha z=>by
        obtain ⟨o,e,_⟩:=nt2 a z
        have:=g.fr a ha
        rw [s0 _ _ e] at this
        cases this
      have hsn:=g.sta nx
      have f6:bF (Hid (sl :: rl :: own) H) (Hid (sl :: rl :: own) G6):=F2.trans (qv sm6)
      have hI6:=T.ok.stay (ps:=[]) hI2 (cG.same sm6) (fun b _ z=>nomatch z)
      have hkv6:=Paired.mono (fun _ _ z=>kE.tups (fun b xs e=>sm6 _ _ e) z) hkv2
      have hs6:=sm6 _ _ hs2
      have hr6:=sm6 _ _ hr2
      have nt6:=vA T.ok hI6 hs6 hr6
      refine cT ?_
      refine EG ?_
      dsimp only
      refine EG ?_
      dsimp only
      -- the new state
      have jl2:j < (ss.map V.ref).length:=(aw.mp (show (ss.map V.ref)[j]?=some (.ref sta) by rw [bf,hsta]; rfl)).1
      refine eO (e9 ?_)
      refine ⟨_,rfl,t6,_,_,_,rfl,rfl,SqT.of Dn.ht,rfl,?_⟩
      refine ⟨_,rfl,_,rfl,sl,_,_,j,rfl,rfl,hs6,by rw [hj]; exact JY jl2,?_⟩
      -- the record
      have nsl:∀ {b xs},G6 b=some (.tup xs)->b≠sl:=fun e=>vB hs6 (fun xs z=>by cases z) e
      have nrl:∀ {b xs},G6 b=some (.tup xs)->b≠rl:=fun e=>vB hr6 (fun xs z=>by cases z) e
      have ht7:upd G6 sl (.lst ((ss.map V.ref).set j (.ref L.st))) t6=some (.tup [.ref L.st,.ref rc,.bl w'.en]):=bL Dn.ht (nsl Dn.ht)
      have hr7:upd G6 sl (.lst ((ss.map V.ref).set j (.ref L.st))) rl=some (.lst rvs):=bL hr6 ca.n3.symm
      have lrv:=bJ hrv
      have big:2000 < az:=by decide
      refine eO ?_
      refine ⟨_,rfl,.inl ⟨rfl,_,SqL.of hr7⟩,_,rfl,t6,_,_,_,rfl,rfl,SqT.of ht7,rfl,rl,rvs,.ref rc,rfl,rfl,hr7,by omega,?_⟩
      have F8:Hid (sl :: rl :: own) (upd (upd G6 sl (.lst ((ss.map V.ref).set j (.ref L.st)))) rl (.lst (rvs++[.ref rc])))=Hid (sl :: rl :: own) G6:=by
        rw [AM (by simp),AM (by simp)]
      have hs8:upd (upd G6 sl (.lst ((ss.map V.ref).set j (.ref L.st)))) rl (.lst (rvs++[.ref rc])) sl=some (.lst ((ss.map V.ref).set j (.ref L.st))):=bL ah ca.n3
      have hr8:upd (upd G6 sl (.lst ((ss.map V.ref).set j (.ref L.st)))) rl (.lst (rvs++[.ref rc])) rl=some (.lst (rvs++[.ref rc])):=ah
      have st8:cG [sl,rl] G6 (upd (upd G6 sl (.lst ((ss.map V.ref).set j (.ref L.st)))) rl (.lst (rvs++[.ref rc]))):=(cG.upd (by simp) hs6 (fun xs z=>by cases z)).trans (cG.upd (by simp) hr7 (fun xs z=>by cases z))
      have hI8:=T.ok.stay hI6 st8 (fun b hb z=>by
        simp only [ak,aX,or_false] at z
        rcases z with z | z
        · exact ca.n1 (by rw [<- z]; exact hb)
        · exact ca.n2 (by rw [<- z]; exact hb))
      have hkv8:=Paired.mono (fun _ _ z=>kE.tups st8.tup z) hkv6
      have hod8:=st8.keep _ _ hod (fun z=>nod (by
        simp only [ak,aX,or_false] at z
        rcases z with z | z <;> simp [z]))
      have ht8:=st8.tup _ _ Dn.ht
      have hrc8:=st8.tup _ _ hrc
      have hth8:=st8.tup _ _ (sm6 _ _ hth2)
      have hkh8:=st8.tup _ _ (sm6 _ _ hkh)
      have hvs8:aW (jB (upd (upd G6 sl (.lst ((ss.map V.ref).set j (.ref L.st)))) rl (.lst (rvs++[.ref rc])))) vs w'.out:=Paired.mono (fun _ _ z=>(z.same oA).tups st8.tup) hvs
      revert F8 hs8 hr8 hI8 hkv8 hod8 ht8 hrc8 hth8 hkh8 hvs8
      clear st8 ht7 hr7
      generalize upd (upd G6 sl (.lst ((ss.map V.ref).set j (.ref L.st)))) rl (.lst (rvs++[.ref rc]))=G8
      intro F8 hs8 hr8 hI8 hkv8 hod8 ht8 hrc8 hth8 hkh8 hvs8
      dsimp only
      -- what was sent is put in
      have ipm:=gr w'.out r.pd.dropLast
      have pmA:(w'.out++es1).Perm (pk w'.out r.pd.dropLast):=((dO _).append pm1).trans ipm.symm
      refine eO ?_
      refine ⟨_,rfl,_,rfl,t6,_,_,_,rfl,rfl,SqT.of ht8,rfl,rc,_,_,_,rfl,rfl,SqT.of hrc8,rfl,c,L.od,own,_,es1,vs,w'.out,rfl,hI8,hkv8,hod8,fun z=>nod (by simp [z]),hvs8,fun e he=>sm2.2 e (ipm.mem_iff.mpr (d9 _ he)),?_,?_,fun G9 kvs9 es9 hI9 hkv9 pm9 st9=>?_⟩
      · refine (pmA.pairwise_iff (fun z=>fun q=>z q.symm)).mpr (A0 rok.fall)
      · rw [pmA.length_eq]
        exact sm2.1
      have F9:bF (Hid (sl :: rl :: own) G6) (Hid (sl :: rl :: own) G9):=by
        rw [<- F8]
        exact EE fun b o e n=>st9.keep b o e fun z=>n (by simp [z])
      have hs9:=st9.keep _ _ hs8 ca.n1
      have hr9:=st9.keep _ _ hr8 ca.n2
      have ht9:=st9.tup _ _ ht8
      have hth9:=st9.tup _ _ hth8
      have hkh9:=st9.tup _ _ hkh8
      have wk9:∀ (i:Nat) (M:MD) (s:Sta),Ms[i]?=some M->(r.sts.set h.to.toNat ⟨w'.bx,w'.qu,w'.dr,w'.se⟩)[i]?=some s->pf M.bs M.qs s.w:=fun i M s hi hs=>by
        rw [ej] at hs
        by_cases z:i=j
        · rw [z,eQ js] at hs
          rw [z,hMm] at hi
          cases hs
          cases hi
          exact g.ok.clean
        · rw [ie (fun y=>z y.symm)] at hs
          exact ca.wk i M s hi hs
      have ems:(ss.map V.ref).set j (.ref L.st)=(ss.set j L.st).map V.ref:=List.map_set.symm
      rw [ems] at hs9
      have CA:∀ {b:Bool} {re:Option Ev},ROk Ms.length ⟨r.sts.set h.to.toNat ⟨w'.bx,w'.qu,w'.dr,w'.se⟩,pk w'.out r.pd.dropLast,re,if b=true then some (.fin h) else none⟩->wQ I CS Ms Hb G9 c own sl rl ⟨r.sts.set h.to.toNat ⟨w'.bx,w'.qu,w'.dr,w'.se⟩,pk w'.out r.pd.dropLast,re,if b=true then some (.fin h) else none⟩ (rs++[⟨h,wrB Mm.bs w',wrQ Mm.qs w',w'.out⟩]):=fun ro =>
        ⟨ro,(ca.sm.trans f6).trans F9,ca.n1,ca.n2,ca.n3,⟨kvs9,es9,hI9,hkv9,pm9.trans pmA⟩,⟨_,hs9,by
          rw [ej]
          exact Paired.set (Paired.mono (fun _ _ z=>kC.same' (f6.trans F9) z) hss) j (kC.same' F9 hsn)⟩,⟨_,hr9,fb (Paired.mono (fun _ _ z=>z.same (f6.trans F9)) hrv) (hrec.same F9)⟩,wk9⟩
      dsimp only
      refine tJ ?_
      refine ⟨_,rfl,t6,_,_,_,rfl,rfl,SqT.of ht9,rfl,w'.en,rfl,?_⟩
      cases een:w'.en with
      | true =>
        rw [een] at k rok
        refine gJ ?_
        refine ⟨_,rfl,th,_,_,_,rfl,rfl,SqT.of hth9,rfl,lt2,fun tz htz=>?_⟩
        have sz:=aH htz (.tup [.str "end",.ref a])
        have cz:=(CA rok).same T.ok sz
        obtain ⟨kz,ez,z1,_⟩:=cz.hc
        obtain ⟨ssz,z2,_⟩:=cz.hs
        obtain ⟨rvz,z3,_⟩:=cz.hr
        have ntz:=vA T.ok z1 z2 z3
        exact k _ _ cz ⟨tz,a,rfl,ic ntz ah,ic ntz (sz _ _ hkh9)⟩
      | false =>
        rw [een] at k rok
        refine fG ?_
        exact k _ _ (CA rok) rfl
  · -- a fault
    obtain ⟨e,t',th',G3,u7,u8,rfl,rfl,ew,s6,⟨kh,y1,y2⟩,y3,y4,y5,y6,y7⟩:=ht
    rw [oz d ew] at k
    have rok:=vp ca.ok d ew
    rw [oz d ew] at rok
    refine .inl ⟨hx e,fun ea hea=>?_⟩
    have sx:=aH hea (XO ea (cf e))
    have s7:=s6.trans sx
    refine tJ ?_
    refine ⟨_,rfl,ea,e,rfl,ah,_,rfl,_,rfl,th',_,_,_,rfl,rfl,SqT.of (s7 _ _ y1),rfl,(by show 3<=az; decide),fun tz htz=>?_⟩
    have sz:=aH htz (.tup [.str "fault",.str (AN e),.ref kh])
    have s8:=s7.trans sz
    have f8:=y3.trans (qv (ex:=sl :: rl :: own) s8)
    have z1:=T.ok.stay (ps:=[]) y4 (cG.same s8) (fun b _ z=>nomatch z)
    have ntz:=vA T.ok z1 (s8 _ _ y6) (s8 _ _ y7)
    refine k _ _ ⟨rok,ca.sm.trans f8,ca.n1,ca.n2,ca.n3,⟨_,es1,z1,Paired.mono (fun _ _ z=>z.tups fun b xs e=>s8 _ _ e) y5,pm1⟩,⟨ss,s8 _ _ y6,Paired.mono (fun _ _ z=>kC.same' f8 z) hss⟩,⟨rvs,s8 _ _ y7,?_⟩,ca.wk⟩ ⟨tz,kh,rfl,ic ntz ah,ic ntz (s8 _ _ y2)⟩
    rw [cW]
    exact Paired.mono (fun _ _ z=>z.same f8) hrv
end
end My
namespace My
open PySem L2
theorem New.staN {H G G':Hp} {CS st dx bd qd:aa} {ls:List aa} {M:MD} (s:bF H G) (N:New G G' CS st M.ps M.qs dx bd qd ls) (nb:(M.ps.map (·.1)).Nodup) (nq:M.qs.Nodup):StA CS (Nw H G') st (st0 M):=by
  have N':New (fun _=>none) (Nw G G') CS st M.ps M.qs dx bd qd ls:=⟨by rw [qm N.ost]; exact N.hst,by rw [qm N.obd]; exact N.hbd,by rw [qm N.oqd]; exact N.hqd,N.len,N.nd,fun l hl=>⟨rfl,by rw [qm (N.li l hl).1]; exact (N.li l hl).2⟩,rfl,rfl,rfl,N.ne,fun a o e=>by cases e⟩
  exact kC.same' (wA (om s)) (N'.sta nb nq)
theorem Ki {H G G':Hp} {sl rl:aa} {own:List aa} (s:∀ a o,G a=some o->a∉own->G' a=some o) (ho:∀ a∈own,H a≠none) (h1:G sl=none) (h2:G rl=none):bF (Nw H G) (Hid (sl :: rl :: own) G'):=fun a o e=>by
  have e':=Il _ _ e
  have n:H a=none:=by
    unfold Nw at e
    by_cases c:H a=none
    · exact c
    · rw [if_neg c] at e
      cases e
  have no:a∉own:=fun z=>ho a z n
  rw [ip fun z=>by
    rcases ak.mp z with y | z
    · rw [y,h1] at e'
      cases e'
    · rcases ak.mp z with y | y
      · rw [y,h2] at e'
        cases e'
      · exact no y]
  exact s _ _ e' no
theorem vC {r:RS} {left:Int} (h:r.sp=none) (e:r.pd=[]):kD r left=some .empty:=by
  unfold kD
  rw [h,e]
  rfl
theorem A1 {r:RS} {left:Int} (h:r.sp=none) (e:r.pd≠[]) (l:left<=0):kD r left=some .cut:=by
  unfold kD
  rw [h]
  dsimp only
  rw [if_neg (by simpa using e),if_pos l]
theorem E5 {r:RS} {left:Int} (h:r.sp=none) (e:r.pd≠[]) (l:¬ left<=0):kD r left=none:=by
  unfold kD
  rw [h]
  dsimp only
  rw [if_neg (by simpa using e),if_neg l]
def bMu (σ:St) (G:Hp):Nat:=match (σ[6]?:Option (Option V)),(σ[5]?:Option (Option V)) with
  | some (some .non),some (some (.ref rl))=>(match G rl with | some (.lst rs)=>1 + (2000 - rs.length) | _=>0)
  | _,_=>0
theorem A2 {σ:St} {G:Hp} {rl:aa} {rs:List V} (h6:σ[6]?=some (some .non)) (h5:σ[5]?=some (some (.ref rl))) (hr:G rl=some (.lst rs)):bMu σ G=1 + (2000 - rs.length):=by
  unfold bMu
  rw [h6,h5]
  dsimp only
  rw [hr]
theorem wR {σ:St} {G:Hp} {t:aa} (h6:σ[6]?=some (some (.ref t))):bMu σ G=0:=by
  unfold bMu
  rw [h6]
section
variable {P:aO} {w:bj} {K:af} {mg:Str->Option ae} {base:cb} {f fF fPf fPa fDx fBk CC CM CS CB fS fLe fPu fT fLv:aa} {fd fdF fdPf fdPa fdDx fdBk dS dLe dPu dT dLv:bG} {I:CK}
seal L2.PS L2.PSs L2.PE L2.PA L2.PT L2.PW L2.PI L2.PG L2.PGs L2.PC
def BY (CM CS CB:aa) (I:CK):Sp:=fun vs H Q _=>∃ (Ms:List MD) (m sgl c:aa) (own:List aa) (svs:List V) (es:List Ev) (most:Int),vs=[.ref m,.ref sgl,.int most,.ref c]/\yi CM Ms (Hid own H) m/\Ms.length < 1000/\H sgl=some (.lst svs)/\aW (ye H) svs es/\es.length < 64/\(∀ e∈es,Hr Ms.length e)/\most<=1000/\I H c own [] /\
  (∀ j,(∀ i,i < j->kD (itR Ms (hJ Ms es) i).1 (most - (itR Ms (hJ Ms es) i).2.length)=none)->yz (itR Ms (hJ Ms es) j).1) /\
  ∀ (G:Hp) (b:aa) (i:Nat) (e:End),bF (Hid own H) G->rE Ms (hJ Ms es) most i e->JZ CB CS G b (itR Ms (hJ Ms es) i) e->Q (.ref b) G
abbrev nBc:List Str:=["model","signs","most","calendar","states","records","ending"]
theorem zM:bD nBc ["model","signs","most","calendar"] (aP iy):=⟨rfl,rfl,rfl,by decide +kernel,rfl,by decide +kernel,by decide +kernel⟩
theorem ndBc:((["at"]:List Str)++nBc).Nodup:=by decide +kernel
theorem II (D:Df K mg "by_calendar" iy ["model","signs","most","calendar"] f fd) (T:CkT P w K mg base CC I fS fLe fPu fT fLv dS dLe dPu dT dLv) (DPa:Df K mg "put_all" lS ["calendar","happenings"] fPa fdPa) (DDx:Df K mg "do_next" oO ["model","states","records","calendar"] fDx fdDx) (GDx:bg P w K mg base CX0 38 fDx fdDx ["model","states","records","calendar"] (spDn CM CS I))
    (DF:Df K mg "first_state" i5 ["model","at"] fF fdF) (GF:bg P w K mg base CX0 3 fF fdF ["model","at"] (xY CM CS)) (DPf:Df K mg "pending_at_first" fK ["signs"] fPf fdPf) (GPf:bg P w K mg base CX0 1 fPf fdPf ["signs"] IB)
    (MB:Mk K CB fBk) (bB:Binds K fdBk ["self","records","ending","states"] []) (GB:bg P w K mg base CX0 1 fBk fdBk ["self","records","ending","states"] (spBk CB)) (TB:BkT K mg CB) (TM:MdT K mg CM CS) (B:Bl mg) :
    bg P w K mg base CX0 39 f fd ["model","signs","most","calendar"] (BY CM CS CB I):=by
  have GPa:bg P w K mg base CX0 5 fPa fdPa ["calendar","happenings"] (Kh I):=IG DPa T
  refine D.F.ok zM (fun vs H Q E h=>?_) (fun cdv A outer s H vs Q E hr h=>?_)
  · obtain ⟨Ms,m,sgl,c,own,svs,es,most,rfl,_⟩:=h
    rfl
  obtain ⟨Ms,m,sgl,c,own,svs,es,most,rfl,hM,hlen,hsg,hsv,hes,heo,hmost,hI,small,k⟩:=h
  have hu:=ji hr
  have r1:dN 1 _:=hr.mono (by decide)
  have r2:dN 2 _:=hr.mono (by decide)
  have r3:dN 3 _:=hr.mono (by decide)
  have r5:dN 5 _:=hr.mono (by decide)
  refine ⟨_,ax (Ai (i:=4) ["at"] (gY.open (NN:=nBc) (N:=nBc) (sc:=aP iy) rfl rfl (by decide +kernel) rfl (by decide +kernel) (by decide +kernel) rfl (by decide +kernel)) rfl zM.nd rfl (Or.inl rfl) (oJ (by rfl) B.range (ai (cZ (jP K (by rfl)) (by rfl) B.len df (ai (mI K (by rfl) (pv 0) (by rfl)) ay)) ay)) (fun _ _ _ _=>eF (i:=0) ndBc rfl (Or.inl rfl)) (fun _ _ _ _=>jJ)
      (fun _ _ _ _=>cw GF r3 (by rfl) DF.m DF.F.kp DF.b .nil cL (ai (pv 1) (ai (pv 0) ay))))
    (ax (bK (i:=5) zM.nd rfl (Or.inl rfl) (dP ay))
    (ax (c5 (cw GPa r5 (by rfl) DPa.m DPa.F.kp DPa.b .nil cL (ai (pv 3) (ai (cw GPf r1 (by rfl) DPf.m DPf.F.kp DPf.b .nil cL (ai (pv 1) ay)) ay))))
    (ax (bK (i:=6) zM.nd rfl (Or.inl rfl) l9)
    (ax (sy dB (me (vI (pv 6)))
      (aF (c9 (bZ gc (jg (pv 3) T.cl T.mS T.GS r1 T.bS .nil cL) aD (cB _)) (aF (bK (i:=6) zM.nd rfl (Or.inl rfl) (cK (ai bC ay))))
        (aF (c9 (bZ HW (cZ (jP K (by rfl)) (by rfl) B.len df (ai (pv 5) ay)) (pv 2) (cB _)) (aF (bK (i:=6) zM.nd rfl (Or.inl rfl) (cK (ai bC ay))))
          (aF (bK (i:=6) zM.nd rfl (Or.inl rfl) (cw GDx hr (by rfl) DDx.m DDx.F.kp DDx.b .nil cL (ai (pv 0) (ai (pv 4) (ai (pv 5) (ai (pv 3) ay))))))))))))
    (aF (bV (oK MB GB r2 (by rfl) TB.m bB .nil cL (ai (pv 5) (ai (pv 6) (ai (pv 4) ay)))))))))),?_⟩
  have hM0:=hM.same (oA (ex:=own) (G:=H))
  obtain ⟨dxm,ml,fs,hm,hfs,xs,hml,hxs⟩:=id hM0
  have lxs:xs.length=Ms.length:=bJ hxs
  have big:=iR
  have ino:∀ a∈own,H a≠none:=fun a ha z=>by
    obtain ⟨o,e,_⟩:=T.ok.own hI a ha
    rw [z] at e
    cases e
  refine eO (e9 ?_)
  refine BN (K:=K) (ms:=xs) rfl hm TM.clM TM.nM hfs hml (by omega) (fun i ys G=>∃ ss:List aa,ys=ss.map V.ref/\bF H G/\aW (StA CS (Nw H G)) ss ((Ms.take i).map st0)) ⟨[],rfl,bF.refl _,by rw [pD]; exact .nil⟩ ?_ ?_ ?_
  · rintro i ys G hi ⟨ss,rfl,s1,p1⟩
    have:=bJ p1
    rw [av,cN] at this
    rw [av]
    omega
  · rintro i ys G hi ⟨ss,rfl,s1,p1⟩
    obtain ⟨Mi,hMi⟩:∃ M,Ms[i]?=some M:=⟨_,aC (by omega)⟩
    obtain ⟨x,hx,mo⟩:=jR hxs hMi
    obtain ⟨t,bl,ql,n0,x3,x4,vb,rfl,g1,g2,g3,g4⟩:=mo.fs
    refine ⟨rfl,?_⟩
    unfold um
    refine gJ ?_
    have lb:Mi.ps.length<=100:=by
      have e:=congrArg sP mo.kb
      rw [av] at e
      have:=mo.lb
      omega
    have lq:Mi.qs.length<=100:=by
      have:=mo.lq
      omega
    refine ⟨_,rfl,_,rfl,m,dxm,ml,t,bl,ql,fs,n0,x3,x4,i,xs,vb,Mi.ps,Mi.qs,by rw [Int.zero_add]; rfl,s1 _ _ hm,hfs,s1 _ _ hml,hx,s1 _ _ g1,s1 _ _ g2,g3.same s1,lb,s1 _ _ g4,lq,fun st dx bd qd ls G' N=>?_⟩
    refine ⟨ss++[st],by rw [ba]; rfl,s1.trans N.same,?_⟩
    rw [eT,hMi,ba]
    exact fb (Paired.mono (fun _ _ z=>kC.same' (qp N.same) z) p1) (N.staN s1 (by rw [mo.kb]; exact mo.nb) mo.nq)
  rintro ys G ⟨ss,rfl,s1,p1⟩
  rw [lxs,eC] at p1
  intro sl hsl
  have ssl:=aH hsl (.lst (ss.map V.ref))
  refine cT ?_
  dsimp only
  -- no records
  refine eO (e9 ?_)
  refine ⟨bA _,fun rl hrl=>?_⟩
  refine cT ?_
  dsimp only
  have srl:=aH hrl (.lst [])
  have nsr:sl≠rl:=aN ah hrl
  have Grl:=none_of ssl hrl
  have hsl2:=srl _ _ (ah:upd G sl (.lst (ss.map V.ref)) sl=_)
  have hrl2:upd (upd G sl (.lst (ss.map V.ref))) rl (.lst []) rl=some (.lst []):=ah
  have sG2:=ssl.trans srl
  revert hsl2 hrl2 sG2
  generalize upd (upd G sl (.lst (ss.map V.ref))) rl (.lst [])=G2
  intro hsl2 hrl2 sG2
  -- the outside signs
  have sH2:=s1.trans sG2
  refine eO ?_
  refine ⟨_,rfl,_,rfl,sgl,svs,es,rfl,sH2 _ _ hsg,Paired.mono (fun _ _ z=>z.same sH2) hsv,by omega,fun G3 l0 ys sm3 fl0 hl0 ly hy=>?_⟩
  have hys:aW (jB G3) ys (qx es):=lF (by rw [EL]; exact ly) fun i y e hy' he=>by
    obtain ⟨e',h',rfl⟩:=qy he
    exact hy i y e' hy' h'
  have sH3:=sH2.trans sm3
  have nl0:l0∉own:=fun z=>ino _ z (none_of sH2 fl0)
  have hI3:=T.ok.stay (ps:=[]) hI (cG.same sH3) (fun b _ z=>nomatch z)
  have sm0:yz (hJ Ms es):=small 0 fun i hi=>absurd hi (iJ _)
  have ipm:=gr (qx es) []
  refine ⟨c,l0,own,[],[],ys,qx es,rfl,hI3,.nil,hl0,nl0,hys,fun e he=>sm0.2 e (ipm.mem_iff.mpr (d9 _ he)),by rw [cW]; exact AS es,by rw [<- ipm.length_eq]; exact sm0.1,fun G4 kvs4 es4 hI4 hkv4 pm4 st4=>?_⟩
  dsimp only
  have nso:sl∉own:=fun z=>ino _ z (none_of s1 hsl)
  have nro:rl∉own:=fun z=>ino _ z (none_of s1 Grl)
  have Hsl:=none_of s1 hsl
  have Hrl:=none_of s1 Grl
  have ca0:wQ I CS Ms (Hid own H) G4 c own sl rl (hJ Ms es) []:=by
    refine ⟨AU heo,fun a o e=>?_,nso,nro,nsr,⟨kvs4,es4,hI4,hkv4,pm4.trans ipm.symm⟩,⟨ss,st4.keep _ _ (sm3 _ _ hsl2) nso,Paired.mono (fun _ _ z=>kC.same' (Ki (fun a o e no=>st4.keep _ _ (sm3 _ _ (sG2 _ _ e)) no) ino hsl Grl) z) p1⟩,⟨[],st4.keep _ _ (sm3 _ _ hrl2) nro,.nil⟩,fun i M s hi hs=>?_⟩
    · have no:=tO e
      have e':=oA _ _ e
      rw [ip fun z=>by
        rcases ak.mp z with y | z
        · rw [y,Hsl] at e'
          cases e'
        · rcases ak.mp z with y | y
          · rw [y,Hrl] at e'
            cases e'
          · exact no y]
      exact st4.keep _ _ (sH3 _ _ e') no
    · have hs:(Ms.map st0)[i]?=some s:=hs
      rw [bf,hi] at hs
      cases hs
      obtain ⟨x,_,mo⟩:=jR hxs hi
      exact mo.wk0
  -- the run
  refine eO (e9 ?_)
  refine cT ?_
  dsimp only
  refine eO ?_
  have mo:=hM0.ok
  refine sC (fun σ G=>∃ (i:Nat) (en:V),σ=[some (.ref m),some (.ref sgl),some (.int most),some (.ref c),some (.ref sl),some (.ref rl),some en]/\(∀ j,j < i->ROk Ms.length (itR Ms (hJ Ms es) j).1/\kD (itR Ms (hJ Ms es) j).1 (most - (itR Ms (hJ Ms es) j).2.length)=none)/\wQ I CS Ms (Hid own H) G c own sl rl (itR Ms (hJ Ms es) i).1 (itR Ms (hJ Ms es) i).2 /\
      (((itR Ms (hJ Ms es) i).1.sp=none/\en=.non)\/∃ e,kD (itR Ms (hJ Ms es) i).1 (most - (itR Ms (hJ Ms es) i).2.length)=some e/\pN (Hid (sl :: rl :: own) G) en e)) bMu ?_ ?_ ?_
  · exact ⟨0,.non,rfl,fun j hj=>absurd hj (iJ _),ca0,.inl ⟨rfl,rfl⟩⟩
  · rintro σ G5 ⟨i,en,rfl,hj,ca,hd⟩
    obtain ⟨kvs,es5,hI5,hkv5,pm5⟩:=ca.hc
    obtain ⟨ss5,hs5,_⟩:=ca.hs
    obtain ⟨rvs,hr5,hrv⟩:=ca.hr
    have lkv:kvs.length=(itR Ms (hJ Ms es) i).1.pd.length:=(bJ hkv5).trans pm5.length_eq
    have lrv:=bJ hrv
    rcases hd with ⟨hsp,rfl⟩ | ⟨e,hd,hen⟩
    · refine ⟨_,rfl,_,rfl,gJ ?_⟩
      have mu1:bMu [some (.ref m),some (.ref sgl),some (.int most),some (.ref c),some (.ref sl),some (.ref rl),some .non] G5=1 + (2000 - rvs.length):=A2 rfl rfl hr5
      obtain ⟨dxc,fsc,hcO,no⟩:=T.ok.inst hI5
      refine ⟨_,rfl,c,dxc,fsc,rfl,hcO,no _ (by simp),c,own,kvs,rfl,hI5,rfl,_,rfl,jj (fun c0=>?_) (fun c0=>?_)⟩
      · have e0:kvs.length=0:=by
          have:=of_decide_eq_true c0
          injection this with this
          omega
        have pd0:(itR Ms (hJ Ms es) i).1.pd=[]:=jF (by omega)
        refine e9 ?_
        refine ⟨pj,fun t ht=>?_⟩
        have st_:=aH ht (.tup [.str "empty"])
        refine cT ?_
        have ca':=ca.same T.ok st_
        obtain ⟨kz,ez,z1,_⟩:=ca'.hc
        obtain ⟨ssz,z2,_⟩:=ca'.hs
        obtain ⟨rvz,z3,_⟩:=ca'.hr
        refine ⟨⟨i,_,rfl,hj,ca',.inr ⟨.empty,vC hsp pd0,t,rfl,ic (vA T.ok z1 z2 z3) ah⟩⟩,?_⟩
        rw [mu1,wR rfl]
        omega
      · have pd0:(itR Ms (hJ Ms es) i).1.pd≠[]:=fun z=>c0 (by
          rw [z] at lkv
          have lkv:kvs.length=0:=lkv
          rw [lkv]
          exact decide_eq_true rfl)
        refine ⟨_,rfl,rl,rvs,rfl,.inl (SqL.of hr5),_,rfl,_,_,rfl,rfl,_,rfl,jj (fun c1=>?_) (fun c1=>?_)⟩
        · have c1:=of_decide_eq_true c1
          refine e9 ?_
          refine ⟨pj,fun t ht=>?_⟩
          have st_:=aH ht (.tup [.str "cut"])
          refine cT ?_
          have ca':=ca.same T.ok st_
          obtain ⟨kz,ez,z1,_⟩:=ca'.hc
          obtain ⟨ssz,z2,_⟩:=ca'.hs
          obtain ⟨rvz,z3,_⟩:=ca'.hr
          refine ⟨⟨i,_,rfl,hj,ca',.inr ⟨.cut,A1 hsp pd0 (by omega),t,rfl,ic (vA T.ok z1 z2 z3) ah⟩⟩,?_⟩
          rw [mu1,wR rfl]
          omega
        · have c1:¬ most<=(rvs.length:Int):=fun z=>c1 (decide_eq_true z)
          have due:kD (itR Ms (hJ Ms es) i).1 (most - (itR Ms (hJ Ms es) i).2.length)=none:=E5 hsp pd0 (by omega)
          have hj':∀ j,j < i + 1->ROk Ms.length (itR Ms (hJ Ms es) j).1/\kD (itR Ms (hJ Ms es) j).1 (most - (itR Ms (hJ Ms es) j).2.length)=none:=fun j hlt=>by
            rcases nZ j i with z | z
            · exact hj j z
            · have:j=i:=by omega
              rw [this]
              exact ⟨ca.ok,due⟩
          obtain ⟨_,sl2⟩:=EK (Hv mo ca.ok pd0)
          refine e9 ?_
          refine ⟨_,rfl,_,rfl,_,rfl,_,rfl,Ms,Hid own H,m,c,sl,rl,own,_,_,rfl,hM,ca,by omega,hsp,pd0,small i fun j hlt=>(hj j hlt).2,small (i + 1) fun j hlt=>(hj' j hlt).2,fun v G6 ca6 hv=>?_⟩
          refine cT ?_
          have ca6':wQ I CS Ms (Hid own H) G6 c own sl rl (itR Ms (hJ Ms es) (i + 1)).1 (itR Ms (hJ Ms es) (i + 1)).2:=ca6
          obtain ⟨rv6,hr6,hrv6⟩:=ca6.hr
          have l6:=bJ hrv6
          rw [aB] at l6
          cases hsp6:(ff Ms (itR Ms (hJ Ms es) i).1).1.sp with
          | none =>
            rw [hsp6] at hv
            have hv:v=.non:=hv
            subst hv
            refine ⟨⟨i + 1,_,rfl,hj',ca6',.inl ⟨hsp6,rfl⟩⟩,?_⟩
            rcases sl2 with ⟨q,eq⟩ | ⟨_,s6,es6⟩
            · rw [mu1]
              show bMu [some (.ref m),some (.ref sgl),some (.int most),some (.ref c),some (.ref sl),some (.ref rl),some .non] G6 < _
              rw [A2 rfl rfl hr6]
              rw [eq] at l6
              simp only [aL,cy] at l6
              omega
            · rw [hsp6] at es6
              cases es6
          | some s6 =>
            rw [hsp6] at hv
            have hE:pN (Hid (sl :: rl :: own) G6) v (.stp s6):=hv
            obtain ⟨t,rfl⟩:=hE.ref
            refine ⟨⟨i + 1,_,rfl,hj',ca6',.inr ⟨.stp s6,EJ hsp6,hE⟩⟩,?_⟩
            rw [mu1]
            show bMu [some (.ref m),some (.ref sgl),some (.int most),some (.ref c),some (.ref sl),some (.ref rl),some (.ref t)] G6 < _
            rw [wR rfl]
            omega
    · obtain ⟨t0,rfl⟩:=hen.ref
      refine ⟨_,rfl,_,rfl,fG ?_⟩
      dsimp only
      refine tJ (EA ?_)
      obtain ⟨ss6,hs6,hst6⟩:=ca.hs
      have hl:bF (Hid (sl :: rl :: own) G5) G5:=oA
      refine ⟨_,rfl,_,rfl,_,rfl,fun b dxb hb hdx nb=>⟨b,dxb,_,_,_,rfl,ah,fun G' hG' but=>⟨rfl,?_⟩⟩⟩
      have sgb:bF G5 G':=fun a o e=>but _ _ (bL (bL e (aN e hdx)) (aN e hb)) (aN e hb)
      have sl2:=hl.trans sgb
      exact k G' b i e ((ca.sm.trans hl).trans sgb) ⟨hj,hd,ca.ok⟩ ⟨dxb,rl,sl,_,rvs,ss6,hG',sgb _ _ hr5,Paired.mono (fun _ _ z=>z.same sl2) hrv,hen.same sl2,sgb _ _ hs6,Paired.mono (fun _ _ z=>kC.same' sl2 z) hst6⟩
  · rintro σ G4 Q1 Q2 hq ⟨x,hx,c,ec,z⟩
    exact ⟨x,hx,c,ec,hq _ _ z⟩
end
end My
namespace My
open PySem L2
def gF (sp:Int) (t:Nat):Ev:=if t=0 then ⟨0,0,-1,0,0,"tick",0,0⟩ else ⟨sp * t,1,0,(t:Int) - 1,0,"tick",t,0⟩
def mK (way:Nat):Ds:=if way=0 then .cons .fin .nil else if way=1 then .cons (.put "n" (.two "part" .now (.num 0))) .nil else .nil
def fv (la sp:Int) (way:Nat):Ds:=.cons (.put "n" (.two "plus" (.box "n") (.num 1))) (.cons (.ife (.two "same" (.box "n") (.num la)) (mK way) (.cons (.send 0 "tick" (.num sp) 1 (.box "n") (.num 0)) .nil)) .nil)
theorem E6 (a b:Int):mX "plus" a b=.ok (a + b):=by
  unfold mX
  rw [if_pos rfl]
theorem E7 (a b:Int):mX "same" a b=.ok (if a=b then 1 else 0):=by
  unfold mX
  rw [if_neg (by decide +kernel),if_neg (by decide +kernel),if_neg (by decide +kernel),if_neg (by decide +kernel),if_pos rfl]
theorem BZ (a:Int):mX "part" a 0=.nought:=by
  unfold mX
  rw [if_neg (by decide +kernel),if_neg (by decide +kernel),if_neg (by decide +kernel),if_neg (by decide +kernel),if_neg (by decide +kernel),if_pos rfl]
theorem E8 {r:Int} (h:-1000000<=r/\r<=1000000):cap (.ok r)=.ok r:=by
  have e:(10:Int) ^ 15=1000000000000000:=by decide
  unfold cap pC
  rw [e]
  show (if (1000000000000000:Int) < (if r < 0 then -r else r) then Rs.great else .ok r)=_
  rw [if_neg]
  split <;> omega
theorem zN {e:tD} {k:Str} {f g:Fm} {a b:Int} (h1:ev e f=.ok a) (h2:ev e g=.ok b):ev e (.two k f g)=cap (mX k a b):=by
  simp only [ev,h1,h2]
theorem E9 (x:Str) (n:Int):o9 [(x,n)] x=n:=by
  unfold o9
  rw [aZ]
  rfl
theorem setA1 (x:Str) (n m:Int):lD [(x,n)] x m=[(x,m)]:=by
  unfold lD
  simp
section
variable {sp:Int} {la way c:Nat}
theorem mP (hc:c < 1000) (h:Ev) (ds:Ds):doS h [] (.cons (.put "n" (.two "plus" (.box "n") (.num 1))) ds) (w0 [("n",(c:Int))] [] 0 c)=doS h [] ds ⟨[("n",(c:Int) + 1)],[],0,c,["n"],[],false,[.two "plus" (.box "n") (.num 1)],[]⟩:=by
  have e1:ev (uw h (w0 [("n",(c:Int))] [] 0 c)) (.two "plus" (.box "n") (.num 1))=.ok ((c:Int) + 1):=by
    rw [zN (a:=c) (b:=1) (by show Rs.ok (o9 [("n",(c:Int))] "n")=_; rw [E9]) rfl,E6,E8 (by omega)]
  have e2:doD h [] (.put "n" (.two "plus" (.box "n") (.num 1))) (w0 [("n",(c:Int))] [] 0 c)=.ok ⟨[("n",(c:Int) + 1)],[],0,c,["n"],[],false,[.two "plus" (.box "n") (.num 1)],[]⟩:=by
    simp only [doD,rck,e1]
    show Except.ok (xZ {w0 [("n",(c:Int))] [] 0 c with rk:=[]++[.two "plus" (.box "n") (.num 1)]} "n" ((c:Int) + 1))=_
    unfold xZ w0
    simp only [setA1]
    rfl
  simp only [doS,e2]
theorem oU (hc:c < 1000) (h:Ev):ev (uw h ⟨[("n",(c:Int) + 1)],[],0,c,["n"],[],false,[.two "plus" (.box "n") (.num 1)],[]⟩) (.two "same" (.box "n") (.num la))=.ok (if (c:Int) + 1=la then 1 else 0):=by
  rw [zN (a:=(c:Int) + 1) (b:=la) (by show Rs.ok (o9 [("n",(c:Int) + 1)] "n")=_; rw [E9]) rfl,E7,E8 (by split <;> omega)]
theorem HJ {h:Ev} (h1:1<=sp) (h9:sp<=9) (ht:0<=h.t/\h.t<=100000) (hl:la<=100) (hc:c + 1 < la):doS h [] (fv la sp way) (w0 [("n",(c:Int))] [] 0 c)=.ok ⟨[("n",(c:Int) + 1)],[],0,(c:Int) + 1,["n"],[⟨h.t + sp,1,h.to,c,0,"tick",(c:Int) + 1,0⟩],false,[.two "plus" (.box "n") (.num 1),.two "same" (.box "n") (.num la),.num sp,.box "n",.num 0],[]⟩:=by
  unfold fv
  rw [mP (by omega)]
  have n0:¬ (c:Int) + 1=la:=by omega
  simp only [doS,doD,rck,oU (show c < 1000 by omega),if_neg n0,if_true]
  simp only [ev]
  have a1:¬ (sp < 1\/10 ^ 6 < sp):=by
    have:(10:Int) ^ 6=1000000:=by decide
    omega
  rw [if_neg a1]
  have a2:¬ (10 ^ 12 < h.t + sp):=by
    have:(10:Int) ^ 12=1000000000000:=by decide
    omega
  simp only [if_neg a2]
  show Except.ok (Iu h ⟨[("n",(c:Int) + 1)],[],0,c,["n"],[],false,[.two "plus" (.box "n") (.num 1),.two "same" (.box "n") (.num la),.num sp,.box "n",.num 0],[]⟩ 0 "tick" 1 (h.t + sp) (o9 [("n",(c:Int) + 1)] "n") 0)=_
  rw [E9]
  rfl
theorem Fb {h:Ev} (hl:la<=100) (hc:c + 1=la):doS h [] (fv la sp 0) (w0 [("n",(c:Int))] [] 0 c)=.ok ⟨[("n",(c:Int) + 1)],[],0,c,["n"],[],true,[.two "plus" (.box "n") (.num 1),.two "same" (.box "n") (.num la)],[]⟩:=by
  unfold fv
  rw [mP (by omega)]
  have n0:(c:Int) + 1=la:=by omega
  simp only [doS,doD,rck,oU (show c < 1000 by omega),if_pos n0,mK,if_true]
  rfl
theorem zO {h:Ev} (hl:la<=100) (hc:c + 1=la):doS h [] (fv la sp 1) (w0 [("n",(c:Int))] [] 0 c)=.error .nought:=by
  unfold fv
  rw [mP (by omega)]
  have n0:(c:Int) + 1=la:=by omega
  have e1:∀ a:tD,ev a (.two "part" .now (.num 0))=.nought:=fun a=>by
    rw [zN (b:=0) rfl rfl,BZ]
    rfl
  simp only [doS,doD,rck,oU (show c < 1000 by omega),if_pos n0,mK,e1]
  rfl
theorem zP {h:Ev} (hl:la<=100) (hc:c + 1=la):doS h [] (fv la sp 2) (w0 [("n",(c:Int))] [] 0 c)=.ok ⟨[("n",(c:Int) + 1)],[],0,c,["n"],[],false,[.two "plus" (.box "n") (.num 1),.two "same" (.box "n") (.num la)],[]⟩:=by
  unfold fv
  rw [mP (by omega)]
  have n0:(c:Int) + 1=la:=by omega
  simp only [doS,doD,rck,oU (show c < 1000 by omega),if_pos n0,mK]
  rfl
end
def M27 (la sp:Int) (way:Nat):List MD:=[⟨"one",["n"],[],[],[("tick",fv la sp way)],[("n",0)]⟩,⟨"two",[],[],[],[],[]⟩]
def iT (la t:Nat):Sta:=⟨[("n",(t:Int))],[],0,((min t (la - 1):Nat):Int)⟩
def oE:Sta:=⟨[],[],0,0⟩
structure Noise (e:Ev):Prop where
  t0:0<=e.t
  t1:e.t<=1000
  fr:e.fr=-1
  c0:0 < e.c
  c1:e.c<=20
  to:e.to=1
  sg:e.sg="noise"
structure tV (la:Nat) (sp:Int) (r:RS) (t:Nat) (tk ns:List Ev):Prop where
  sts:r.sts=[iT la t,oE]
  pm:r.pd.Perm (tk++ns)
  tk:(tk=[gF sp t]/\t < la)\/(tk=[]/\t=la)\/(tk=[]/\t + 1=la/\r.sp≠none)
  no:∀ e∈ns,Noise e
  ln:ns.length<=20
theorem wU (sp:Int) (t:Nat):(gF sp t).to=0/\(gF sp t).sg="tick"/\(gF sp t).t=sp * t/\¬ ((gF sp t).fr=-1/\0 < (gF sp t).c):=by
  unfold gF
  split
  · rename_i h
    subst h
    exact ⟨rfl,rfl,by show (0:Int)=sp * ((0:Nat):Int); simp,by decide⟩
  · exact ⟨rfl,rfl,rfl,fun z=>by have:=z.1; cases this⟩
theorem B0 {sp:Int} {t:Nat}:(⟨(gF sp t).t + sp,1,(gF sp t).to,t,0,"tick",(t:Int) + 1,0⟩:Ev)=gF sp (t + 1):=by
  rw [(wU sp t).2.2.1,(wU sp t).1]
  unfold gF
  rw [if_neg (by omega)]
  have q:((t + 1:Nat):Int)=(t:Int) + 1:=by omega
  rw [q,Int.mul_add,Bd,Int.add_sub_cancel]
theorem Fc {sp:Int} {c:Nat} (h0:1<=sp) (h1:sp<=9) (hc:c<=100):0<=sp * c/\sp * c<=900:=by
  refine ⟨Kj (by omega) (by omega),?_⟩
  have:=Kk h1 (show (c:Int)<=100 by omega) (by omega) (by decide:(0:Int)<=9)
  omega
theorem tV.small {la:Nat} {sp:Int} {r:RS} {t:Nat} {tk ns:List Ev} (s1:1<=sp) (s9:sp<=9) (hl:la<=100) (h:tV la sp r t tk ns):yz r:=by
  have ltk:tk.length<=1:=by
    rcases h.tk with ⟨e,_⟩ | ⟨e,_⟩ | ⟨e,_⟩ <;> rw [e] <;> simp
  refine ⟨?_,fun e he=>?_⟩
  · rw [h.pm.length_eq,aB]
    have:=h.ln
    omega
  · rcases aU.mp (h.pm.mem_iff.mp he) with z | z
    · rcases h.tk with ⟨e',hlt⟩ | ⟨e',_⟩ | ⟨e',_⟩
      · rw [e'] at z
        rw [au.mp z]
        have:=Fc (c:=t) s1 s9 (by omega)
        unfold gF
        split
        · exact ⟨0,0,-1,0,rfl,by decide,by decide,by decide,by decide⟩
        · exact ⟨sp * t,1,0,(t:Int) - 1,rfl,by omega,by omega,by omega,by omega⟩
      · rw [e'] at z
        cases z
      · rw [e'] at z
        cases z
    · have n:=h.no e z
      exact ⟨e.t,e.r,e.fr,e.c,rfl,by have:=n.t0; omega,by have:=n.t1; omega,by have:=n.c0; omega,by have:=n.c1; omega⟩
theorem vD {h:Ev} {pd xs:List Ev} (p:(pd++[h]).Perm (h :: xs)):pd.Perm xs:=(IJ h).mp ((jv (l₁:=[h]) (l₂:=pd)).trans p)
theorem lX {n:Int} (h:-1000000<=n/\n<=1000000):Wo n:=by
  have e:(10:Int) ^ 15=1000000000000000:=by decide
  unfold Wo
  omega
inductive oF (la:Nat) (sp:Int) (way:Nat) (r:RS) (t:Nat) (h:Ev):RS×List Rec->Prop
  | noise (q:Rec) (tk ns:List Ev):h.fr=-1->0 < h.c->q.h=h->tV la sp ⟨r.sts,r.pd.dropLast,some h,none⟩ t tk ns->oF la sp way r t h (⟨r.sts,r.pd.dropLast,some h,none⟩,[q])
  | fault (tk ns:List Ev):¬ (h.fr=-1/\0 < h.c)->t + 1=la->way=1->tV la sp {r with pd:=r.pd.dropLast,sp:=some (.flt .nought h)} t tk ns->oF la sp way r t h ({r with pd:=r.pd.dropLast,sp:=some (.flt .nought h)},[])
  | on (q:Rec) (tk ns:List Ev):¬ (h.fr=-1/\0 < h.c)->t + 1 < la->h.t=sp * t->q.h=h->tV la sp ⟨[iT la (t + 1),oE],pk [gF sp (t + 1)] r.pd.dropLast,some h,none⟩ (t + 1) tk ns->oF la sp way r t h (⟨[iT la (t + 1),oE],pk [gF sp (t + 1)] r.pd.dropLast,some h,none⟩,[q])
  | last (q:Rec) (tk ns:List Ev):¬ (h.fr=-1/\0 < h.c)->t + 1=la->way≠1->q.h=h->tV la sp ⟨[iT la (t + 1),oE],r.pd.dropLast,some h,if way=0 then some (.fin h) else none⟩ (t + 1) tk ns->oF la sp way r t h (⟨[iT la (t + 1),oE],r.pd.dropLast,some h,if way=0 then some (.fin h) else none⟩,[q])
theorem Fd {la:Nat} {sp:Int} {way:Nat} (s1:1<=sp) (s9:sp<=9) (l1:1<=la) (l2:la<=100) (hw:way < 3) {r:RS} {t:Nat} {tk ns:List Ev} (ok:ROk 2 r) (A:tV la sp r t tk ns) (sp0:r.sp=none) (ne:r.pd≠[]) :
    ∃ h,r.pd=r.pd.dropLast++[h]/\oF la sp way r t h (ff (M27 la sp way) r)/\ROk 2 (ff (M27 la sp way) r).1:=by
  obtain ⟨h,M,s,d⟩:=EH (Ms:=M27 la sp way) (r:=r) ok ne
  refine ⟨h,d.pd,?_⟩
  have hin:h∈r.pd:=by
    rw [d.pd]
    exact aV _ (au.mpr rfl)
  have pm:=A.pm
  rw [d.pd] at pm
  have sts:=A.sts
  rcases aU.mp (A.pm.mem_iff.mp hin) with z | z
  · -- a tick
    rcases A.tk with ⟨e,lt⟩ | ⟨e,_⟩ | ⟨e,_⟩
    · subst e
      have eh:=au.mp z
      have pm':r.pd.dropLast.Perm ns:=vD (h:=gF sp t) (by rw [eh] at pm; exact pm)
      obtain ⟨to0,sg0,ti,nn⟩:=wU sp t
      rw [<- eh] at to0 sg0 ti nn
      have hM:=d.hM
      have hs:=d.hs
      rw [to0] at hM hs
      rw [sts] at hs
      have eM:M=⟨"one",["n"],[],[],[("tick",fv la sp way)],[("n",0)]⟩:=(b5 hM).symm
      have eS:s=iT la t:=(b5 hs).symm
      have mn:min t (la - 1)=t:=by omega
      have eW:s.w=w0 [("n",(t:Int))] [] 0 t:=by
        rw [eS]
        unfold iT
        rw [mn]
        rfl
      have eD:ib M.hs h.sg=fv la sp way:=by
        rw [eM,sg0]
        unfold ib
        dsimp only
        rw [aZ]
        rfl
      have eds:M.ds=[]:=by rw [eM]
      have tb:=Fc (c:=t) s1 s9 (by omega)
      have ssz:∀ x:Sta,r.sts.set h.to.toNat x=[x,oE]:=fun x=>by
        rw [to0,sts]
        rfl
      by_cases c1:t + 1 < la
      · have q:=HJ (sp:=sp) (la:=la) (way:=way) (c:=t) (h:=h) s1 s9 ⟨by omega,by omega⟩ l2 c1
        have q':=q
        rw [<- eD,<- eW,<- eds] at q'
        have tn:(⟨h.t + sp,1,h.to,(t:Int),0,"tick",(t:Int) + 1,0⟩:Ev)=gF sp (t + 1):=by
          rw [eh]
          exact B0
        rw [tn] at q'
        have N:=j6 (m:=((M27 la sp way).length:Int)) (fv la sp way) _ _ (by
          unfold fv
          simp only [Ds.toOk,Dd.toOk]
          refine ⟨trivial,⟨?_,⟨by decide,by show (0:Int) < 2; decide⟩,trivial⟩,trivial⟩
          unfold mK
          split
          · simp only [Ds.toOk,Dd.toOk]
            exact ⟨trivial,trivial⟩
          · split
            · simp only [Ds.toOk,Dd.toOk]
              exact ⟨trivial,trivial⟩
            · simp only [Ds.toOk]) (by rw [eD] at q'; exact q')
        have rok:=qt (m:=2) ok d q' N (fun e he=>by
          rw [au.mp he]
          unfold gF
          rw [if_neg (by omega)]
          exact ⟨lX ⟨by show (-1000000:Int)<=((t + 1:Nat):Int); omega,by show ((t + 1:Nat):Int)<=1000000; omega⟩,lX (n:=0) (by decide)⟩)
        rw [mJ d q'] at rok |-
        rw [ssz] at rok |-
        have es:(⟨[("n",(t:Int) + 1)],[],0,(t:Int) + 1⟩:Sta)=iT la (t + 1):=by
          unfold iT
          have:min (t + 1) (la - 1)=t + 1:=by omega
          rw [this]
          rfl
        dsimp only at rok |-
        rw [es] at rok |-
        refine ⟨.on _ [gF sp (t + 1)] ns nn c1 ti rfl ⟨rfl,?_,.inl ⟨rfl,c1⟩,A.no,A.ln⟩,rok⟩
        exact (gr _ _).trans ((dO _).append pm')
      · have e1:t + 1=la:=by omega
        have fin:∀ (w:Wk),doS h M.ds (ib M.hs h.sg) s.w=.ok w->w.out=[]->w.bx=[(("n":Str),(t:Int) + 1)]->w.qu=[]->w.dr=0->w.se=t->(w.en=true↔way=0)->way≠1->oF la sp way r t h (ff (M27 la sp way) r)/\ROk 2 (ff (M27 la sp way) r).1:=by
          intro w q o1 o2 o3 o4 o5 o6 nw
          have N:News ((2:Nat):Int) h 0 s.w w:=by
            rw [eW]
            exact News.none o5 o1
          have rok:=qt (m:=2) ok d q N (fun e he=>by rw [o1] at he; cases he)
          rw [mJ d q] at rok |-
          rw [ssz,o1,o2,o3,o4,o5] at rok |-
          have es:(⟨[("n",(t:Int) + 1)],[],0,(t:Int)⟩:Sta)=iT la (t + 1):=by
            unfold iT
            have:min (t + 1) (la - 1)=t:=by omega
            rw [this]
            rfl
          rw [es] at rok |-
          have ee:(if w.en=true then some (Stp.fin h) else none)=if way=0 then some (Stp.fin h) else none:=by
            by_cases c:way=0
            · rw [if_pos c,if_pos (o6.mpr c)]
            · rw [if_neg c,if_neg fun z=>c (o6.mp z)]
          rw [ee] at rok |-
          exact ⟨.last _ [] ns nn e1 nw rfl ⟨rfl,pm',.inr (.inl ⟨rfl,e1⟩),A.no,A.ln⟩,rok⟩
        match way,hw with
        | 0,_ =>
          have q:=Fb (sp:=sp) (la:=la) (c:=t) (h:=h) l2 e1
          exact fin _ (by rw [eD,eW,eds]; exact q) rfl rfl rfl rfl rfl (by simp) (by decide)
        | 1,_ =>
          have q:=zO (sp:=sp) (la:=la) (c:=t) (h:=h) l2 e1
          have q':doS h M.ds (ib M.hs h.sg) s.w=.error .nought:=by
            rw [eD,eW,eds]
            exact q
          have rok:=vp (m:=2) ok d q'
          rw [oz d q'] at rok |-
          exact ⟨.fault [] ns nn e1 rfl ⟨A.sts,pm',.inr (.inr ⟨rfl,e1,by intro z; cases z⟩),A.no,A.ln⟩,rok⟩
        | 2,_ =>
          have q:=zP (sp:=sp) (la:=la) (c:=t) (h:=h) l2 e1
          exact fin _ (by rw [eD,eW,eds]; exact q) rfl rfl rfl rfl rfl (by simp) (by decide)
    · rw [e] at z
      cases z
    · rw [e] at z
      cases z
  · -- noise
    have n:=A.no h z
    obtain ⟨n1,n2,e2⟩:=List.append_of_mem z
    have pm':r.pd.dropLast.Perm (tk++(n1++n2)):=vD (pm.trans (by
      rw [e2,<- dQ,<- dQ]
      exact FB))
    have hM:=d.hM
    have hs:=d.hs
    rw [n.to] at hM hs
    rw [sts] at hs
    have eM:M=⟨"two",[],[],[],[],[]⟩:=(b5 hM).symm
    have eS:s=oE:=(b5 hs).symm
    have q:doS h M.ds (ib M.hs h.sg) s.w=.ok s.w:=by
      rw [eM]
      rfl
    have rok:=qt (m:=2) (n:=0) ok d q (News.none rfl rfl) (fun e he=>by rw [eS] at he; cases he)
    rw [mJ d q] at rok |-
    have es:r.sts.set h.to.toNat ⟨s.w.bx,s.w.qu,s.w.dr,s.w.se⟩=r.sts:=by
      rw [n.to,eS,sts]
      rfl
    have eo:s.w.out=[]:=rfl
    have ee:s.w.en=false:=rfl
    rw [es,eo,ee] at rok |-
    refine ⟨.noise _ tk (n1++n2) n.fr n.c0 rfl ⟨sts,pm',?_,fun e he=>A.no e (by rw [e2]; rcases aU.mp he with y | y <;> simp [y]),?_⟩,rok⟩
    · rcases A.tk with y | y | y
      · exact .inl y
      · exact .inr (.inl y)
      · exact absurd sp0 y.2.2
    · have:=A.ln
      rw [e2] at this
      simp only [aB,aL] at this |-
      omega
theorem oF.at {la:Nat} {sp:Int} {way:Nat} {r:RS} {t:Nat} {h:Ev} {q:RS×List Rec} (T:oF la sp way r t h q):∃ t' tk ns,tV la sp q.1 t' tk ns:=by
  cases T with
  | noise q tk ns _ _ _ a=>exact ⟨_,_,_,a⟩
  | fault tk ns _ _ _ a=>exact ⟨_,_,_,a⟩
  | on q tk ns _ _ _ _ a=>exact ⟨_,_,_,a⟩
  | last q tk ns _ _ _ _ a=>exact ⟨_,_,_,a⟩
def oG (os:List Int):List Ev:=⟨0,0,0,0,0,"tick",0,0⟩ :: os.map fun o=>⟨o,2,0,0,1,"noise",1,2⟩
def noE (os:List Int):List Ev:=os.mapIdx fun i o=>⟨o,2,-1,(i:Int) + 1,1,"noise",1,2⟩
theorem Fe (sp:Int) (os:List Int):qx (oG os)=gF sp 0 :: noE os:=by
  unfold qx oG noE
  rw [List.mapIdx_cons]
  show _ :: _=_
  congr 1
  refine List.mapIdx_eq_iff.mpr fun i=>?_
  rw [jE,bf]
  cases os[i]? with
  | none=>rfl
  | some o=>rfl
theorem Ff {la:Nat} {sp:Int} {way:Nat} {os:List Int} (l1:1<=la) (ho:∀ o∈os,0<=o/\o<=1000) (lo:os.length<=19):tV la sp (hJ (M27 la sp way) (oG os)) 0 [gF sp 0] (noE os):=by
  refine ⟨?_,?_,.inl ⟨rfl,by omega⟩,fun e he=>?_,by unfold noE; rw [kY]; omega⟩
  · show [st0 _,st0 _]=[iT la 0,oE]
    unfold st0 iT oE
    have:min 0 (la - 1)=0:=by omega
    rw [this]
    rfl
  · show (pk (qx (oG os)) []).Perm _
    refine (gr _ _).trans ?_
    rw [cW,Fe sp]
    exact dO _
  · obtain ⟨i,hi⟩:=bY he
    unfold noE at hi
    rw [jE] at hi
    cases z:os[i]? with
    | none =>
      rw [z] at hi
      cases hi
    | some o =>
      rw [z] at hi
      cases hi
      have:=ho o (aM z)
      have lt:=(aw.mp z).1
      exact ⟨this.1,this.2,rfl,by show (0:Int) < (i:Int) + 1; omega,by show (i:Int) + 1<=20; omega,rfl,rfl⟩
theorem ev27 {os:List Int} (ho:∀ o∈os,0<=o/\o<=1000):∀ e∈oG os,Hr 2 e:=fun e he=>by
  rcases ak.mp he with z | z
  · rw [z]
    exact ⟨by decide,by decide,lX (by decide),lX (by decide),lX (by decide)⟩
  · obtain ⟨o,h,rfl⟩:=bH.mp z
    have:=ho o h
    exact ⟨by show (0:Int)<=1; decide,by show (1:Int) < 2; decide,lX ⟨by show (-1000000:Int)<=o; omega,by show o<=1000000; omega⟩,lX (n:=1) (by decide),lX (n:=2) (by decide)⟩
theorem Fg {la:Nat} {sp:Int} {way:Nat} {os:List Int} {most:Int} (s1:1<=sp) (s9:sp<=9) (l1:1<=la) (l2:la<=100) (hw:way < 3) (ho:∀ o∈os,0<=o/\o<=1000) (lo:os.length<=19):∀ j:Nat,(∀ i,i < j->kD (itR (M27 la sp way) (hJ (M27 la sp way) (oG os)) i).1 (most - (itR (M27 la sp way) (hJ (M27 la sp way) (oG os)) i).2.length)=none)->ROk 2 (itR (M27 la sp way) (hJ (M27 la sp way) (oG os)) j).1/\∃ t tk ns,tV la sp (itR (M27 la sp way) (hJ (M27 la sp way) (oG os)) j).1 t tk ns
  | 0,_=>⟨AU (Ms:=M27 la sp way) (ev27 ho),0,_,_,Ff l1 ho lo⟩
  | j + 1,h=>by
    obtain ⟨ok,t,tk,ns,A⟩:=Fg s1 s9 l1 l2 hw ho lo j fun i hi=>h i (by omega)
    obtain ⟨d1,d2,_⟩:=ym (h j (by omega))
    obtain ⟨x,_,T,ro⟩:=Fd (way:=way) s1 s9 l1 l2 hw ok A d1 d2
    exact ⟨ro,T.at⟩
theorem rE.uniq {Ms:List MD} {r:RS} {most:Int} {i i':Nat} {e e':End} (a:rE Ms r most i e) (b:rE Ms r most i' e'):i=i'/\e=e':=by
  have ei:i=i':=by
    rcases FC i i' with z | z | z
    · have:=(b.1 i z).2
      rw [a.2.1] at this
      cases this
    · exact z
    · have:=(a.1 i' z).2
      rw [b.2.1] at this
      cases this
  subst ei
  have:=a.2.1.symm.trans b.2.1
  cases this
  exact ⟨rfl,rfl⟩
end My
namespace My
open PySem L2
section
variable {X:Cx} {es:List cA} {te:TE} {t:TA}
theorem yA {es':List cA} {k:Nat} {p:Pos} {env:Env}:bU (.Tuple es' k p :: es) env=(false,eP (.Tuple es' k p) env) :: bU es env:=by rfl
theorem fV {es':List cA} {k:Nat} {p:Pos} (ha:PE X (.Tuple es' k p) te) (hr:PA X es t):PA X (.Tuple es' k p :: es) (iV te t):=ai ha hr (by rfl)
theorem oH {es':List cA} {p:Pos} (ha:PE X (.List es' p) te) (hr:PA X es t):PA X (.List es' p :: es) (iV te t):=ai ha hr (by rfl)
theorem dH {c:Const} {k:Nat} {p:Pos} (ha:PE X (.Constant c k p) te) (hr:PA X es t):PA X (.Constant c k p :: es) (iV te t):=ai ha hr (by rfl)
theorem gB {x:Str} {p:Pos} (ha:PE X (.Name x p) te) (hr:PA X es t):PA X (.Name x p :: es) (iV te t):=ai ha hr (by rfl)
theorem Fh {g:cA} {as:List cA} {ks:List yG} {p:Pos} (ha:PE X (.Call g as ks p) te) (hr:PA X es t):PA X (.Call g as ks p :: es) (iV te t):=ai ha hr (by rfl)
theorem pa_s {a b:cA} {p:Pos} (ha:PE X (.Subscript a b p) te) (hr:PA X es t):PA X (.Subscript a b p :: es) (iV te t):=ai ha hr (by rfl)
theorem B1 {a b:cA} {o:FJ} {p:Pos} (ha:PE X (.BinOp a o b p) te) (hr:PA X es t):PA X (.BinOp a o b p :: es) (iV te t):=ai ha hr (by rfl)
end
theorem Fi {T P:Hp->Prop} {G:Hp} (h:P G) (k:∀ G',P G'->T G'):T G:=k G h
theorem wV {D:jS} {σ:St} {H:Hp} (h:D.nx σ H):Ct D σ H:=h
def Det (t:L2.TT) (σ:St) (H:Hp) (b:Bool):Prop:=∀ Q:Bool->Hp->Prop,Q b H->t σ H Q
theorem Det.and {tA tB:L2.TT} {σ:St} {H:Hp} {x y:Bool} (a:Det tA σ H x) (b:x=true->Det tB σ H y):Det (Cr tA tB) σ H (x && y):=fun Q q=>a _ (by
  cases x with
  | true=>exact gJ (b rfl Q q)
  | false=>exact fG q)
theorem wW {t:L2.TT} {a b:TS} {D:jS} {σ:St} {H:Hp} {c:Bool} (h:Det t σ H c) (k1:c=true->a D σ H) (k2:c=false->b D σ H):FG t a b D σ H:=h _ (by
  cases c with
  | true=>exact gJ (k1 rfl)
  | false=>exact fG (k2 rfl))
end My
namespace My
open PySem L2
def wX (o:HO):Prop:=(∃ xs,o=.tup xs)\/∃ xs,o=.lst xs/\∀ x y:Int,xs≠[.int x,.int y]
def fg (H H':Hp):Prop:=∀ a o,H a=some o->wX o->H' a=some o
theorem fg.same {H H':Hp} (s:bF H H'):fg H H':=fun a o e _=>s _ _ e
theorem fg.trans {H H1 H2:Hp} (a:fg H H1) (b:fg H1 H2):fg H H2:=fun c o e n=>b _ _ (a _ _ e n) n
theorem Kl (xs:List V):wX (.tup xs):=.inl ⟨xs,rfl⟩
end My
namespace My
open PySem L2
theorem Tree.scal {H:Hp} {v:V} (h:zr v):∀ n,Tree H n v
  | 0=>h
  | _ + 1=>.inl h
theorem Tree.up2 {H:Hp}:∀ {n m:Nat} {v:V},Tree H n v->n<=m->Tree H m v
  | 0,m,v,h,_=>Tree.scal h m
  | n + 1,0,v,h,l=>absurd l (by omega)
  | n + 1,m + 1,v,h,l=>by
    rcases h with h | ⟨p,xs,e,h1,h2,h3⟩
    · exact .inl h
    · exact .inr ⟨p,xs,e,h1,h2,fun x hx=>Tree.up2 (h3 x hx) (by omega)⟩
theorem Tree.atup {H:Hp} {a:aa} {xs:List V} {n:Nat} (h:H a=some (.tup xs)) (l:xs.length < 1000) (k:∀ x∈xs,Tree H n x):Tree H (n + 1) (.ref a):=.inr ⟨a,xs,rfl,.inr h,l,k⟩
theorem Tree.alst {H:Hp} {a:aa} {xs:List V} {n:Nat} (h:H a=some (.lst xs)) (l:xs.length < 1000) (k:∀ x∈xs,Tree H n x):Tree H (n + 1) (.ref a):=.inr ⟨a,xs,rfl,.inl h,l,k⟩
theorem ju.tree {bs qs:List Str} {H:Hp} {v:V} {f:Fm} (h:ju bs qs H v f):∀ n,f.depth<=n->Tree H n v:=by
  induction h with
  | num h1 _=>exact fun n hn=>match n,hn with
    | n + 1,_=>Tree.atup h1 (by show 2 < 1000; decide) fun x hx=>by
      simp only [ak,aX,or_false] at hx
      rcases hx with rfl | rfl <;> exact Tree.scal (by exact trivial) _
    | 0,hn=>absurd hn (by unfold Fm.depth; decide)
  | box h1 _=>exact fun n hn=>match n,hn with
    | n + 1,_=>Tree.atup h1 (by show 2 < 1000; decide) fun x hx=>by
      simp only [ak,aX,or_false] at hx
      rcases hx with rfl | rfl <;> exact Tree.scal (by exact trivial) _
    | 0,hn=>absurd hn (by unfold Fm.depth; decide)
  | long h1 _=>exact fun n hn=>match n,hn with
    | n + 1,_=>Tree.atup h1 (by show 2 < 1000; decide) fun x hx=>by
      simp only [ak,aX,or_false] at hx
      rcases hx with rfl | rfl <;> exact Tree.scal (by exact trivial) _
    | 0,hn=>absurd hn (by unfold Fm.depth; decide)
  | got h1=>exact fun n hn=>match n,hn with
    | n + 1,_=>Tree.atup h1 (by show 2 < 1000; decide) fun x hx=>by
      simp only [ak,aX,or_false] at hx
      rcases hx with rfl | rfl <;> exact Tree.scal (by exact trivial) _
    | 0,hn=>absurd hn (by unfold Fm.depth; decide)
  | now h1=>exact fun n hn=>match n,hn with
    | n + 1,_=>Tree.atup h1 (by show 1 < 1000; decide) fun x hx=>by
      simp only [ak,aX,or_false] at hx
      rcases hx with rfl
      exact Tree.scal (by exact trivial) _
    | 0,hn=>absurd hn (by unfold Fm.depth; decide)
  | two h1 _ _ _ ih1 ih2=>exact fun n hn=>match n,hn with
    | n + 1,hn=>Tree.atup h1 (by show 3 < 1000; decide) fun x hx=>by
      unfold Fm.depth at hn
      simp only [ak,aX,or_false] at hx
      rcases hx with rfl | rfl | rfl
      · exact Tree.scal (by exact trivial) _
      · exact ih1 n (by omega)
      · exact ih2 n (by omega)
    | 0,hn=>absurd hn (by unfold Fm.depth; omega)
mutual
theorem dZ.tree {bs qs:List Str} {H:Hp}:∀ (d:Dd) (v:V) (n:Nat),dZ bs qs H d v->2 * d.deep + 16<=n->Tree H n v
  | _,_,0,_,hn=>absurd hn (by omega)
  | .put x f,v,n + 1,h,hn=>by
    obtain ⟨t,u,rfl,h1,h2,h3⟩:=(by simpa only [dZ] using h)
    refine Tree.atup h1 (by show 3 < 1000; decide) fun y hy=>?_
    simp only [ak,aX,or_false] at hy
    rcases hy with rfl | rfl | rfl
    · exact Tree.scal (by exact trivial) _
    · exact Tree.scal (by exact trivial) _
    · exact h3.1.tree n (by have:=h3.2; omega)
  | .push q f,v,n + 1,h,hn=>by
    obtain ⟨t,u,rfl,h1,h2,h3⟩:=(by simpa only [dZ] using h)
    refine Tree.atup h1 (by show 3 < 1000; decide) fun y hy=>?_
    simp only [ak,aX,or_false] at hy
    rcases hy with rfl | rfl | rfl
    · exact Tree.scal (by exact trivial) _
    · exact Tree.scal (by exact trivial) _
    · exact h3.1.tree n (by have:=h3.2; omega)
  | .pull q x o,v,n + 1,h,hn=>by
    obtain ⟨t,u,rfl,h1,h2,h3,l,vs,rfl,h4,h5,h6⟩:=(by simpa only [dZ] using h)
    unfold Dd.deep at hn
    refine Tree.atup h1 (by show 4 < 1000; decide) fun y hy=>?_
    simp only [ak,aX,or_false] at hy
    rcases hy with rfl | rfl | rfl | rfl
    · exact Tree.scal (by exact trivial) _
    · exact Tree.scal (by exact trivial) _
    · exact Tree.scal (by exact trivial) _
    · obtain ⟨m,rfl⟩:∃ m,n=m + 1:=⟨n - 1,by omega⟩
      exact Tree.alst h4 h5 (eV.tree o vs m h6 (by omega))
  | .draw x f,v,n + 1,h,hn=>by
    obtain ⟨t,u,rfl,h1,h2,h3⟩:=(by simpa only [dZ] using h)
    refine Tree.atup h1 (by show 3 < 1000; decide) fun y hy=>?_
    simp only [ak,aX,or_false] at hy
    rcases hy with rfl | rfl | rfl
    · exact Tree.scal (by exact trivial) _
    · exact Tree.scal (by exact trivial) _
    · exact h3.1.tree n (by have:=h3.2; omega)
  | .send to sg sp rk a b,v,n + 1,h,hn=>by
    obtain ⟨t,u,u1,u2,rfl,h1,h2,h3,h4⟩:=(by simpa only [dZ] using h)
    refine Tree.atup h1 (by show 7 < 1000; decide) fun y hy=>?_
    simp only [ak,aX,or_false] at hy
    rcases hy with rfl | rfl | rfl | rfl | rfl | rfl | rfl
    · exact Tree.scal (by exact trivial) _
    · exact Tree.scal (by exact trivial) _
    · exact Tree.scal (by exact trivial) _
    · exact h2.1.tree n (by have:=h2.2; omega)
    · exact Tree.scal (by exact trivial) _
    · exact h3.1.tree n (by have:=h3.2; omega)
    · exact h4.1.tree n (by have:=h4.2; omega)
  | .ife f x y,v,n + 1,h,hn=>by
    obtain ⟨t,u,u1,u2,rfl,h1,h2,⟨l,vs,rfl,g1,g2,g3⟩,l',vs',rfl,k1,k2,k3⟩:=(by simpa only [dZ] using h)
    unfold Dd.deep at hn
    refine Tree.atup h1 (by show 4 < 1000; decide) fun z hz=>?_
    simp only [ak,aX,or_false] at hz
    obtain ⟨m,rfl⟩:∃ m,n=m + 1:=⟨n - 1,by omega⟩
    rcases hz with rfl | rfl | rfl | rfl
    · exact Tree.scal (by exact trivial) _
    · exact h2.1.tree _ (by have:=h2.2; omega)
    · exact Tree.alst g1 g2 (eV.tree x vs m g3 (by omega))
    · exact Tree.alst k1 k2 (eV.tree y vs' m k3 (by omega))
  | .fin,v,n + 1,h,hn=>by
    obtain ⟨t,rfl,h1⟩:=(by simpa only [dZ] using h)
    refine Tree.atup h1 (by show 1 < 1000; decide) fun y hy=>?_
    simp only [ak,aX,or_false] at hy
    rw [hy]
    exact Tree.scal (by exact trivial) _
theorem eV.tree {bs qs:List Str} {H:Hp}:∀ (d:Ds) (vs:List V) (n:Nat),eV bs qs H d vs->2 * d.deep + 16<=n->∀ x∈vs,Tree H n x
  | .nil,vs,n,h,hn=>by
    have e:vs=[]:=by simpa only [eV] using h
    subst e
    intro x hx
    cases hx
  | .cons d r,vs,n,h,hn=>by
    obtain ⟨v,vr,rfl,h1,h2⟩:=(by simpa only [eV] using h)
    unfold Ds.deep at hn
    intro x hx
    rcases ak.mp hx with rfl | hx
    · exact dZ.tree d _ n h1 (by omega)
    · exact eV.tree r vr n h2 (by omega) x hx
end
end My
namespace My
open PySem L2
def stW (way:Nat):Str:=if way=0 then "end" else if way=1 then "fault" else "none"
def oI (G:Hp) (way:Nat) (ll:aa):Prop:=(way=0/\∃ e,G ll=some (.lst [.ref e])/\G e=some (.tup [.str "end"])) \/
  (way=1/\∃ lv a3 a1 a2,G ll=some (.lst [.ref lv])/\G lv=some (.tup [.str "put",.str "n",.ref a3])/\G a3=some (.tup [.str "part",.ref a1,.ref a2])/\G a1=some (.tup [.str "now"])/\G a2=some (.tup [.str "number",.int 0])) \/
  (way=2/\G ll=some (.lst []))
theorem Km {a:aa} {xs:List V}:wX (.lst (.ref a :: xs)):=.inr ⟨_,rfl,fun x y z=>by cases z⟩
theorem Kn:wX (.lst []):=.inr ⟨_,rfl,fun x y z=>by cases z⟩
theorem fg.tup {H H':Hp} (k:fg H H') {a:aa} {xs:List V} (h:H a=some (.tup xs)):H' a=some (.tup xs):=k _ _ h (Kl xs)
theorem fg.refs {H H':Hp} (k:fg H H') {a b:aa} {xs:List V} (h:H a=some (.lst (.ref b :: xs))):H' a=some (.lst (.ref b :: xs)):=k _ _ h Km
theorem fg.nil {H H':Hp} (k:fg H H') {a:aa} (h:H a=some (.lst [])):H' a=some (.lst []):=k _ _ h Kn
theorem oI.keep {G G':Hp} (k:fg G G') {way:Nat} {ll:aa} (h:oI G way ll):oI G' way ll:=by
  rcases h with ⟨e,a,h1,h2⟩ | ⟨e,lv,a3,a1,a2,h1,h2,h3,h4,h5⟩ | ⟨e,h⟩
  · exact .inl ⟨e,a,k.refs h1,k.tup h2⟩
  · exact .inr (.inl ⟨e,lv,a3,a1,a2,k.refs h1,k.tup h2,k.tup h3,k.tup h4,k.tup h5⟩)
  · exact .inr (.inr ⟨e,k.nil h⟩)
theorem in7 {k:Str} (h:k="plus"\/k="same"\/k="part"):k∈Ea:=by
  rcases h with rfl | rfl | rfl <;> decide +kernel
theorem oI.ds {G:Hp} {way:Nat} {ll:aa} (h:oI G way ll):j3 G (eV ["n"] [] G (mK way)) (.ref ll):=by
  rcases h with ⟨rfl,e,h1,h2⟩ | ⟨rfl,lv,a3,a1,a2,h1,h2,h3,h4,h5⟩ | ⟨rfl,h⟩
  · refine ⟨ll,_,rfl,h1,by show 1 < 1000; decide,?_⟩
    show eV ["n"] [] G (.cons .fin .nil) [.ref e]
    simp only [eV,dZ]
    exact ⟨_,_,rfl,⟨e,rfl,h2⟩,rfl⟩
  · refine ⟨ll,_,rfl,h1,by show 1 < 1000; decide,?_⟩
    show eV ["n"] [] G (.cons (.put "n" (.two "part" .now (.num 0))) .nil) [.ref lv]
    simp only [eV,dZ]
    exact ⟨_,_,rfl,⟨lv,.ref a3,rfl,h2,by simp,.two h3 (in7 (.inr (.inr rfl))) (.now h4) (.num h5 (lX (by decide))),by decide⟩,rfl⟩
  · refine ⟨ll,_,rfl,h,by show 0 < 1000; decide,?_⟩
    show eV ["n"] [] G .nil []
    simp only [eV]
theorem zQ (way:Nat):(mK way).deep=0:=by
  unfold mK
  split
  · rfl
  · split <;> rfl
def jL (G:Hp) (sp:Int) (sa:aa):Prop:=∃ n1 g1 w1,G sa=some (.tup [.str "send",.int 0,.str "tick",.ref n1,.int 1,.ref g1,.ref w1])/\G n1=some (.tup [.str "number",.int sp])/\G g1=some (.tup [.str "box",.str "n"])/\G w1=some (.tup [.str "number",.int 0])
theorem jL.keep {G G':Hp} (k:fg G G') {sp:Int} {sa:aa} (h:jL G sp sa):jL G' sp sa:=by
  obtain ⟨n1,g1,w1,h1,h2,h3,h4⟩:=h
  exact ⟨n1,g1,w1,k.tup h1,k.tup h2,k.tup h3,k.tup h4⟩
theorem jL.dd {G:Hp} {sp:Int} {sa:aa} (hs:1<=sp/\sp<=9) (h:jL G sp sa):dZ ["n"] [] G (.send 0 "tick" (.num sp) 1 (.box "n") (.num 0)) (.ref sa):=by
  obtain ⟨n1,g1,w1,h1,h2,h3,h4⟩:=h
  simp only [dZ]
  exact ⟨sa,.ref n1,.ref g1,.ref w1,rfl,h1,⟨.num h2 (lX (by omega)),by show 1<=15; decide⟩,⟨.box h3 (by simp),by decide⟩,⟨.num h4 (lX (by decide)),by decide⟩⟩
def rF (G:Hp) (d1:aa):Prop:=∃ c3 c1 c2,G d1=some (.tup [.str "put",.str "n",.ref c3])/\G c3=some (.tup [.str "plus",.ref c1,.ref c2])/\G c1=some (.tup [.str "box",.str "n"])/\G c2=some (.tup [.str "number",.int 1])
theorem rF.keep {G G':Hp} (k:fg G G') {d1:aa} (h:rF G d1):rF G' d1:=by
  obtain ⟨c3,c1,c2,h1,h2,h3,h4⟩:=h
  exact ⟨c3,c1,c2,k.tup h1,k.tup h2,k.tup h3,k.tup h4⟩
theorem rF.dd {G:Hp} {d1:aa} (h:rF G d1):dZ ["n"] [] G (.put "n" (.two "plus" (.box "n") (.num 1))) (.ref d1):=by
  obtain ⟨c3,c1,c2,h1,h2,h3,h4⟩:=h
  simp only [dZ]
  exact ⟨d1,.ref c3,rfl,h1,by simp,.two h2 (in7 (.inl rfl)) (.box h3 (by simp)) (.num h4 (lX (by decide))),by decide⟩
structure wY (la sp:Int) (way:Nat) (F:Hp) (mt:aa):Prop where
  ma:rg ["n"] [] [] [("tick",fv la sp way)] F (.ref mt)
  tr:Tree F 23 (.ref mt)
  bo:∃ bl ql x0 x3 x4 bn,F mt=some (.tup [x0,.ref bl,.ref ql,x3,x4])/\F bl=some (.lst [.ref bn])/\F bn=some (.tup [.str "n",.int 0])/\F ql=some (.lst [])
theorem Ko {E:Hp} {la way:Nat} {sp:Int} {sa d1 dl i1 e1 e2 e3 ll lg bn bl ql dr ht hl mt:aa} (t1:1<=la/\la<=100) (hs:1<=sp/\sp<=9) (hL:oI E way ll) (hA:jL E sp sa) (hP:rF E d1) (hdl:E dl=some (.lst [.ref d1,.ref i1])) (hi:E i1=some (.tup [.str "if",.ref e3,.ref ll,.ref lg])) (he3:E e3=some (.tup [.str "same",.ref e1,.ref e2])) (he1:E e1=some (.tup [.str "box",.str "n"])) (he2:E e2=some (.tup [.str "number",.int la]))
    (hlg:E lg=some (.lst [.ref sa])) (hbn:E bn=some (.tup [.str "n",.int 0])) (hbl:E bl=some (.lst [.ref bn])) (hql:E ql=some (.lst [])) (hdr:E dr=some (.lst [])) (hht:E ht=some (.tup [.str "tick",.ref dl])) (hhl:E hl=some (.lst [.ref ht])) (hmt:E mt=some (.tup [.str "one",.ref bl,.ref ql,.ref dr,.ref hl])) :
    wY la sp way E mt:=by
  have D:eV ["n"] [] E (fv la sp way) [.ref d1,.ref i1]:=by
    unfold fv
    simp only [eV]
    refine ⟨_,_,rfl,hP.dd,_,_,rfl,?_,rfl⟩
    simp only [dZ]
    refine ⟨i1,.ref e3,.ref ll,.ref lg,rfl,hi,⟨.two he3 (in7 (.inr (.inl rfl))) (.box he1 (by simp)) (.num he2 (lX (by omega))),by show 2<=15; decide⟩,hL.ds,lg,_,rfl,hlg,by show 1 < 1000; decide,?_⟩
    simp only [eV]
    exact ⟨_,_,rfl,hA.dd hs,rfl⟩
  have dp:(fv la sp way).deep<=1:=by
    unfold fv
    simp only [Ds.deep,Dd.deep,zQ]
    decide
  refine ⟨⟨mt,bl,ql,dr,hl,.str "one",[.ref bn],[.ref ht],rfl,hmt,hbl,.cons ⟨bn,.int 0,rfl,hbn⟩ .nil,hql,hdr,hhl,.cons ⟨ht,.ref dl,rfl,hht,dl,_,rfl,hdl,by show 2 < 1000; decide,D⟩ .nil⟩,?_,⟨bl,ql,_,_,_,bn,hmt,hbl,hbn,hql⟩⟩
  have TD:=eV.tree (fv la sp way) _ 18 D (by omega)
  refine Tree.atup hmt (by show 5 < 1000; decide) fun y hy=>?_
  simp only [ak,aX,or_false] at hy
  rcases hy with rfl | rfl | rfl | rfl | rfl
  · exact Tree.scal (by exact trivial) _
  · refine Tree.alst hbl (by show 1 < 1000; decide) fun z hz=>?_
    rw [au.mp hz]
    refine Tree.atup hbn (by show 2 < 1000; decide) fun z hz=>?_
    simp only [ak,aX,or_false] at hz
    rcases hz with rfl | rfl <;> exact Tree.scal (by exact trivial) _
  · exact Tree.alst hql (by show 0 < 1000; decide) fun z hz=>by cases hz
  · exact Tree.alst hdr (by show 0 < 1000; decide) fun z hz=>by cases hz
  · refine Tree.alst hhl (by show 1 < 1000; decide) fun z hz=>?_
    rw [au.mp hz]
    refine Tree.atup hht (by show 2 < 1000; decide) fun z hz=>?_
    simp only [ak,aX,or_false] at hz
    rcases hz with rfl | rfl
    · exact Tree.scal (by exact trivial) _
    · exact Tree.alst hdl (by show 2 < 1000; decide) fun z hz=>Tree.up2 (TD z hz) (by decide)
theorem Kp (a b c:V):qS [] [((Sum.inr "end":Key),a),(Sum.inr "fault",b),(Sum.inr "none",c)]=[((Sum.inr "end":Key),a),(Sum.inr "fault",b),(Sum.inr "none",c)]:=rfl
theorem zR {a b:Str} (h:a≠b):¬ (Sum.inr a:Key)=Sum.inr b:=fun z=>h (je z)
theorem valS0 {a b c:V}:fZ [((Sum.inr "end":Key),a),(Sum.inr "fault",b),(Sum.inr "none",c)] (Sum.inr "end")=some a:=iN rfl
theorem valS1 {a b c:V}:fZ [((Sum.inr "end":Key),a),(Sum.inr "fault",b),(Sum.inr "none",c)] (Sum.inr "fault")=some b:=(iw (zR (by decide +kernel))).trans (iN rfl)
theorem valS2 {a b c:V}:fZ [((Sum.inr "end":Key),a),(Sum.inr "fault",b),(Sum.inr "none",c)] (Sum.inr "none")=some c:=(iw (zR (by decide +kernel))).trans ((iw (zR (by decide +kernel))).trans (iN rfl))
theorem Rd.same {H G:Hp} (s:bF H G) {a:aa} {o:HO} (h:Rd H a o):Rd G a o:=by
  rcases h with h | ⟨u,h⟩
  · exact .inl (s _ _ h)
  · exact .inr ⟨u,s _ _ h⟩
theorem hZ.same {H G:Hp} (s:bF H G) {a:aa} {y:V} {r:Option V} (h:hZ H a y r):hZ G a y r:=by
  rcases h with ⟨kvs,k,h1,h2,h3⟩ | ⟨kvs,k,b,h1,h2,h3,h4⟩
  · exact .inl ⟨kvs,k,Rd.same s h1,h2,h3⟩
  · exact .inr ⟨kvs,k,b,Rd.same s h1,h2,s _ _ h3,h4⟩
theorem ka {H G:Hp} {a:aa} {o:HO} (s:bF H G) (n:H a=none):bF H (upd G a o):=fun b u e=>by
  rw [aG (aN e n)]
  exact s _ _ e
end My
namespace My
open PySem L2
section
variable {P:aO} {w:bj} {K:af} {mg:Str->Option ae} {base:cb} {f:aa} {fd:bG}
seal L2.PS L2.PSs L2.PE L2.PA L2.PT L2.PW L2.PI L2.PG L2.PGs L2.PC L2.PPs
def Fj:Sp:=fun vs H Q _=>∃ (la way:Nat) (sp:Int),vs=[.int la,.str (stW way),.int sp]/\way < 3/\(1<=la/\la<=100)/\(1<=sp/\sp<=9)/\∀ (G:Hp) (mt:aa),bF H G->(∀ F,fg G F->wY la sp way F mt)->Q (.ref mt) G
abbrev nMa:List Str:=["_law_last","_law_stop","_law_span","_law_stops","_law_again","_law_deeds"]
abbrev pMa:List Str:=["_law_last","_law_stop","_law_span"]
theorem HK:bD nMa pMa (aP i9):=⟨rfl,rfl,rfl,by decide +kernel,rfl,by decide +kernel,by decide +kernel⟩
theorem ok_Ma (D:Df K mg "_law_machine" i9 pMa f fd):bg P w K mg base CX0 1 f fd pMa Fj:=by
  refine D.F.ok HK (fun vs H Q E h=>?_) (fun cdv A outer s H vs Q E hr h=>?_)
  · obtain ⟨la,way,sp,rfl,_⟩:=h
    rfl
  obtain ⟨la,way,sp,rfl,hw,hla,hsp,k⟩:=h
  have hu1:=ji hr
  refine ⟨_,ax (bK (i:=3) HK.nd rfl (Or.inl rfl) (Gc (sV bC (dP (fV (cK (dH bC ay)) ay)) (sV bC (dP (fV (cK (dH bC (dH bC (fV (cK (dH bC (fV (cK (dH bC ay)) (fV (cK (dH bC (dH aD ay))) ay)))) ay)))) ay)) (sV bC (dP ay) F7))) rfl rfl (by simp) (by decide)))
    (ax (bK (i:=4) HK.nd rfl (Or.inl rfl) (dP (fV (cK (dH bC (dH aD (dH bC (fV (cK (dH bC (gB (pv 2) ay))) (dH aD (fV (cK (dH bC (dH bC ay))) (fV (cK (dH bC (dH aD ay))) ay)))))))) ay)))
    (ax (bK (i:=5) HK.nd rfl (Or.inl rfl) (dP (fV (cK (dH bC (dH bC (fV (cK (dH bC (fV (cK (dH bC (dH bC ay))) (fV (cK (dH bC (dH aD ay))) ay)))) ay)))) ay)))
    (ax (c5 (jX bM cI cJ gN (pv 5) (fV (cK (dH bC (fV (cK (dH bC (fV (cK (dH bC (dH bC ay))) (fV (cK (dH bC (gB (pv 0) ay))) ay)))) (pa_s (mr hu1 (pv 3) (pv 1) (fun _ _=>rfl)) (gB (pv 4) ay))))) ay) (hs:=yA)))
    (aF (bV (cK (dH bC (oH (dP (fV (cK (dH bC (dH aD ay))) ay)) (oH (dP ay) (oH (dP ay) (oH (dP (fV (cK (dH bC (gB (pv 5) ay))) ay)) ay))))))))))),?_⟩
  have le3:3<=az:=by decide
  -- the stops
  refine eO (e9 ?_)
  intro p hp
  refine ⟨pj,fun e1 he1=>⟨pj,fun l1 hl1=>⟨pj,fun a1 ha1=>⟨lt2,fun a2 ha2=>⟨le3,fun a3 ha3=>⟨le3,fun a4 ha4=>⟨pj,fun l2 hl2=>⟨bA _,fun l3 hl3=>?_⟩⟩⟩⟩⟩⟩⟩⟩
  have q0:=aH hp (.dK [])
  have q1:=aH he1 (.tup [.str "end"])
  have q2:=aH hl1 (.lst [.ref e1])
  have q3:=aH ha1 (.tup [.str "now"])
  have q4:=aH ha2 (.tup [.str "number",.int 0])
  have q5:=aH ha3 (.tup [.str "part",.ref a1,.ref a2])
  have q6:=aH ha4 (.tup [.str "put",.str "n",.ref a3])
  have q7:=aH hl2 (.lst [.ref a4])
  have q8:=aH hl3 (.lst [])
  have u7:=q8
  have u6:=q7.trans u7
  have u5:=q6.trans u6
  have u4:=q5.trans u5
  have u3:=q4.trans u4
  have u2:=q3.trans u3
  have u1:=q2.trans u2
  have u0:=q1.trans u1
  have hp8:=u0 _ _ (ah:upd H p (.dK []) p=_)
  have f1:=u1 _ _ (ah:upd (upd H p (.dK [])) e1 (.tup [.str "end"]) e1=_)
  have f2:=u2 _ _ (ah:upd (upd (upd H p (.dK [])) e1 (.tup [.str "end"])) l1 (.lst [.ref e1]) l1=_)
  have f3:=u3 _ _ (ah:upd _ a1 _ a1=_)
  have f4:=u4 _ _ (ah:upd _ a2 _ a2=_)
  have f5:=u5 _ _ (ah:upd _ a3 _ a3=_)
  have f6:=u6 _ _ (ah:upd _ a4 _ a4=_)
  have f7:=u7 _ _ (ah:upd _ l2 _ l2=_)
  have f8:(upd (upd (upd (upd (upd (upd (upd (upd (upd H p (.dK [])) e1 (.tup [.str "end"])) l1 (.lst [.ref e1])) a1 (.tup [.str "now"])) a2 (.tup [.str "number",.int 0])) a3 (.tup [.str "part",.ref a1,.ref a2])) a4 (.tup [.str "put",.str "n",.ref a3])) l2 (.lst [.ref a4])) l3 (.lst [])) l3=some (.lst []):=ah
  have sX:=q0.trans u0
  revert hp8 f1 f2 f3 f4 f5 f6 f7 f8 sX
  clear u0 u1 u2 u3 u4 u5 u6 u7 q0 q1 q2 q3 q4 q5 q6 q7 q8
  generalize upd (upd (upd (upd (upd (upd (upd (upd (upd H p (.dK [])) e1 (.tup [.str "end"])) l1 (.lst [.ref e1])) a1 (.tup [.str "now"])) a2 (.tup [.str "number",.int 0])) a3 (.tup [.str "part",.ref a1,.ref a2])) a4 (.tup [.str "put",.str "n",.ref a3])) l2 (.lst [.ref a4])) l3 (.lst [])=GX
  intro hp8 f1 f2 f3 f4 f5 f6 f7 f8 sX
  refine ⟨hp8,[(Sum.inr "end",.ref l1),(Sum.inr "fault",.ref l2),(Sum.inr "none",.ref l3)],rfl,by show 3<=15; decide,?_⟩
  rw [Kp]
  refine cT ?_
  dsimp only
  have kp:=ka (o:=.dK [(Sum.inr "end",.ref l1),(Sum.inr "fault",.ref l2),(Sum.inr "none",.ref l3)]) sX hp
  have hdk:upd GX p (.dK [(Sum.inr "end",.ref l1),(Sum.inr "fault",.ref l2),(Sum.inr "none",.ref l3)]) p=some (.dK [(Sum.inr "end",.ref l1),(Sum.inr "fault",.ref l2),(Sum.inr "none",.ref l3)]):=ah
  have kn:∀ {a o},o≠.dK []->GX a=some o->upd GX p (.dK [(Sum.inr "end",.ref l1),(Sum.inr "fault",.ref l2),(Sum.inr "none",.ref l3)]) a=some o:=fun n e=>bL e (fc e hp8 n)
  have g1:=kn (by intro z; cases z) f1
  have g2:=kn (by intro z; cases z) f2
  have g3:=kn (by intro z; cases z) f3
  have g4:=kn (by intro z; cases z) f4
  have g5:=kn (by intro z; cases z) f5
  have g6:=kn (by intro z; cases z) f6
  have g7:=kn (by intro z; cases z) f7
  have g8:=kn (by intro z; cases z) f8
  revert kp hdk g1 g2 g3 g4 g5 g6 g7 g8
  clear kn hp8 f1 f2 f3 f4 f5 f6 f7 f8 sX
  generalize upd GX p (.dK [(Sum.inr "end",.ref l1),(Sum.inr "fault",.ref l2),(Sum.inr "none",.ref l3)])=G1
  intro s1 hdk g1 g2 g3 g4 g5 g6 g7 g8
  obtain ⟨ll,hdg,hL⟩:∃ ll,hZ G1 p (.str (stW way)) (some (.ref ll))/\oI G1 way ll:=by
    match way,hw with
    | 0,_=>exact ⟨l1,by have z:=hZ.k (k:=Sum.inr ("end":Str)) hdk; rw [valS0] at z; exact z,.inl ⟨rfl,e1,g2,g1⟩⟩
    | 1,_=>exact ⟨l2,by have z:=hZ.k (k:=Sum.inr ("fault":Str)) hdk; rw [valS1] at z; exact z,.inr (.inl ⟨rfl,a4,a3,a1,a2,g7,g6,g5,g3,g4⟩)⟩
    | 2,_=>exact ⟨l3,by have z:=hZ.k (k:=Sum.inr ("none":Str)) hdk; rw [valS2] at z; exact z,.inr (.inr ⟨rfl,g8⟩)⟩
  clear g1 g2 g3 g4 g5 g6 g7 g8 hdk
  -- the sign again
  refine eO (e9 ?_)
  refine ⟨_,rfl,lt2,fun n1 hn1=>⟨lt2,fun g1 hg1=>⟨lt2,fun w1 hw1=>⟨by show 7<=az; decide,fun sa hsa=>⟨pj,fun lg hlg=>?_⟩⟩⟩⟩⟩
  have q1:=aH hn1 (.tup [.str "number",.int sp])
  have q2:=aH hg1 (.tup [.str "box",.str "n"])
  have q3:=aH hw1 (.tup [.str "number",.int 0])
  have q4:=aH hsa (.tup [.str "send",.int 0,.str "tick",.ref n1,.int 1,.ref g1,.ref w1])
  have q5:=aH hlg (.lst [.ref sa])
  have u4:=q4.trans q5
  have u3:=q3.trans u4
  have u2:=q2.trans u3
  have u1:=q1.trans u2
  refine cT ?_
  dsimp only
  refine Fi (P:=fun G=>bF H G/\oI G way ll/\hZ G p (.str (stW way)) (some (.ref ll))/\jL G sp sa/\G lg=some (.lst [.ref sa])) ⟨s1.trans u1,hL.keep (fg.same u1),(hZ.same u1 hdg),⟨n1,g1,w1,q5 _ _ ah,u2 _ _ ah,u3 _ _ ah,u4 _ _ ah⟩,ah⟩ fun G2 h2=>?_
  clear u1 u2 u3 u4 q1 q2 q3 q4 q5 hlg hsa hw1 hg1 hn1 hL hdg s1
  obtain ⟨s2,hL,hdg,hA,hlg⟩:=h2
  -- the deeds
  refine eO (e9 ?_)
  refine ⟨lt2,fun c1 hc1=>⟨lt2,fun c2 hc2=>⟨le3,fun c3 hc3=>⟨le3,fun d1 hd1=>⟨pj,fun dl hdl=>?_⟩⟩⟩⟩⟩
  have q1:=aH hc1 (.tup [.str "box",.str "n"])
  have q2:=aH hc2 (.tup [.str "number",.int 1])
  have q3:=aH hc3 (.tup [.str "plus",.ref c1,.ref c2])
  have q4:=aH hd1 (.tup [.str "put",.str "n",.ref c3])
  have q5:=aH hdl (.lst [.ref d1])
  have u4:=q4.trans q5
  have u3:=q3.trans u4
  have u2:=q2.trans u3
  have u1:=q1.trans u2
  have Hdl:=none_of s2 (none_of (((q1.trans q2).trans q3).trans q4) hdl)
  refine cT ?_
  dsimp only
  refine Fi (P:=fun G=>bF H G/\oI G way ll/\hZ G p (.str (stW way)) (some (.ref ll))/\jL G sp sa/\G lg=some (.lst [.ref sa])/\rF G d1/\G dl=some (.lst [.ref d1])/\lg≠dl) ⟨s2.trans u1,hL.keep (fg.same u1),(hZ.same u1 hdg),hA.keep (fg.same u1),u1 _ _ hlg,⟨c3,c1,c2,q5 _ _ ah,u4 _ _ ah,u2 _ _ ah,u3 _ _ ah⟩,ah,aN ((((q1.trans q2).trans q3).trans q4) _ _ hlg) hdl⟩ fun G3 h3=>?_
  clear u1 u2 u3 u4 q1 q2 q3 q4 q5 hdl hd1 hc3 hc2 hc1 hL hdg hA hlg s2
  obtain ⟨s3,hL,hdg,hA,hlg,hP,hdl,nlg⟩:=h3
  refine eO ?_
  refine ⟨_,rfl,.inl ⟨rfl,_,SqL.of hdl⟩,lt2,fun e1 he1=>⟨_,rfl,lt2,fun e2 he2=>⟨le3,fun e3 he3=>?_⟩⟩⟩
  have q1:=aH he1 (.tup [.str "box",.str "n"])
  have q2:=aH he2 (.tup [.str "number",.int la])
  have q3:=aH he3 (.tup [.str "same",.ref e1,.ref e2])
  refine ⟨_,rfl,_,rfl,p,.ref ll,rfl,(hZ.same ((q1.trans q2).trans q3) hdg),_,rfl,by show 4<=az; decide,fun i1 hi1=>?_⟩
  have q4:=aH hi1 (.tup [.str "if",.ref e3,.ref ll,.ref lg])
  have u3:=q3.trans q4
  have u2:=q2.trans u3
  have u1:=q1.trans u2
  have hdl4:=u1 _ _ hdl
  have b1:=u2 _ _ (ah:upd G3 e1 _ e1=_)
  have b2:=u3 _ _ (ah:upd (upd G3 e1 _) e2 _ e2=_)
  have b3:=q4 _ _ (ah:upd (upd (upd G3 e1 _) e2 _) e3 _ e3=_)
  have b4:(upd (upd (upd (upd G3 e1 (.tup [.str "box",.str "n"])) e2 (.tup [.str "number",.int la])) e3 (.tup [.str "same",.ref e1,.ref e2])) i1 (.tup [.str "if",.ref e3,.ref ll,.ref lg])) i1=some (.tup [.str "if",.ref e3,.ref ll,.ref lg]):=ah
  have hL:=hL.keep (fg.same u1)
  have hA:=hA.keep (fg.same u1)
  have hP:=hP.keep (fg.same u1)
  have hlg:=u1 _ _ hlg
  have s4:=s3.trans u1
  revert hdl4 b1 b2 b3 b4 hL hA hP hlg s4
  clear u1 u2 u3 q1 q2 q3 q4 hdl hdg s3
  generalize upd (upd (upd (upd G3 e1 (.tup [.str "box",.str "n"])) e2 (.tup [.str "number",.int la])) e3 (.tup [.str "same",.ref e1,.ref e2])) i1 (.tup [.str "if",.ref e3,.ref ll,.ref lg])=G4
  intro hdl4 b1 b2 b3 b4 hL hA hP hlg s4
  refine ⟨dl,_,_,rfl,rfl,hdl4,by show 1 < az; decide,?_⟩
  have kd:∀ {a:aa} {o:HO},a≠dl->G4 a=some o->upd G4 dl (.lst ([.ref d1]++[.ref i1])) a=some o:=fun n e=>bL e n
  have nt:∀ {a xs},G4 a=some (.tup xs)->a≠dl:=fun e=>fc e hdl4 (by intro z; cases z)
  obtain ⟨n1,g1,w1,a1,a2,a3,a4⟩:=hA
  obtain ⟨c3,c1,c2,p1,p2,p3,p4⟩:=hP
  have kL:oI (upd G4 dl (.lst ([.ref d1]++[.ref i1]))) way ll:=by
    rcases hL with ⟨z,a,h1,h2⟩ | ⟨z,lv,a3,a1,a2,h1,h2,h3,h4,h5⟩ | ⟨z,h⟩
    · refine .inl ⟨z,a,kd (fun y=>?_) h1,kd (nt h2) h2⟩
      rw [y,hdl4] at h1
      cases h1
      rw [p1] at h2
      cases h2
    · refine .inr (.inl ⟨z,lv,a3,a1,a2,kd (fun y=>?_) h1,kd (nt h2) h2,kd (nt h3) h3,kd (nt h4) h4,kd (nt h5) h5⟩)
      rw [y,hdl4] at h1
      cases h1
      rw [p1] at h2
      cases h2
      rw [p2] at h3
      cases h3
    · refine .inr (.inr ⟨z,kd (fun y=>?_) h⟩)
      rw [y,hdl4] at h
      cases h
  dsimp only
  refine Fi (P:=fun G=>bF H G/\oI G way ll/\jL G sp sa/\G lg=some (.lst [.ref sa])/\rF G d1/\G dl=some (.lst [.ref d1,.ref i1])/\G i1=some (.tup [.str "if",.ref e3,.ref ll,.ref lg])/\G e3=some (.tup [.str "same",.ref e1,.ref e2])/\G e1=some (.tup [.str "box",.str "n"])/\G e2=some (.tup [.str "number",.int la]))
    ⟨ka s4 Hdl,kL,⟨n1,g1,w1,kd (nt a1) a1,kd (nt a2) a2,kd (nt a3) a3,kd (nt a4) a4⟩,kd nlg hlg,⟨c3,c1,c2,kd (nt p1) p1,kd (nt p2) p2,kd (nt p3) p3,kd (nt p4) p4⟩,ah,kd (nt b4) b4,kd (nt b3) b3,kd (nt b1) b1,kd (nt b2) b2⟩ fun G4 h4=>?_
  clear b1 b2 b3 b4 p1 p2 p3 p4 a1 a2 a3 a4 kL nt kd hdl4 hL hlg s4
  obtain ⟨s4,hL,hA,hlg,hP,hdl,hi,he3,he1,he2⟩:=h4
  refine tJ ?_
  refine ⟨lt2,fun bn hbn=>⟨pj,fun bl hbl=>⟨bA _,fun ql hql=>⟨bA _,fun dr hdr=>⟨_,rfl,lt2,fun ht hht=>⟨pj,fun hl hhl=>⟨by show 5<=az; decide,fun mt hmt=>?_⟩⟩⟩⟩⟩⟩⟩
  have q1:=aH hbn (.tup [.str "n",.int 0])
  have q2:=aH hbl (.lst [.ref bn])
  have q3:=aH hql (.lst [])
  have q4:=aH hdr (.lst [])
  have q5:=aH hht (.tup [.str "tick",.ref dl])
  have q6:=aH hhl (.lst [.ref ht])
  have q7:=aH hmt (.tup [.str "one",.ref bl,.ref ql,.ref dr,.ref hl])
  have u6:=q6.trans q7
  have u5:=q5.trans u6
  have u4:=q4.trans u5
  have u3:=q3.trans u4
  have u2:=q2.trans u3
  have u1:=q1.trans u2
  refine k _ mt (s4.trans u1) fun F kf=>?_
  have kg:=(fg.same u1).trans kf
  exact Ko hla hsp (hL.keep kg) (hA.keep kg) (hP.keep kg) (kg.refs hdl) (kg.tup hi) (kg.tup he3) (kg.tup he1) (kg.tup he2) (kg.refs hlg) (kf.tup (u2 _ _ ah)) (kf.refs (u3 _ _ ah)) (kf.nil (u4 _ _ ah)) (kf.nil (u5 _ _ ah)) (kf.tup (u6 _ _ ah)) (kf.refs (q7 _ _ ah)) (kf.tup ah)
end
end My
namespace My
open PySem L2
theorem Kq {X:Cx} {e:cA} {t:L2.TT} (t':L2.TT) (h:PT X e t) (i:∀ σ H Q,t' σ H Q->t σ H Q):PT X e t':=fun pins s σ H Q I q=>h pins s σ H Q I (i σ H Q q)
def wZ (t:L2.TT) (σ:St) (H:Hp) (b:Bool):Prop:=∀ Q:Bool->Hp->Prop,(∀ G,bF H G->Q b G)->t σ H Q
theorem wZ.and {tA tB:L2.TT} {σ:St} {H:Hp} {x y:Bool} (a:wZ tA σ H x) (b:x=true->∀ G,bF H G->wZ tB σ G y):wZ (Cr tA tB) σ H (x && y):=fun Q q=>a _ fun G s=>by
  cases x with
  | true=>exact gJ (b rfl G s Q fun G' s'=>q G' (s.trans s'))
  | false=>exact fG (q G s)
theorem HL {t:L2.TT} {a b:TS} {D:jS} {σ:St} {H:Hp} {c:Bool} (h:wZ t σ H c) (k1:c=true->∀ G,bF H G->a D σ G) (k2:c=false->∀ G,bF H G->b D σ G):FG t a b D σ H:=h _ fun G s=>by
  cases c with
  | true=>exact gJ (k1 rfl G s)
  | false=>exact fG (k2 rfl G s)
def EnT (H:Hp) (t:aa) (cu:Bool):Prop:=(cu=true/\H t=some (.tup [.str "cut"]))\/(cu=false/\∃ x y r,H t=some (.tup (.str x :: y :: r)))
theorem EnT.same {H G:Hp} (s:bF H G) {t:aa} {cu:Bool} (h:EnT H t cu):EnT G t cu:=by
  rcases h with ⟨e,h⟩ | ⟨e,x,y,r,h⟩
  · exact .inl ⟨e,s _ _ h⟩
  · exact .inr ⟨e,x,y,r,s _ _ h⟩
theorem Fk {i:Nat} {σ:St} {H:Hp} {t:aa} {cu:Bool} (hv:σ[i]?=some (some (.ref t))) (h:EnT H t cu):wZ (uG (tOp Jz (t7 i) (Jc (iV (tC (.str "cut")) rK)))) σ H cu:=fun Q q=>by
  refine ⟨_,hv,pj,fun p hp=>?_⟩
  have sp:=aH hp (.tup [.str "cut"])
  rcases h with ⟨rfl,h⟩ | ⟨rfl,x,y,r,h⟩
  · refine ⟨0,t,p,_,_,by decide,rfl,rfl,sp _ _ h,ah,fun _=>true,fun i x y hx hy=>?_,_,rfl,q _ sp⟩
    match i,hx,hy with
    | 0,hx,hy =>
      cases hx
      cases hy
      exact .inr ⟨_,_,rfl,rfl,(decide_eq_true rfl).symm⟩
    | i + 1,hx,_=>cases hx
  · refine ⟨0,t,p,_,_,by decide,rfl,rfl,sp _ _ h,ah,fun _=>decide (x="cut"),fun i x' y' hx hy=>?_,false,?_,q _ sp⟩
    · match i,hx,hy with
      | 0,hx,hy =>
        cases hx
        cases hy
        exact .inr ⟨_,_,rfl,rfl,rfl⟩
      | i + 1,_,hy=>cases hy
    · congr 1
      rw [Bool.and_eq_false_iff]
      exact .inr (by simp)
def duT:L2.TT:=fun σ H Q=>∃ (rl pl t:aa) (rvs pvs:List V) (most:Int) (cu:Bool),σ[5]?=some (some (.ref rl))/\σ[7]?=some (some (.ref pl))/\σ[4]?=some (some (.int most))/\σ[6]?=some (some (.ref t))/\H rl=some (.lst rvs)/\H pl=some (.lst pvs)/\EnT H t cu /\
  ∀ G,bF H G->Q (decide ((rvs.length:Int) < most) && (cu && decide ((0:Int) < pvs.length))) G
theorem HM {K:af} {σ:St} {H:Hp} {Q:Bool->Hp->Prop} (h:duT σ H Q):Cr (uG (tOp (rI0 fun i j=>.bl (decide (i < j))) (tCB (AJ K) (iV (t7 5) rK)) (t7 4))) (Cr (uG (tOp Jz (t7 6) (Jc (iV (tC (.str "cut")) rK)))) (uG (tOp (rI0 fun i j=>.bl (decide (j < i))) (tCB (AJ K) (iV (t7 7) rK)) (tC (.int 0))))) σ H Q:=by
  obtain ⟨rl,pl,t,rvs,pvs,most,cu,h5,h7,h4,h6,hr,hp,he,k⟩:=h
  exact wZ.and (fun Q q=>⟨_,h5,rl,rvs,rfl,.inl (SqL.of hr),_,h4,_,_,rfl,rfl,_,rfl,q H (bF.refl _)⟩) (fun _ G s=>wZ.and (Fk h6 (he.same s)) (fun _ G' s' Q q=>⟨_,h7,pl,pvs,rfl,.inl (SqL.of (s' _ _ (s _ _ hp))),_,_,rfl,rfl,_,rfl,q G' (bF.refl _)⟩)) Q k
theorem vE:eE "min"=some (.builtin "min"):=by decide +kernel
theorem dec_int (w k:Int):decide (V.int w=V.int k)=decide (w=k):=by
  by_cases c:w=k
  · subst c
    rw [decide_eq_true rfl,decide_eq_true rfl]
  · rw [decide_eq_false c,decide_eq_false (fun z=>c (by cases z; rfl))]
theorem dec_str (w k:Str):decide (V.str w=V.str k)=decide (w=k):=by
  by_cases c:w=k
  · subst c
    rw [decide_eq_true rfl,decide_eq_true rfl]
  · rw [decide_eq_false c,decide_eq_false (fun z=>c (by cases z; rfl))]
theorem Fl {way:Nat} (hw:way < 3):decide (stW way="fault")=decide (way=1):=by
  match way,hw with
  | 0,_=>exact (by decide +kernel)
  | 1,_=>exact (by decide +kernel)
  | 2,_=>exact (by decide +kernel)
theorem Kr {way:Nat} (hw:way < 3):decide (stW way="end")=decide (way=0):=by
  match way,hw with
  | 0,_=>exact (by decide +kernel)
  | 1,_=>exact (by decide +kernel)
  | 2,_=>exact (by decide +kernel)
theorem Fn {H:Hp} {a b:aa} {n m:List Int} (ha:H a=some (.tup (n.map V.int))) (hb:H b=some (.tup (m.map V.int))) (l:n.length=m.length):BEq H 1 (.ref a) (.ref b) (decide (n=m)):=by
  refine .inr ⟨a,b,_,_,rfl,rfl,.inr ⟨.inr ⟨ha,hb⟩,by rw [av,av,l],fun i=>decide (n[i]?=m[i]?),fun i x y hx hy=>?_,?_⟩⟩
  · rw [bf] at hx hy
    cases e1:n[i]? with
    | none =>
      rw [e1] at hx
      cases hx
    | some p =>
      cases e2:m[i]? with
      | none =>
        rw [e2] at hy
        cases hy
      | some q =>
        rw [e1] at hx
        rw [e2] at hy
        cases hx
        cases hy
        refine .inl ⟨p,q,rfl,rfl,?_⟩
        show decide (n[i]?=m[i]?)=_
        by_cases c:p=q
        · rw [decide_eq_true c,decide_eq_true (by rw [e1,e2,c])]
        · rw [decide_eq_false c,decide_eq_false (by rw [e1,e2]; exact fun z=>c (b5 z))]
  · rw [av]
    by_cases c:n=m
    · subst c
      rw [decide_eq_true rfl]
      exact (r9.mpr fun i _=>decide_eq_true rfl).symm
    · rw [decide_eq_false c]
      refine (DE.mpr fun z=>c ?_).symm
      refine List.ext_getElem? fun i=>?_
      rcases nZ i n.length with lt | ge
      · exact of_decide_eq_true (r9.mp z i (uB.mpr lt))
      · rw [jo ge,jo (by omega)]
theorem tW {H:Hp}:∀ {as:List aa} {ns:List (List Int)} (i:Nat),fu H as ns->fu H (as.eraseIdx i) (ns.eraseIdx i)
  | _,_,_,.nil=>.nil
  | _,_,0,.cons _ t=>t
  | _,_,i + 1,.cons r t=>.cons r (tW i t)
theorem oV {H:Hp} {as:List aa} {ns:List (List Int)} {a:aa} {n:List Int} (t:fu H as ns) (h:H a=some (.tup (n.map V.int))):fu H (as++[a]) (ns++[n]):=fu.append t (.cons h .nil)
theorem HN {H:Hp}:∀ {as:List aa} {ns:List (List Int)} {a:aa},fu H as ns->a∈as->∃ (i:Nat) (n:List Int),as[i]?=some a/\ns[i]?=some n/\H a=some (.tup (n.map V.int)):=fun t h=>by
  obtain ⟨i,hi⟩:=bY h
  obtain ⟨n,h1,h2⟩:=t.get hi
  exact ⟨i,n,hi,h1,h2⟩
theorem map_int_inj {n m:List Int} (h:n.map V.int=m.map V.int):n=m:=List.map_inj_right (fun _ _ z=>by cases z; rfl) |>.mp h
abbrev gR (la:Nat) (sp:Int) (way:Nat) (os:List Int) (j:Nat):RS×List Rec:=itR (M27 la sp way) (hJ (M27 la sp way) (oG os)) j
structure DuAt (la:Nat) (sp:Int) (way:Nat) (os:List Int) (most:Int) (H G:Hp) (rl pl:aa) (en:V) (j t:Nat):Prop where
  sm:bF H G
  hj:∀ i,i < j->kD (gR la sp way os i).1 (most - (gR la sp way os i).2.length)=none
  at_:∃ tk ns,tV la sp (gR la sp way os j).1 t tk ns
  hr:∃ as:List aa,G rl=some (.lst (as.map V.ref))/\fu G as ((gR la sp way os j).2.map fun q=>q.h.key)
  hp:∃ (bs:List aa) (ps:List (List Int)),G pl=some (.lst (bs.map V.ref))/\fu G bs ps/\ps.Perm ((gR la sp way os j).1.pd.map Ev.key)
  en:((gR la sp way os j).1.sp=none/\∃ x,en=.ref x/\G x=some (.tup [.str "cut"]))\/∃ s,(gR la sp way os j).1.sp=some s/\rD G en s
def rG (la:Nat) (G:Hp) (t:aa) (q:RS×List Rec) (e:End):Prop:=∃ (rl:aa) (en:V) (tc:Nat) (as:List aa),G t=some (.tup [.ref rl,en,.int tc])/\G rl=some (.lst (as.map V.ref))/\fu G as (q.2.map fun x=>x.h.key)/\pN G en e/\q.1.sts=[iT la tc,oE]
def yB (σ:St) (G:Hp):Nat:=match (σ[6]?:Option (Option V)),(σ[5]?:Option (Option V)) with
  | some (some (.ref t)),some (some (.ref rl))=>(match G t,G rl with | some (.tup [_]),some (.lst rs)=>1 + (2000 - rs.length) | _,_=>0)
  | _,_=>0
theorem qz {σ:St} {G:Hp} {t rl:aa} {x:V} {rs:List V} (h6:σ[6]?=some (some (.ref t))) (h5:σ[5]?=some (some (.ref rl))) (ht:G t=some (.tup [x])) (hr:G rl=some (.lst rs)):yB σ G=1 + (2000 - rs.length):=by
  unfold yB
  rw [h6,h5]
  dsimp only
  rw [ht,hr]
theorem yC {σ:St} {G:Hp} {t rl:aa} {x y:V} {xs:List V} (h6:σ[6]?=some (some (.ref t))) (h5:σ[5]?=some (some (.ref rl))) (ht:G t=some (.tup (x :: y :: xs))):yB σ G=0:=by
  unfold yB
  rw [h6,h5]
  dsimp only
  rw [ht]
theorem HP {pd:List Ev} {h:Ev} {ps:List (List Int)} {n:List Int} (f:lW (pd++[h])) (p:ps.Perm ((pd++[h]).map Ev.key)) (hn:n∈ps) (le:∀ m∈ps,HT.lexLt m n=false):n=h.key:=by
  obtain ⟨e,he,ee⟩:=bH.mp (p.mem_iff.mp hn)
  have l:=le h.key (p.mem_iff.mpr (List.mem_map_of_mem (aV _ (au.mpr rfl))))
  rcases aU.mp he with z | z
  · rw [<- ee,(jQ f).2 e z] at l
    cases l
  · rw [<- ee,au.mp z]
theorem IK:∀ {xs:List (List Int)} {i j:Nat} {k:List Int},xs.Nodup->xs[i]?=some k->xs[j]?=some k->i=j
  | [],i,j,k,_,h,_=>by simp at h
  | x :: xs,0,0,k,_,_,_=>rfl
  | x :: xs,0,j + 1,k,nd,h,h'=>by
    simp at h h'
    subst h
    exact absurd (aM h') (bh.mp nd).1
  | x :: xs,i + 1,0,k,nd,h,h'=>by
    simp at h h'
    subst h'
    exact absurd (aM h) (bh.mp nd).1
  | x :: xs,i + 1,j + 1,k,nd,h,h'=>by
    rw [IK (xs:=xs) (i:=i) (j:=j) (k:=k) (bh.mp nd).2 (by simpa using h) (by simpa using h')]
theorem erase_map {α β:Type} (g:α->β):∀ (l:List α) (i:Nat),(l.map g).eraseIdx i=(l.eraseIdx i).map g
  | [],_=>rfl
  | _ :: _,0=>rfl
  | x :: l,i + 1=>by
    show g x :: (l.map g).eraseIdx i=g x :: (l.eraseIdx i).map g
    rw [erase_map g l i]
theorem tX {α:Type}:∀ {l:List α} {i:Nat} {x:α},l[i]?=some x->(x :: l.eraseIdx i).Perm l
  | y :: l,0,x,h=>by
    cases h
    exact dO _
  | y :: l,i + 1,x,h=>(List.Perm.swap y x (l.eraseIdx i)).trans ((tX (l:=l) (i:=i) (by simpa using h)).cons y)
theorem Fo {ps:List (List Int)} {ks:List (List Int)} {n:List Int} {i:Nat} (p:ps.Perm (ks++[n])) (h:ps[i]?=some n):(ps.eraseIdx i).Perm ks:=by
  exact (IJ n).mp (((tX h).trans p).trans jv)
section
variable {P:aO} {w:bj} {K:af} {mg:Str->Option ae} {base:cb} {f:aa} {fd:bG}
seal L2.PS L2.PSs L2.PE L2.PA L2.PT L2.PW L2.PI L2.PG L2.PGs L2.PC L2.PPs
def spDu:Sp:=fun vs H Q _=>∃ (la way:Nat) (sp:Int) (ol:aa) (os:List Int) (most:Int),vs=[.int la,.str (stW way),.int sp,.ref ol,.int most]/\H ol=some (.lst (os.map V.int))/\way < 3/\(1<=la/\la<=100)/\(1<=sp/\sp<=9)/\(∀ o∈os,0<=o/\o<=1000)/\os.length<=19/\most<=1000 /\
  ∀ (G:Hp) (t:aa) (i:Nat) (e:End),bF H G->rE (M27 la sp way) (hJ (M27 la sp way) (oG os)) most i e->rG la G t (gR la sp way os i) e->Q (.ref t) G
abbrev nDu:List Str:=["_law_last","_law_stop","_law_span","_law_others","_law_most","_law_records","_law_ending","_law_pending","_law_ticks","_law_key"]
abbrev pDu:List Str:=["_law_last","_law_stop","_law_span","_law_others","_law_most"]
theorem uz:bD nDu pDu (aP lT):=⟨rfl,rfl,rfl,by decide +kernel,rfl,by decide +kernel,by decide +kernel⟩
theorem ndDu:((["_law_k","_law_time"]:List Str)++nDu).Nodup:=by decide +kernel
theorem ok_Du (D:Df K mg "_law_due" lT pDu f fd) (B:Bl mg) (MM:mg "min"=none) (ME:mg "enumerate"=none):bg P w K mg base CX0 1 f fd pDu spDu:=by
  refine D.F.ok uz (fun vs H Q E h=>?_) (fun cdv A outer s H vs Q E hr h=>?_)
  · obtain ⟨la,way,sp,ol,os,most,rfl,_⟩:=h
    rfl
  obtain ⟨la,way,sp,ol,os,most,rfl,hol,hw,hla,hsp,hos,lo,hmo,k⟩:=h
  have h50:=Jp hr
  have h3:=bz (p9 (by decide:2<=50) _) h50
  refine ⟨_,ax (bK (i:=5) uz.nd rfl (Or.inl rfl) (dP ay))
    (ax (bK (i:=6) uz.nd rfl (Or.inl rfl) (cK (dH bC ay)))
    (ax (bK (i:=7) uz.nd rfl (Or.inl rfl) (cS zc (dP (fV (cK (dH aD (dH aD (ai (sD pG aD) (dH aD ay))))) ay)) (kN ["_law_k","_law_time"] (gY.open (NN:=nDu) (N:=nDu) (sc:=aP lT) rfl rfl (by decide +kernel) rfl (by decide +kernel) (by decide +kernel) rfl (by decide +kernel)) rfl (Ap (by rfl) ME (gB (pv 3) ay)) (fun _ _ _ _=>AK (n:=2) K (by rfl) rfl (lG (eF (i:=0) ndDu rfl (Or.inl rfl)) (lG (eF (i:=1) ndDu rfl (Or.inl rfl)) vL))) (fun _ _ _ _=>jJ) (fun _ _ _ _=>cK (gB (pv 1) (dH aD (ai (sD pG aD) (B1 (cS gz aD (pv 0)) ay))))))))
    (ax (bK (i:=8) uz.nd rfl (Or.inl rfl) aD)
    (ax (sy dB (Kq duT ((qH (bZ uF (cZ (jP K (by rfl)) (by rfl) B.len df (gB (pv 5) ay)) (pv 4) (cB _)) (qH (bZ (DK h50) (pv 6) (cK (dH bC ay)) (cB _)) (pY (bZ xl (cZ (jP K (by rfl)) (by rfl) B.len df (gB (pv 7) ay)) aD (cB _))))).pt) (fun σ H Q q=>HM (K:=K) q)) (ax (bK (i:=9) uz.nd rfl (Or.inl rfl) (cZ (vc h3 rfl) (by rfl) MM vE (gB (pv 7) ay)))
    (ax (c5 (jX bM PySem.F.slot_list_remove PySem.F.type_list_remove (BD h50) (pv 7) (gB (pv 9) ay)))
    (aF (c9 ((qH (bZ gc (bP b8 (pv 9) aD (fun _ _=>rfl)) (sD pG aD) (cB _)) (pY (bZ xl (bP b8 (pv 9) aD (fun _ _=>rfl)) aD (cB _)))).pt) (aF (c5 (jX bM cI cJ gN (pv 5) (gB (pv 9) ay)))) (aF (c9 ((qH (bZ gc (cS gz (pv 8) aD) (pv 0) (cB _)) (pY (bZ gc (pv 1) bC (cB _)))).pt) (aF (bK (i:=6) uz.nd rfl (Or.inl rfl) (cK (dH bC (dH bC (gB (pv 9) ay)))))) (ax (bK (i:=8) uz.nd rfl (Or.inl rfl) (cS gz (pv 8) aD))
    (ax (c5 (jX bM cI cJ gN (pv 5) (gB (pv 9) ay)))
    (aF (c9 (bZ uF (pv 8) (pv 0) (cB _)) (aF (c5 (jX bM cI cJ gN (pv 7) (fV (cK (B1 (cS gz (bP b8 (pv 9) aD (fun _ _=>rfl)) (pv 2)) (dH aD (dH aD (B1 (cS sE (pv 8) aD) ay))))) ay) (hs:=yA)))) (aF (c9 (bZ gc (pv 1) bC (cB _)) (aF (bK (i:=6) uz.nd rfl (Or.inl rfl) (cK (dH bC (gB (pv 9) ay))))) cE)))))))))))))
    (ax (c9 ((qH (bZ (DK h50) (pv 6) (cK (dH bC ay)) (cB _)) (pY (bZ gc (cZ (jP K (by rfl)) (by rfl) B.len df (gB (pv 7) ay)) aD (cB _)))).pt) (aF (bK (i:=6) uz.nd rfl (Or.inl rfl) (cK (dH bC ay)))) cE)
    (aF (bV (cK (gB (pv 5) (gB (pv 6) (gB (pv 8) ay))))))))))),?_⟩
  have le4:4<=az:=by decide
  have big:2000 < az:=by decide
  have b1000:=iR
  -- no records, cut
  refine eO (e9 ?_)
  refine ⟨bA _,fun rl hrl=>?_⟩
  refine cT ?_
  dsimp only
  refine eO (e9 ?_)
  refine ⟨pj,fun et het=>?_⟩
  refine cT ?_
  dsimp only
  have q1:=aH hrl (.lst [])
  have q2:=aH het (.tup [.str "cut"])
  have hrl1:=q2 _ _ (ah:upd H rl (.lst []) rl=_)
  have het1:upd (upd H rl (.lst [])) et (.tup [.str "cut"]) et=some (.tup [.str "cut"]):=ah
  have s1:=q1.trans q2
  revert hrl1 het1 s1
  clear q1 q2 het
  generalize upd (upd H rl (.lst [])) et (.tup [.str "cut"])=G1
  intro hrl1 het1 s1
  -- those pending
  refine eO (e9 ?_)
  refine ⟨_,rfl,le4,fun k0 hk0=>⟨pj,fun l0 hl0=>?_⟩⟩
  have q1:=aH hk0 (.tup [.int 0,.int 0,.int (-1),.int 0])
  have q2:=aH hl0 (.lst [.ref k0])
  have q12:=q1.trans q2
  refine tK (K:=K) (a:=ol) (xs:=os.map V.int) rfl (SqL.of (q12 _ _ (s1 _ _ hol))) (fun i ys G=>∃ ks:List aa,ys=ks.map V.ref/\bF (upd (upd G1 k0 (.tup [.int 0,.int 0,.int (-1),.int 0])) l0 (.lst [.ref k0])) G/\fu G ks (((noE os).map Ev.key).take i)) ⟨[],rfl,bF.refl _,.nil⟩ ?_ ?_ ?_
  · rintro i ys G hi ⟨ks,rfl,sG,tG⟩
    have:=tG.length
    rw [cN] at this
    rw [av] at hi |-
    exact ⟨SqL.of (sG _ _ (q12 _ _ (s1 _ _ hol))),by omega⟩
  · rintro i x t ys G hi ⟨ks,rfl,sG,tG⟩ ht
    rw [bf] at hi
    obtain ⟨o,ho,rfl⟩:∃ o,os[i]?=some o/\x=.int o:=by
      cases z:os[i]? with
      | none =>
        rw [z] at hi
        cases hi
      | some o =>
        rw [z] at hi
        cases hi
        exact ⟨o,rfl,rfl⟩
    have st_:=aH ht (.tup [.int i,.int o])
    refine ⟨t,_,rfl,SqT.of ah,rfl,_,_,rfl,_,_,rfl,rfl,?_⟩
    refine ⟨rfl,?_⟩
    unfold um
    refine gJ ?_
    refine ⟨_,rfl,_,rfl,_,rfl,_,_,rfl,rfl,le4,fun kt hkt=>?_⟩
    have sk:=aH hkt (.tup [.int o,.int 2,.int (-1),.int (1 + (i:Int))])
    refine ⟨ks++[kt],by rw [ba]; rfl,sG.trans (st_.trans sk),?_⟩
    have e1:((noE os).map Ev.key)[i]?=some [o,2,-1,1 + (i:Int)]:=by
      unfold noE
      rw [bf,jE,ho]
      show some [o,2,-1,(i:Int) + 1]=_
      rw [Int.add_comm]
    rw [eT,e1]
    exact oV (tG.keep fun b xs e=>sk _ _ (st_ _ _ e)) ah
  rintro ys G2 ⟨ks,rfl,sG,tG⟩ l1 hl1
  have q3:=aH hl1 (.lst (ks.map V.ref))
  have lks:((noE os).map Ev.key).take (os.map V.int).length=(noE os).map Ev.key:=by
    rw [av]
    refine yK ?_
    rw [av]
    unfold noE
    rw [kY]
    exact aE _
  rw [lks] at tG
  have lk:=tG.length
  rw [av] at lk
  have ln:(noE os).length=os.length:=by
    unfold noE
    rw [kY]
  refine ⟨l0,l1,_,_,rfl,rfl,q3 _ _ (sG _ _ ah),ah,by rw [av]; show 1 + ks.length<=az; omega,fun pl hpl=>?_⟩
  have q4:=aH hpl (.lst ([.ref k0]++ks.map V.ref))
  have s2:=s1.trans ((q12.trans sG).trans (q3.trans q4))
  have hrl2:=((q12.trans sG).trans (q3.trans q4)) _ _ hrl1
  have het2:=((q12.trans sG).trans (q3.trans q4)) _ _ het1
  have hk2:=((q2.trans sG).trans (q3.trans q4)) _ _ (ah:upd G1 k0 (.tup [.int 0,.int 0,.int (-1),.int 0]) k0=_)
  have tk2:fu (upd (upd G2 l1 (.lst (ks.map V.ref))) pl (.lst ([.ref k0]++ks.map V.ref))) (k0 :: ks) ([0,0,-1,0] :: (noE os).map Ev.key):=.cons hk2 (tG.keep fun b xs e=>q4 _ _ (q3 _ _ e))
  have hpl2:upd (upd G2 l1 (.lst (ks.map V.ref))) pl (.lst ([.ref k0]++ks.map V.ref)) pl=some (.lst ((k0 :: ks).map V.ref)):=ah
  have nrp:rl≠pl:=aN ((q12.trans sG).trans q3 _ _ hrl1) hpl
  have Hpl:H pl=none:=none_of s1 (none_of ((q12.trans sG).trans q3) hpl)
  revert s2 hrl2 het2 tk2 hpl2
  clear q4 q3 q12 q2 q1 hk2
  generalize upd (upd G2 l1 (.lst (ks.map V.ref))) pl (.lst ([.ref k0]++ks.map V.ref))=G3
  intro s2 hrl2 het2 tk2 hpl2
  refine cT ?_
  dsimp only
  refine eO (e9 ?_)
  refine cT ?_
  dsimp only
  -- the loop
  refine eO ?_
  refine sC (fun σ G=>∃ (j t:Nat) (en:V) (u9:Option V),σ=[some (.int la),some (.str (stW way)),some (.int sp),some (.ref ol),some (.int most),some (.ref rl),some en,some (.ref pl),some (.int t),u9]/\DuAt la sp way os most H G rl pl en j t) yB ?_ ?_ ?_
  · refine ⟨0,0,.ref et,_,rfl,s2,fun i hi=>absurd hi (iJ _),⟨_,_,Ff hla.1 hos lo⟩,⟨[],hrl2,.nil⟩,⟨k0 :: ks,_,hpl2,tk2,?_⟩,.inl ⟨rfl,et,rfl,het2⟩⟩
    show List.Perm _ ((pk (qx (oG os)) []).map Ev.key)
    refine List.Perm.symm (((gr _ _).map _).trans ?_)
    rw [cW,Fe sp,cC]
    exact dO _
  · rintro σ G ⟨j,t,en,u9,rfl,d⟩
    obtain ⟨rok,_⟩:=Fg (most:=most) hsp.1 hsp.2 hla.1 hla.2 hw hos lo j d.hj
    obtain ⟨tk,ns,At⟩:=d.at_
    obtain ⟨as,hr1,tr⟩:=d.hr
    obtain ⟨bs,ps,hp1,tp,pm⟩:=d.hp
    have lr:=tr.length
    rw [av] at lr
    have lp:=tp.length.trans pm.length_eq
    rw [av] at lp
    obtain ⟨et,cu,rfl,hET,hcu⟩:∃ et cu,en=.ref et/\EnT G et cu/\((cu=true/\(gR la sp way os j).1.sp=none)\/(cu=false/\∃ s,(gR la sp way os j).1.sp=some s/\rD G en s)):=by
      rcases d.en with ⟨z,x,rfl,hx⟩ | ⟨s',z,hS⟩
      · exact ⟨x,true,rfl,.inl ⟨rfl,hx⟩,.inl ⟨rfl,z⟩⟩
      · cases s' with
        | fin h =>
          obtain ⟨x,kk,rfl,y1,y2⟩:=id hS
          exact ⟨x,false,rfl,.inr ⟨rfl,_,_,_,y1⟩,.inr ⟨rfl,_,z,hS⟩⟩
        | flt e h =>
          obtain ⟨x,kk,rfl,y1,y2⟩:=id hS
          exact ⟨x,false,rfl,.inr ⟨rfl,_,_,_,y1⟩,.inr ⟨rfl,_,z,hS⟩⟩
    refine ⟨rl,pl,et,as.map V.ref,bs.map V.ref,most,cu,rfl,rfl,rfl,rfl,hr1,hp1,hET,fun G0 s0=>jj (fun c=>?_) (fun c=>?_)⟩
    · -- on
      rw [fY,fY,av,av] at c
      obtain ⟨c1,c2,c3⟩:=c
      have c1:=of_decide_eq_true c1
      have c3:=of_decide_eq_true c3
      subst c2
      have sp0:(gR la sp way os j).1.sp=none:=by
        rcases hcu with ⟨_,z⟩ | ⟨z,_⟩
        · exact z
        · cases z
      have cut0:G0 et=some (.tup [.str "cut"]):=by
        rcases hET with ⟨_,z⟩ | ⟨z,_⟩
        · exact s0 _ _ z
        · cases z
      have ne:(gR la sp way os j).1.pd≠[]:=fun z=>by
        rw [z] at lp
        have lp:bs.length=0:=lp
        omega
      have due:kD (gR la sp way os j).1 (most - (gR la sp way os j).2.length)=none:=E5 sp0 ne (by omega)
      have hj':∀ i,i < j + 1->kD (gR la sp way os i).1 (most - (gR la sp way os i).2.length)=none:=fun i hi=>by
        rcases nZ i j with z | z
        · exact d.hj i z
        · have:i=j:=by omega
          rw [this]
          exact due
      obtain ⟨h,hpd,T,_⟩:=Fd (way:=way) hsp.1 hsp.2 hla.1 hla.2 hw rok At sp0 ne
      have itS:gR la sp way os (j + 1)=((ff (M27 la sp way) (gR la sp way os j).1).1,(gR la sp way os j).2++(ff (M27 la sp way) (gR la sp way os j).1).2):=rfl
      have mu1:yB [some (.int la),some (.str (stW way)),some (.int sp),some (.ref ol),some (.int most),some (.ref rl),some (.ref et),some (.ref pl),some (.int t),u9] G=1 + (2000 - as.length):=by
        rcases hET with ⟨_,z⟩ | ⟨z,_⟩
        · rw [qz rfl rfl z hr1,av]
        · cases z
      have hr1:=s0 _ _ hr1
      have hp1:=s0 _ _ hp1
      have tr:=tr.keep fun b xs e=>s0 _ _ e
      have tp:=tp.keep fun b xs e=>s0 _ _ e
      have sH:=d.sm.trans s0
      have fall:=rok.fall
      rw [hpd] at fall pm
      have pne:ps≠[]:=fun z=>by
        rw [z] at pm
        have:=pm.length_eq
        simp at this
      refine eO (e9 ?_)
      refine ⟨_,rfl,pl,bs,ps,rfl,hp1,tp,pne,fun a n ha hn hat hmin=>?_⟩
      have en:=HP fall pm hn hmin
      subst en
      obtain ⟨i,n',hi,hni,hat'⟩:=HN tp ha
      have en':n'=h.key:=map_int_inj (HO.tup.inj (b5 (hat'.symm.trans hat)))
      rw [en'] at hni
      refine cT ?_
      dsimp only
      -- it is taken out
      refine eO ?_
      have pnd:ps.Nodup:=(pm.nodup_iff).mpr (by
        have z:=A0 fall
        exact EW.mpr z)
      have bl:i < (bs.map V.ref).length:=by
        rw [av]
        exact (aw.mp hi).1
      refine ⟨_,rfl,.inl ⟨rfl,_,SqL.of hp1⟩,_,rfl,pl,_,.ref a,i,1,rfl,rfl,hp1,bl,by decide,fun m z hm hz=>?_,?_⟩
      · rw [bf] at hz
        cases eb:bs[m]? with
        | none =>
          rw [eb] at hz
          cases hz
        | some b =>
          rw [eb] at hz
          cases hz
          obtain ⟨nm,hnm,hb⟩:=tp.get eb
          have l4:nm.length=h.key.length:=by
            obtain ⟨e,_,ee⟩:=bH.mp (pm.mem_iff.mp (aM hnm))
            rw [<- ee]
            rfl
          have q:=Fn hb hat l4
          have ed:decide (nm=h.key)=decide (m=i):=by
            by_cases c:m=i
            · rw [c,hni] at hnm
              cases hnm
              rw [decide_eq_true rfl,decide_eq_true c]
            · rw [decide_eq_false c]
              refine decide_eq_false fun y=>c ?_
              rw [y] at hnm
              exact IK pnd hnm hni
          rw [ed] at q
          exact q
      have em:(bs.map V.ref).eraseIdx i=(bs.eraseIdx i).map V.ref:=erase_map _ _ _
      rw [em]
      rw [ba] at pm
      have pm2:=Fo pm hni
      have tu:∀ b xs,G0 b=some (.tup xs)->upd G0 pl (.lst ((bs.eraseIdx i).map V.ref)) b=some (.tup xs):=fun b xs e=>bL e (fc e hp1 (by intro z; cases z))
      have hr2:upd G0 pl (.lst ((bs.eraseIdx i).map V.ref)) rl=some (.lst (as.map V.ref)):=bL hr1 nrp
      have hp2:upd G0 pl (.lst ((bs.eraseIdx i).map V.ref)) pl=some (.lst ((bs.eraseIdx i).map V.ref)):=ah
      have tr2:=tr.keep tu
      have tp2:=(tW i tp).keep tu
      have hat2:=tu _ _ hat
      have cut2:=tu _ _ cut0
      have sH2:bF H (upd G0 pl (.lst ((bs.eraseIdx i).map V.ref))):=ka sH Hpl
      revert hr2 hp2 tr2 tp2 hat2 cut2 sH2
      clear tu
      generalize upd G0 pl (.lst ((bs.eraseIdx i).map V.ref))=G4
      intro hr2 hp2 tr2 tp2 hat2 cut2 sH2
      have hat2:G4 a=some (.tup [.int h.t,.int h.r,.int h.fr,.int h.c]):=hat2
      dsimp only
      -- a record more
      have addR:∀ {G:Hp},G rl=some (.lst (as.map V.ref))->fu G as ((gR la sp way os j).2.map fun q=>q.h.key)->G a=some (.tup [.int h.t,.int h.r,.int h.fr,.int h.c])->∀ q:Rec,q.h=h->fu (upd G rl (.lst (as.map V.ref++[.ref a]))) (as++[a]) (((gR la sp way os j).2++[q]).map fun q=>q.h.key)/\upd G rl (.lst (as.map V.ref++[.ref a])) rl=some (.lst ((as++[a]).map V.ref)):=fun {G} g1 g2 g3 q hq=>by
        have tu:∀ b xs,G b=some (.tup xs)->upd G rl (.lst (as.map V.ref++[.ref a])) b=some (.tup xs):=fun b xs e=>bL e (fc e g1 (by intro z; cases z))
        refine ⟨?_,by rw [ba]; exact ah⟩
        rw [ba]
        refine oV (g2.keep tu) ?_
        show upd G rl _ a=some (.tup (q.h.key.map V.int))
        rw [hq]
        exact tu _ _ g3
      refine wW (c:=decide (h.fr=-1) && decide (0 < h.c)) (Det.and (fun Q q=>⟨_,rfl,a,_,_,_,rfl,rfl,SqT.of hat2,rfl,_,rfl,rfl,_,rfl,by rw [dec_int]; exact q⟩) (fun _ Q q=>⟨_,rfl,a,_,_,_,rfl,rfl,SqT.of hat2,rfl,_,_,rfl,rfl,_,rfl,q⟩)) (fun ct=>?_) (fun ct=>?_)
      · rw [fY,decide_eq_true_eq,decide_eq_true_eq] at ct
        rcases hS:ff (M27 la sp way) (gR la sp way os j).1 with ⟨r',rs'⟩
        rw [hS] at T itS
        cases T with
        | noise q tk' ns' _ _ hq A' =>
          obtain ⟨g1,g2⟩:=addR hr2 tr2 hat2 q hq
          refine ⟨_,rfl,.inl ⟨rfl,_,SqL.of hr2⟩,_,rfl,rl,_,_,rfl,rfl,hr2,by rw [av]; omega,?_⟩
          have tu:∀ b o,G4 b=some o->b≠rl->upd G4 rl (.lst (as.map V.ref++[.ref a])) b=some o:=fun b o e n=>bL e n
          have cut3:=tu _ _ cut2 (fc cut2 hr2 (by intro z; cases z))
          refine ⟨⟨j + 1,t,_,_,rfl,ka sH2 hrl,hj',⟨tk',ns',by rw [itS]; exact A'⟩,⟨as++[a],g2,by rw [itS]; exact g1⟩,⟨_,_,tu _ _ hp2 nrp.symm,tp2.keep fun b xs e=>tu _ _ e (fc e hr2 (by intro z; cases z)),by rw [itS]; exact pm2⟩,.inl ⟨by rw [itS],et,rfl,cut3⟩⟩,?_⟩
          rw [mu1,qz rfl rfl cut3 g2,av,aB]
          simp only [aL,cy]
          omega
        | fault tk' ns' nn _ _ _=>exact absurd ct nn
        | on q tk' ns' nn _ _ _ _=>exact absurd ct nn
        | last q tk' ns' nn _ _ _ _=>exact absurd ct nn
      · have nct:¬ (h.fr=-1/\0 < h.c):=fun z=>by
          rw [decide_eq_true z.1,decide_eq_true z.2] at ct
          cases ct
        refine wW (c:=decide ((t:Int) + 1=la) && decide (way=1)) (Det.and (fun Q q=>⟨_,rfl,_,_,rfl,rfl,_,rfl,rfl,_,rfl,by rw [dec_int]; exact q⟩) (fun _ Q q=>⟨_,rfl,rfl,_,rfl,by rw [dec_str,Fl hw]; exact q⟩)) (fun cf=>?_) (fun cf=>?_)
        · rw [fY,decide_eq_true_eq,decide_eq_true_eq] at cf
          rcases hS:ff (M27 la sp way) (gR la sp way os j).1 with ⟨r',rs'⟩
          rw [hS] at T itS
          cases T with
          | noise q tk' ns' z1 z2 _ _=>exact absurd ⟨z1,z2⟩ nct
          | on q tk' ns' _ z _ _ _=>omega
          | last q tk' ns' _ _ z _ _=>exact absurd cf.2 z
          | fault tk' ns' _ _ _ A' =>
            refine e9 ?_
            refine ⟨_,rfl,by show 3<=az; decide,fun ft hft=>?_⟩
            have sf:=aH hft (.tup [.str "fault",.str "nought",.ref a])
            refine cT ?_
            refine ⟨⟨j + 1,t,_,_,rfl,sH2.trans sf,hj',⟨tk',ns',by rw [itS]; exact A'⟩,⟨as,sf _ _ hr2,by rw [itS,cW]; exact tr2.keep fun b xs e=>sf _ _ e⟩,⟨_,_,sf _ _ hp2,tp2.keep fun b xs e=>sf _ _ e,by rw [itS]; exact pm2⟩,.inr ⟨.flt .nought h,by rw [itS],ft,a,rfl,ah,sf _ _ hat2⟩⟩,?_⟩
            rw [mu1]
            show yB [some (.int la),some (.str (stW way)),some (.int sp),some (.ref ol),some (.int most),some (.ref rl),some (.ref ft),some (.ref pl),some (.int t),some (.ref a)] _ < _
            rw [yC rfl rfl (ah)]
            omega
        · -- a tick
          refine eO (e9 ?_)
          refine ⟨_,rfl,_,_,rfl,rfl,?_⟩
          refine cT ?_
          dsimp only
          refine eO ?_
          refine ⟨_,rfl,.inl ⟨rfl,_,SqL.of hr2⟩,_,rfl,rl,_,_,rfl,rfl,hr2,by rw [av]; omega,?_⟩
          have tu:∀ b o,G4 b=some o->b≠rl->upd G4 rl (.lst (as.map V.ref++[.ref a])) b=some o:=fun b o e n=>bL e n
          have tt:∀ b xs,G4 b=some (.tup xs)->upd G4 rl (.lst (as.map V.ref++[.ref a])) b=some (.tup xs):=fun b xs e=>tu _ _ e (fc e hr2 (by intro z; cases z))
          have cut3:=tt _ _ cut2
          have hat3:=tt _ _ hat2
          have hp3:=tu _ _ hp2 nrp.symm
          have tp3:=tp2.keep tt
          have sH3:=ka (o:=.lst (as.map V.ref++[.ref a])) sH2 hrl
          have addR2:=addR hr2 tr2 hat2
          revert cut3 hat3 hp3 tp3 sH3 addR2
          clear tu tt
          generalize upd G4 rl (.lst (as.map V.ref++[.ref a]))=G5
          intro cut3 hat3 hp3 tp3 sH3 addR2
          have tI:((t + 1:Nat):Int)=(t:Int) + 1:=by omega
          dsimp only
          refine wW (c:=decide ((t:Int) + 1 < la)) (fun Q q=>⟨_,rfl,_,rfl,_,_,rfl,rfl,_,rfl,q⟩) (fun cl=>?_) (fun cl=>?_)
          · have cl:=of_decide_eq_true cl
            rcases hS:ff (M27 la sp way) (gR la sp way os j).1 with ⟨r',rs'⟩
            rw [hS] at T itS
            cases T with
            | noise q tk' ns' z1 z2 _ _=>exact absurd ⟨z1,z2⟩ nct
            | fault tk' ns' _ z _ _=>omega
            | last q tk' ns' _ z _ _ _=>omega
            | on q tk' ns' _ _ ti hq A' =>
              obtain ⟨g1,g2⟩:=addR2 q hq
              refine ⟨_,rfl,.inl ⟨rfl,_,SqL.of hp3⟩,_,rfl,a,_,_,_,rfl,rfl,SqT.of hat3,rfl,_,rfl,_,_,rfl,rfl,_,rfl,_,_,rfl,rfl,le4,fun nt hnt=>?_⟩
              have sn:=aH hnt (.tup [.int (h.t + sp),.int 1,.int 0,.int ((t:Int) + 1 - 1)])
              refine ⟨pl,_,_,rfl,rfl,sn _ _ hp3,by rw [av]; have:=List.length_eraseIdx_le bs i; have:=At.small hsp.1 hsp.2 hla.2; have:=this.1; omega,?_⟩
              have hnt1:upd G5 nt (.tup [.int (h.t + sp),.int 1,.int 0,.int ((t:Int) + 1 - 1)]) nt=_:=ah
              have hp4:=sn _ _ hp3
              have tu:∀ b o,(upd G5 nt (.tup [.int (h.t + sp),.int 1,.int 0,.int ((t:Int) + 1 - 1)])) b=some o->b≠pl->upd (upd G5 nt (.tup [.int (h.t + sp),.int 1,.int 0,.int ((t:Int) + 1 - 1)])) pl (.lst ((bs.eraseIdx i).map V.ref++[.ref nt])) b=some o:=fun b o e n=>bL e n
              have tt:∀ b xs,(upd G5 nt (.tup [.int (h.t + sp),.int 1,.int 0,.int ((t:Int) + 1 - 1)])) b=some (.tup xs)->upd (upd G5 nt (.tup [.int (h.t + sp),.int 1,.int 0,.int ((t:Int) + 1 - 1)])) pl (.lst ((bs.eraseIdx i).map V.ref++[.ref nt])) b=some (.tup xs):=fun b xs e=>tu _ _ e (fc e hp4 (by intro z; cases z))
              have ek:(gF sp (t + 1)).key=[h.t + sp,1,0,(t:Int) + 1 - 1]:=by
                unfold gF
                rw [if_neg (by omega)]
                show [sp * ((t + 1:Nat):Int),1,0,((t + 1:Nat):Int) - 1]=_
                rw [tI,Int.mul_add,Bd,ti]
              refine ⟨⟨j + 1,t + 1,_,_,by rw [tI]; rfl,ka (sH3.trans sn) Hpl,hj',⟨tk',ns',by rw [itS]; exact A'⟩,⟨as++[a],tu _ _ (sn _ _ g2) nrp,by rw [itS]; exact g1.keep fun b xs e=>tt _ _ (sn _ _ e)⟩,⟨bs.eraseIdx i++[nt],ps.eraseIdx i++[(gF sp (t + 1)).key],by rw [ba]; exact ah,oV (tp3.keep fun b xs e=>tt _ _ (sn _ _ e)) (by rw [ek]; exact tt _ _ hnt1),?_⟩,.inl ⟨by rw [itS],et,rfl,tt _ _ (sn _ _ cut3)⟩⟩,?_⟩
              · rw [itS]
                show (ps.eraseIdx i++[(gF sp (t + 1)).key]).Perm ((pk [gF sp (t + 1)] (gR la sp way os j).1.pd.dropLast).map Ev.key)
                refine (pm2.append (dO _)).trans (jv.trans ?_)
                exact ((gr [gF sp (t + 1)] _).map Ev.key).symm
              · rw [mu1,qz rfl rfl (tt _ _ (sn _ _ cut3)) (tu _ _ (sn _ _ g2) nrp),av,aB]
                simp only [aL,cy]
                omega
          · have cl:¬ (t:Int) + 1 < la:=fun z=>by
              rw [decide_eq_true z] at cl
              cases cl
            refine wW (c:=decide (way=0)) (fun Q q=>⟨_,rfl,rfl,_,rfl,by rw [dec_str,Kr hw]; exact q⟩) (fun ce=>?_) (fun ce=>?_)
            · have ce:=of_decide_eq_true ce
              rcases hS:ff (M27 la sp way) (gR la sp way os j).1 with ⟨r',rs'⟩
              rw [hS] at T itS
              cases T with
              | noise q tk' ns' z1 z2 _ _=>exact absurd ⟨z1,z2⟩ nct
              | fault tk' ns' _ _ z _=>omega
              | on q tk' ns' _ z _ _ _=>omega
              | last q tk' ns' _ _ _ hq A' =>
                obtain ⟨g1,g2⟩:=addR2 q hq
                refine e9 ?_
                refine ⟨_,rfl,lt2,fun ft hft=>?_⟩
                have sf:=aH hft (.tup [.str "end",.ref a])
                refine cT ?_
                refine ⟨⟨j + 1,t + 1,_,_,by rw [tI]; rfl,sH3.trans sf,hj',⟨tk',ns',by rw [itS]; exact A'⟩,⟨_,sf _ _ g2,by rw [itS]; exact g1.keep fun b xs e=>sf _ _ e⟩,⟨_,_,sf _ _ hp3,tp3.keep fun b xs e=>sf _ _ e,by rw [itS]; exact pm2⟩,.inr ⟨.fin h,by rw [itS]; show (if way=0 then some (Stp.fin h) else none)=_; rw [if_pos ce],ft,a,rfl,ah,sf _ _ hat3⟩⟩,?_⟩
                rw [mu1]
                show yB [some (.int la),some (.str (stW way)),some (.int sp),some (.ref ol),some (.int most),some (.ref rl),some (.ref ft),some (.ref pl),some (.int ((t:Int) + 1)),some (.ref a)] _ < _
                rw [yC rfl rfl (ah)]
                omega
            · have ce:way≠0:=fun z=>by
                rw [decide_eq_true z] at ce
                cases ce
              rcases hS:ff (M27 la sp way) (gR la sp way os j).1 with ⟨r',rs'⟩
              rw [hS] at T itS
              cases T with
              | noise q tk' ns' z1 z2 _ _=>exact absurd ⟨z1,z2⟩ nct
              | fault tk' ns' _ z1 z2 _ =>
                rw [decide_eq_true (show (t:Int) + 1=la by omega),decide_eq_true z2] at cf
                cases cf
              | on q tk' ns' _ z _ _ _=>omega
              | last q tk' ns' _ _ _ hq A' =>
                obtain ⟨g1,g2⟩:=addR2 q hq
                refine wV ?_
                refine ⟨⟨j + 1,t + 1,_,_,by rw [tI]; rfl,sH3,hj',⟨tk',ns',by rw [itS]; exact A'⟩,⟨_,g2,by rw [itS]; exact g1⟩,⟨_,_,hp3,tp3,by rw [itS]; exact pm2⟩,.inl ⟨by rw [itS]; show (if way=0 then some (Stp.fin h) else none)=_; rw [if_neg ce],et,rfl,cut3⟩⟩,?_⟩
                rw [mu1,qz rfl rfl cut3 g2,av,aB]
                simp only [aL,cy]
                omega
    · -- over
      dsimp only
      have s4:=d.sm.trans s0
      have hr4:=s0 _ _ hr1
      have hp4:=s0 _ _ hp1
      have tr4:=tr.keep fun b xs e=>s0 _ _ e
      refine eO ?_
      refine HL (c:=cu && decide ((bs.length:Int)=0)) (wZ.and (Fk rfl (hET.same s0)) (fun _ G' s' Q q=>⟨_,rfl,pl,_,rfl,.inl (SqL.of (s' _ _ hp4)),rfl,_,rfl,by rw [dec_int,av]; exact q G' (bF.refl _)⟩)) (fun ce G5 s5=>?_) (fun ce G5 s5=>?_)
      · rw [fY,decide_eq_true_eq] at ce
        obtain ⟨rfl,ce⟩:=ce
        have sp0:(gR la sp way os j).1.sp=none:=by
          rcases hcu with ⟨_,z⟩ | ⟨z,_⟩
          · exact z
          · cases z
        have pd0:(gR la sp way os j).1.pd=[]:=jF (by omega)
        refine e9 ?_
        refine ⟨pj,fun ft hft=>?_⟩
        have sf:=aH hft (.tup [.str "empty"])
        refine cT ?_
        dsimp only
        refine tJ ?_
        refine ⟨_,rfl,_,rfl,_,rfl,by show 3<=az; decide,fun tt htt=>?_⟩
        have sx:=aH htt (.tup [.ref rl,.ref ft,.int t])
        have s6:=s5.trans (sf.trans sx)
        exact k _ tt j .empty (s4.trans s6) ⟨fun i hi=>⟨(Fg (most:=most) hsp.1 hsp.2 hla.1 hla.2 hw hos lo i fun i' hi'=>d.hj i' (by omega)).1,d.hj i hi⟩,vC sp0 pd0,rok⟩ ⟨rl,.ref ft,t,as,ah,s6 _ _ hr4,tr4.keep fun b xs e=>s6 _ _ e,⟨ft,rfl,sx _ _ ah⟩,At.sts⟩
      · refine wV ?_
        dsimp only
        refine tJ ?_
        refine ⟨_,rfl,_,rfl,_,rfl,by show 3<=az; decide,fun tt htt=>?_⟩
        have sx:=aH htt (.tup [.ref rl,.ref et,.int t])
        have s6:=s5.trans sx
        obtain ⟨e,due,hE⟩:∃ e,kD (gR la sp way os j).1 (most - (gR la sp way os j).2.length)=some e/\pN G (.ref et) e:=by
          rcases hcu with ⟨rfl,z⟩ | ⟨rfl,s',z,hS⟩
          · have nb:¬ (bs.length:Int)=0:=fun y=>by
              rw [decide_eq_true y] at ce
              cases ce
            have ne:(gR la sp way os j).1.pd≠[]:=fun y=>by
              rw [y] at lp
              exact nb (by have lp:bs.length=0:=lp; omega)
            refine ⟨.cut,A1 z ne ?_,?_⟩
            · rcases Int.lt_or_le 0 (most - ((gR la sp way os j).2.length:Int)) with y | y
              · exfalso
                apply c
                rw [av,av,decide_eq_true (show (as.length:Int) < most by omega),decide_eq_true (show (0:Int) < bs.length by omega)]
                rfl
              · exact y
            · rcases hET with ⟨_,y⟩ | ⟨y,_⟩
              · exact ⟨et,rfl,y⟩
              · cases y
          · exact ⟨.stp s',EJ z,hS⟩
        exact k _ tt j e (s4.trans s6) ⟨fun i hi=>⟨(Fg (most:=most) hsp.1 hsp.2 hla.1 hla.2 hw hos lo i fun i' hi'=>d.hj i' (by omega)).1,d.hj i hi⟩,due,rok⟩ ⟨rl,.ref et,t,as,ah,s6 _ _ hr4,tr4.keep fun b xs e=>s6 _ _ e,(hE.same s0).same s6,At.sts⟩
  · rintro σ G Q1 Q2 hq ⟨rl,pl,t,rvs,pvs,most,cu,h1,h2,h3,h4,h5,h6,h7,h8⟩
    exact ⟨rl,pl,t,rvs,pvs,most,cu,h1,h2,h3,h4,h5,h6,h7,fun G s=>hq _ _ (h8 G s)⟩
end
end My
namespace My
open PySem L2
theorem pN.tups {F F':Hp} (s:∀ a xs,F a=some (.tup xs)->F' a=some (.tup xs)) {v:V}:∀ {q:End},pN F v q->pN F' v q
  | .empty,⟨t,e,h⟩=>⟨t,e,s _ _ h⟩
  | .cut,⟨t,e,h⟩=>⟨t,e,s _ _ h⟩
  | .stp (.fin _),⟨t,k,e,h1,h2⟩=>⟨t,k,e,s _ _ h1,s _ _ h2⟩
  | .stp (.flt _ _),⟨t,k,e,h1,h2⟩=>⟨t,k,e,s _ _ h1,s _ _ h2⟩
theorem rG.keep {la:Nat} {G F:Hp} (k:fg G F) {t:aa} {q:RS×List Rec} {e:End} (h:rG la G t q e):rG la F t q e:=by
  obtain ⟨rl,en,tc,as,h1,h2,h3,h4,h5⟩:=h
  refine ⟨rl,en,tc,as,k.tup h1,?_,h3.keep fun b xs e=>k.tup e,h4.tups fun b xs e=>k.tup e,h5⟩
  cases as with
  | nil=>exact k.nil h2
  | cons a as=>exact k.refs h2
theorem yD {G:Hp}:∀ {as bs:List aa} {ns:List (List Int)},fu G as ns->fu G bs ns->aW (TEq G 1) (as.map V.ref) (bs.map V.ref)
  | _,_,_,.nil,.nil=>.nil
  | _,_,_,.cons a t,.cons b u=>.cons (J2 a b) (yD t u)
theorem A3 {G:Hp} {k k':aa} {h:Ev} (a:G k=some (zD h)) (b:G k'=some (zD h)):TEq G 2 (.ref k) (.ref k'):=.inr (.inr ⟨k,k',_,_,rfl,rfl,a,b,.cons (.inl ⟨trivial,rfl⟩) (.cons (.inl ⟨trivial,rfl⟩) (.cons (.inl ⟨trivial,rfl⟩) (.cons (.inl ⟨trivial,rfl⟩) .nil)))⟩)
theorem HQ {G:Hp}:∀ {e:End} {v v':V},pN G v e->pN G v' e->TEq G 3 v v'
  | .empty,_,_,⟨t,rfl,h⟩,⟨t',rfl,h'⟩=>.inr (.inr ⟨t,t',_,_,rfl,rfl,h,h',.cons (.inl ⟨trivial,rfl⟩) .nil⟩)
  | .cut,_,_,⟨t,rfl,h⟩,⟨t',rfl,h'⟩=>.inr (.inr ⟨t,t',_,_,rfl,rfl,h,h',.cons (.inl ⟨trivial,rfl⟩) .nil⟩)
  | .stp (.fin _),_,_,⟨t,k,rfl,h,hk⟩,⟨t',k',rfl,h',hk'⟩=>.inr (.inr ⟨t,t',_,_,rfl,rfl,h,h',.cons (.inl ⟨trivial,rfl⟩) (.cons (A3 hk hk') .nil)⟩)
  | .stp (.flt _ _),_,_,⟨t,k,rfl,h,hk⟩,⟨t',k',rfl,h',hk'⟩=>.inr (.inr ⟨t,t',_,_,rfl,rfl,h,h',.cons (.inl ⟨trivial,rfl⟩) (.cons (.inl ⟨trivial,rfl⟩) (.cons (A3 hk hk') .nil))⟩)
structure qA (F:Hp) (t2:aa):Prop where
  ex:∃ b1 b2 b3 b4,F t2=some (.tup [.str "two",.ref b1,.ref b2,.ref b3,.ref b4])/\F b1=some (.lst [])/\F b2=some (.lst [])/\F b3=some (.lst [])/\F b4=some (.lst [])
theorem qA.keep {G F:Hp} (k:fg G F) {t2:aa} (h:qA G t2):qA F t2:=by
  obtain ⟨b1,b2,b3,b4,h1,h2,h3,h4,h5⟩:=h.ex
  exact ⟨b1,b2,b3,b4,k.tup h1,k.nil h2,k.nil h3,k.nil h4,k.nil h5⟩
theorem qA.tree {F:Hp} {t2:aa} (h:qA F t2):Tree F 23 (.ref t2):=by
  obtain ⟨b1,b2,b3,b4,h1,h2,h3,h4,h5⟩:=h.ex
  refine Tree.atup h1 (by show 5 < 1000; decide) fun y hy=>?_
  simp only [ak,aX,or_false] at hy
  rcases hy with rfl | rfl | rfl | rfl | rfl
  · exact Tree.scal (by exact trivial) _
  · exact Tree.alst h2 (by show 0 < 1000; decide) fun z hz=>by cases hz
  · exact Tree.alst h3 (by show 0 < 1000; decide) fun z hz=>by cases hz
  · exact Tree.alst h4 (by show 0 < 1000; decide) fun z hz=>by cases hz
  · exact Tree.alst h5 (by show 0 < 1000; decide) fun z hz=>by cases hz
theorem Ks {la sp:Int} {way:Nat}:(fv la sp way).toOk 2/\(fv la sp way).deep<=4/\(fv la sp way).size<=3 * ddz 4:=by
  have z:(4:Nat)<=3 * ddz 4:=by decide
  unfold fv mK
  refine ⟨?_,?_,?_⟩
  · split
    · simp only [Ds.toOk,Dd.toOk]
      exact ⟨trivial,⟨⟨trivial,trivial⟩,⟨⟨by decide,by decide⟩,trivial⟩⟩,trivial⟩
    · split
      · simp only [Ds.toOk,Dd.toOk]
        exact ⟨trivial,⟨⟨trivial,trivial⟩,⟨⟨by decide,by decide⟩,trivial⟩⟩,trivial⟩
      · simp only [Ds.toOk,Dd.toOk]
        exact ⟨trivial,⟨trivial,⟨⟨by decide,by decide⟩,trivial⟩⟩,trivial⟩
  · split
    · exact (show (1:Nat)<=4 by decide)
    · split <;> exact (show (1:Nat)<=4 by decide)
  · split
    · exact cv (show _<=4 from aE 4) z
    · split
      · exact cv (show _<=4 from aE 4) z
      · exact cv (show _<=4 from (by decide:3<=4)) z
theorem mo27 {H N:Hp} {la sp:Int} {way:Nat} {ml mt t2:aa} {v':V} (hml:H ml=some (.lst [.ref mt,.ref t2])) (ma:wY la sp way H mt) (tw:qA H t2) (al:Alike H N 24 (.ref ml) v'):∃ ml',v'=.ref ml'/\BP 2 N ml' (M27 la sp way):=by
  obtain ⟨ml',ys1,rfl,al1,p1⟩:=jN hml al
  obtain ⟨y1,yr,rfl,p2,p1⟩:=cD p1
  obtain ⟨y2,yr,rfl,p4,p1⟩:=cD p1
  obtain rfl:=iW p1
  have M2:=ma.ma.alike ma.tr p2
  obtain ⟨bl,ql,x0,x3,x4,bn,hmt,hbl,hbn,hql⟩:=ma.bo
  obtain ⟨t',ys2,rfl,al2,p3⟩:=oP hmt p2
  obtain ⟨z0,yr,rfl,a0,p3⟩:=cD p3
  obtain ⟨z1,yr,rfl,a1,p3⟩:=cD p3
  obtain ⟨z2,yr,rfl,a2,p3⟩:=cD p3
  obtain ⟨z3,yr,rfl,a3,p3⟩:=cD p3
  obtain ⟨z4,yr,rfl,a4,p3⟩:=cD p3
  obtain rfl:=iW p3
  obtain ⟨b',vb',rfl,c1,d1⟩:=jN hbl a1
  obtain ⟨q',vq,rfl,c2,d2⟩:=jN hql a2
  have bx0:mV H [("n",0)] [.ref bn]:=.cons ⟨bn,rfl,hbn⟩ .nil
  have bx:=bx0.alike d1
  obtain rfl:=iW d2
  obtain ⟨b1,b2,b3,b4,h1,h2,h3,h4,h5⟩:=tw.ex
  have mb:rg [] [] [] [] H (.ref t2):=⟨t2,b1,b2,b3,b4,.str "two",[],[],rfl,h1,h2,.nil,h3,h4,h5,.nil⟩
  have M3:=mb.alike tw.tree p4
  obtain ⟨t2',ys3,rfl,al3,p5⟩:=oP h1 p4
  obtain ⟨w0,yr,rfl,e0,p5⟩:=cD p5
  obtain ⟨w1,yr,rfl,e1,p5⟩:=cD p5
  obtain ⟨w2,yr,rfl,e2,p5⟩:=cD p5
  obtain ⟨w3,yr,rfl,e3,p5⟩:=cD p5
  obtain ⟨w4,yr,rfl,e4,p5⟩:=cD p5
  obtain rfl:=iW p5
  obtain ⟨b1',vb1,rfl,c3,d3⟩:=jN h2 e1
  obtain ⟨b2',vb2,rfl,c4,d4⟩:=jN h3 e2
  obtain rfl:=iW d3
  obtain rfl:=iW d4
  refine ⟨ml',rfl,_,al1,.cons ⟨M2,⟨t',b',q',z0,z3,z4,vb',rfl,al2,c1,bx,c2⟩,rfl,by simp,dj,by show 1<=9; decide,by show 0<=9; decide,by show 0<=100; decide,by show 1<=9; decide,fun q hq=>?_,fun q hq=>?_⟩
    (.cons ⟨M3,⟨t2',b1',b2',w0,w3,w4,[],rfl,al3,c3,.nil,c4⟩,rfl,dj,dj,by show 0<=9; decide,by show 0<=9; decide,by show 0<=100; decide,by show 0<=9; decide,(fun q hq=>by cases hq),(fun q hq=>by cases hq)⟩ .nil)⟩
  · have e:q=(("n":Str),(0:Int)):=au.mp hq
    rw [e]
    exact ⟨by decide,by decide⟩
  · have e:q=(("tick":Str),fv la sp way):=au.mp hq
    rw [e]
    exact Ks
structure Fz (la:Nat) (sp:Int) (way:Nat) (os:List Int) (most:Int) (F:Hp) (ml sgl du:aa) (i0:Nat) (e0:End):Prop where
  ma:∃ mt t2,F ml=some (.lst [.ref mt,.ref t2])/\wY la sp way F mt/\qA F t2
  sg:∃ svs,F sgl=some (.lst svs)/\aW (ye F) svs (oG os)
  du:rG la F du (gR la sp way os i0) e0
  st:rE (M27 la sp way) (hJ (M27 la sp way) (oG os)) most i0 e0
theorem wY.same {la sp:Int} {way:Nat} {F G:Hp} (s:bF F G) {mt:aa} (h:wY la sp way F mt):wY la sp way G mt:=by
  obtain ⟨bl,ql,x0,x3,x4,bn,h1,h2,h3,h4⟩:=h.bo
  exact ⟨h.ma.same s,h.tr.same s,bl,ql,x0,x3,x4,bn,s _ _ h1,s _ _ h2,s _ _ h3,s _ _ h4⟩
theorem rG.same {la:Nat} {G F:Hp} (s:bF G F) {t:aa} {q:RS×List Rec} {e:End} (h:rG la G t q e):rG la F t q e:=h.keep (fg.same s)
theorem Fz.same {la:Nat} {sp:Int} {way:Nat} {os:List Int} {most:Int} {F G:Hp} {ml sgl du:aa} {i0:Nat} {e0:End} (s:bF F G) (h:Fz la sp way os most F ml sgl du i0 e0):Fz la sp way os most G ml sgl du i0 e0:=by
  obtain ⟨mt,t2,h1,h2,h3⟩:=h.ma
  obtain ⟨svs,h4,h5⟩:=h.sg
  exact ⟨⟨mt,t2,s _ _ h1,h2.same s,h3.keep (fg.same s)⟩,⟨svs,s _ _ h4,Paired.mono (fun _ _ z=>z.same s) h5⟩,h.du.same s,h.st⟩
theorem Fz.tree {la:Nat} {sp:Int} {way:Nat} {os:List Int} {most:Int} {F:Hp} {ml sgl du:aa} {i0:Nat} {e0:End} (h:Fz la sp way os most F ml sgl du i0 e0):Tree F 24 (.ref ml):=by
  obtain ⟨mt,t2,h1,h2,h3⟩:=h.ma
  refine Tree.alst h1 (by show 2 < 1000; decide) fun y hy=>?_
  simp only [ak,aX,or_false] at hy
  rcases hy with rfl | rfl
  · exact h2.tr
  · exact h3.tree
theorem Fp {G:Hp} {p:aa} (h:jt G p):fg G (Hid [p] G):=fun a o e n=>by
  obtain ⟨x,y,hp⟩:=h
  rw [ip fun z=>by
    rw [au.mp z,hp] at e
    cases e
    rcases n with ⟨xs,n⟩ | ⟨xs,n,q⟩
    · cases n
    · cases n
      exact q x y rfl]
  exact e
theorem mo_at {CM:aa} {Ms:List MD} {G H2:Hp} {m dxm ml':aa} {own:List aa} (nm:G m=none) (ndx:G dxm=none) (nem:dxm≠m) (s2:bF (upd (upd G dxm (.own m)) m (.ins CM dxm [])) H2) (ho:∀ a∈own,G a≠none)
    (mo:BP (Ms.length:Int) (Nw (upd (upd G dxm (.own m)) m (.ins CM dxm [])) H2) ml' Ms):yi CM Ms (Hid own (upd H2 m (.ins CM dxm (cM "machines" (.ref ml') [])))) m:=by
  have no:∀ {a},G a=none->a∉own:=fun n z=>ho _ z n
  refine ⟨dxm,ml',_,by rw [ip (no nm)]; exact ah,rfl,mo.same fun a o e=>?_⟩
  have n:(upd (upd G dxm (.own m)) m (.ins CM dxm [])) a=none:=by
    unfold Nw at e
    by_cases c:(upd (upd G dxm (.own m)) m (.ins CM dxm [])) a=none
    · exact c
    · rw [if_neg c] at e
      cases e
  have nam:a≠m:=fun z=>by
    rw [z,ah] at n
    cases n
  have nad:a≠dxm:=fun z=>by
    rw [z,aG nem,ah] at n
    cases n
  have ga:G a=none:=by
    rw [aG nam,aG nad] at n
    exact n
  rw [ip (no ga),aG nam]
  exact Il _ _ e
end My
namespace My
open PySem L2
theorem B2 {n:Nat} {ti:TE} {g:TG} {tc:L2.TT} {te:TE} {σ:St} {H:Hp} {Q:VK} (P:Nat->Hp->Prop) (hi:∀ R:VK,(∀ (m:Nat) (H1:Hp),P m H1->R (.int m) H1)->ti σ H R) (hb:∀ m H1,P m H1->m < 1000) (Pv:Nat->Hp->Nat->List V->Hp->Prop) (h0:∀ m H1,P m H1->Pv m H1 0 [] H1) (hl:∀ m H1,P m H1->∀ i ys H,i<=m->Pv m H1 i ys H->ys.length < az)
    (hs:∀ m H1,P m H1->∀ i ys H,i < m->Pv m H1 i ys H->g (.int (0 + i)) (b7 n none++σ) H fun σ2 H2=>σ2.drop n=σ/\tc σ2 H2 fun b H3=>if b=true then te σ2 H3 fun y H4=>Pv m H1 (i + 1) (ys++[y]) H4 else Pv m H1 (i + 1) ys H3)
    (hd:∀ m H1,P m H1->∀ ys H,Pv m H1 m ys H->∀ p,H p=none->Q (.ref p) (upd H p (.lst ys))):qg n (zW (iV ti rK)) g tc te σ H Q:=
  hi _ fun m H1 p=>⟨(m:Int),rfl,by have:=hb m H1 p; omega,by have:=hb m H1 p; omega,by
    rw [l8]
    exact xT (Pv m H1) (h0 m H1 p) (hl m H1 p) (hs m H1 p) (hd m H1 p)⟩
theorem newp {p:aa} {G:Hp} {a:aa} (h:jt G p) (n:G a=none):a≠p:=by
  obtain ⟨x,y,e⟩:=h
  exact (aN e n).symm
theorem zS {K:af} {n:Nat} {ti:TE} {g:TG} {tc:L2.TT} {te:TE} {σ:St} {H:Hp} {Q:VK} {a:aa} {xs:List V} (hi:∀ R:VK,R (.ref a) H->ti σ H R) (hx:SqL K H a xs) (Pv:Nat->List V->Hp->Prop) (h0:Pv 0 [] H) (hl:∀ i ys H,i<=xs.length->Pv i ys H->SqL K H a xs/\ys.length < az)
    (hs:∀ i x ys H,xs[i]?=some x->Pv i ys H->g x (b7 n none++σ) H fun σ2 H2=>σ2.drop n=σ/\tc σ2 H2 fun b H3=>if b=true then te σ2 H3 fun y H4=>Pv (i + 1) (ys++[y]) H4 else Pv (i + 1) ys H3)
    (hd:∀ ys H,Pv xs.length ys H->∀ p,H p=none->Q (.ref p) (upd H p (.lst ys))):qg n (CH K ti) g tc te σ H Q:=
  hi _ ⟨a,rfl,⟨xs,hx⟩,qV Pv h0 hl hs hd⟩
theorem HR {CW:aa} {H H4:Hp} {c dx:aa} {own:List aa} (nc:H c=none) (ndx:H dx=none) (fr:∀ b∈own,(upd (upd H dx (.own c)) c (.ins CW dx [])) b=none)
    (s4:cG [c] (upd (upd H dx (.own c)) c (.ins CW dx [])) H4):bF H H4/\∀ b∈c :: own,H b=none:=by
  have sI:bF H (upd (upd H dx (.own c)) c (.ins CW dx [])):=fun b o e=>by
    rw [aG (aN e nc),aG (aN e ndx)]
    exact e
  refine ⟨fun b o e=>s4.keep b o (sI b o e) (by simpa using aN e nc),fun b hb=>?_⟩
  rcases ak.mp hb with rfl | hb
  · exact nc
  · exact sI.free (fr b hb)
theorem Fq {CC:aa} {H H4:Hp} {c dx d r q:aa} (nc:H c=none) (ndx:H dx=none)
    (nd4:(upd (upd H dx (.own c)) c (.ins CC dx [])) d=none) (nr4:(upd (upd H dx (.own c)) c (.ins CC dx [])) r=none) (nq4:(upd (upd H dx (.own c)) c (.ins CC dx [])) q=none)
    (s4:cG [c] (upd (upd H dx (.own c)) c (.ins CC dx [])) H4):bF H H4/\∀ b∈[c,d,r,q],H b=none:=by
  have sI:bF H (upd (upd H dx (.own c)) c (.ins CC dx [])):=fun b o e=>by
    rw [aG (aN e nc),aG (aN e ndx)]
    exact e
  refine ⟨fun b o e=>s4.keep b o (sI b o e) (by simpa using aN e nc),fun b hb=>?_⟩
  simp only [ak,aX,or_false] at hb
  rcases hb with rfl | rfl | rfl | rfl
  · exact nc
  · exact sI.free nd4
  · exact sI.free nr4
  · exact sI.free nq4
def A4 (K:af):Sp:=fun vs H Q _=>∃ (a:aa) (ns:List Int),vs=[.ref a]/\SqL K H a (ns.map V.int)/\ns.length<=63/\(∀ x∈ns,eB x<=1048576)/\∀ H',Q (.bl true) H'
theorem or_i {tA tB:L2.TT} {a b:TS} {D:jS} {σ:St} {H:Hp} (h:tA σ H fun c H1=>if c=true then a D σ H1 else tB σ H1 fun c H2=>if c=true then a D σ H2 else b D σ H2):FG (tOr tA tB) a b D σ H:=h
theorem HS {Ms:List MD} {r:RS} {most:Int} {i:Nat} {e:End} {rvs:List V} (st:rE Ms r most i e) (hm:most<=1000) (_:0<=0) (l:rvs.length=(itR Ms r i).2.length):rvs.length<=2000:=by
  rw [l]
  have q:∀ j,j<=i->((itR Ms r j).2.length:Int)<=1001:=by
    intro j hj
    cases j with
    | zero=>exact (by show (0:Int)<=1001; decide)
    | succ j =>
      obtain ⟨_,_,d3⟩:=ym (st.1 j (by omega)).2
      have:(itR Ms r (j + 1)).2.length<=(itR Ms r j).2.length + 1:=by
        show ((itR Ms r j).2++(ff Ms (itR Ms r j).1).2).length<=_
        rw [aB]
        have:(ff Ms (itR Ms r j).1).2.length<=1:=by
          unfold ff
          split
          · exact bA _
          · split
            · split <;> simp
            · exact bA _
        omega
      omega
  have:=q i (aE _)
  omega
theorem tst_i {r:R2} {ta tb:TE} {σ:St} {H:Hp} {Q:Bool->Hp->Prop} (h:ta σ H fun x H1=>tb σ H1 fun y H2=>r x y H2 fun v H3=>∃ c,v=.bl c/\Q c H3):uG (tOp r ta tb) σ H Q:=h
theorem HU {CC:aa} {I:CK} (T:zG CC I) {H G:Hp} {c:aa} {own:List aa} {kvs:List (List Key×V)} (h:I H c own kvs) (s:bF (Hid own H) G):cG own H G:=
  ⟨fun b o e n=>s _ _ (by rw [ip n]; exact e),fun b xs e=>s _ _ (ic (fun a ha=>T.own h a ha) e)⟩
section
variable {P:aO} {w:bj} {K:af} {mg:Str->Option ae} {base:cb} {f fP fM fD fMa fDu fMI fCI fWI fBc CM CS CB CC CW:aa} {fd fdP fdM fdD fdMa fdDu fdMI fdCI fdWI fdBc:bG}
seal L2.PS L2.PSs L2.PE L2.PA L2.PT L2.PW L2.PI L2.PG L2.PGs L2.PC L2.PPs
def spB (CM CS CB CC CW:aa) (b:Bool):Sp:=if b=true then BY CM CS CB (yt CC) else BY CM CS CB (whK CW)
abbrev nL:List Str:=["_law_script","_law_purse_here","_law_last","_law_stop","_law_span","_law_others","_law_most","_law_machines","_law_signs","_law_due_here","_law_calendar","_law_book","_law_state"]
abbrev pL:List Str:=["_law_script"]
theorem scL:bD nL pL (aP ve):=⟨rfl,rfl,rfl,by decide +kernel,rfl,by decide +kernel,by decide +kernel⟩
theorem ndL:((["_law_k"]:List Str)++nL).Nodup:=by decide +kernel
theorem ndL2:((["_law_time"]:List Str)++nL).Nodup:=by decide +kernel
theorem ndL3:((["_law_record"]:List Str)++nL).Nodup:=by decide +kernel
theorem Kt (D:Df K mg "law" ve ["_law_script"] f fd) (DP:Df K mg "_law_purse" kS ["_law_script"] fP fdP) (DM:Df K mg "_law_mixed" jq ["_law_cell","_law_k"] fM fdM) (DD:Df K mg "_law_draw" mE ["_law_purse_here","_law_out_of"] fD fdD)
    (DMa:Df K mg "_law_machine" i9 pMa fMa fdMa) (DDu:Df K mg "_law_due" lT pDu fDu fdDu)
    (MM_:Mk K CM fMI) (GMI:bg P w K mg base CX0 26 fMI fdMI ["self","machines"] (spMI CM 24)) (bMI:Binds K fdMI ["self","machines"] []) (MC:Mk K CC fCI) (GCI:bg P w K mg base CX0 1 fCI fdCI ["self"] (wM CC)) (bCI:Binds K fdCI ["self"] []) (TC:uy K mg CC) (MW:Mk K CW fWI) (GWI:bg P w K mg base CX0 2 fWI fdWI ["self","span"] (spWI CW)) (bW:Binds K fdWI ["self","span"] []) (TW:WhT K mg CW)
    (DBc:Df K mg "by_calendar" iy ["model","signs","most","calendar"] fBc fdBc) (GB1:bg P w K mg base CX0 39 fBc fdBc ["model","signs","most","calendar"] (BY CM CS CB (yt CC))) (GB2:bg P w K mg base CX0 39 fBc fdBc ["model","signs","most","calendar"] (BY CM CS CB (whK CW))) (TM:MdT K mg CM CS) (TB:BkT K mg CB) (B:Bl mg) (MM:mg "min"=none) (ME:mg "enumerate"=none) :
    bg P w K mg base CX0 40 f fd ["_law_script"] (A4 K):=by
  have GP:bg P w K mg base CX0 2 fP fdP ["_law_script"] (Au K):=DR DP DM B
  have GD:bg P w K mg base CX0 1 fD fdD ["_law_purse_here","_law_out_of"] DQ:=GA DD
  have GMa:bg P w K mg base CX0 1 fMa fdMa pMa Fj:=ok_Ma DMa
  have GDu:bg P w K mg base CX0 1 fDu fdDu pDu spDu:=ok_Du DDu B MM ME
  have GBc:=bg.some (ι:=Bool) (sp:=spB CM CS CB CC CW) (F:=fun b=>by
    cases b with
    | true=>exact GB1
    | false=>exact GB2)
  refine D.F.ok scL (fun vs H Q E h=>?_) (fun cdv A outer s H vs Q E hr h=>?_)
  · obtain ⟨a,ns,rfl,_⟩:=h
    rfl
  obtain ⟨a,ns,rfl,hS,hlen,hbits,k⟩:=h
  have r1:dN 1 _:=hr.mono (by decide)
  have r2:dN 2 _:=hr.mono (by decide)
  have r3:dN 3 _:=hr.mono (by decide)
  have r27:dN 27 _:=hr.mono (by decide)
  have r39:dN 39 _:=hr
  have h50:=Jp hr
  have hu1:=ji hr
  refine ⟨_,ax (bK (i:=1) scL.nd rfl (Or.inr rfl) (cw GP r2 (by rfl) DP.m DP.F.kp DP.b .nil cL (gB (pv 0) ay)))
    (ax (bK (i:=2) scL.nd rfl (Or.inl rfl) (cS gz aD (cw GD r1 (by rfl) DD.m DD.F.kp DD.b .nil cL (gB (pv 1) (dH aD ay)))))
    (ax (bK (i:=3) scL.nd rfl (Or.inl rfl) (bP eY (dP (dH bC (dH bC (dH bC ay)))) (cw GD r1 (by rfl) DD.m DD.F.kp DD.b .nil cL (gB (pv 1) (dH aD ay))) (fun _ _=>rfl)))
    (ax (bK (i:=4) scL.nd rfl (Or.inr rfl) (cS gz aD (cw GD r1 (by rfl) DD.m DD.F.kp DD.b .nil cL (gB (pv 1) (dH aD ay)))))
    (ax (Ai (i:=5) ["_law_k"] (gY.open (NN:=nL) (N:=nL) (sc:=aP ve) rfl rfl (by decide +kernel) rfl (by decide +kernel) (by decide +kernel) rfl (by decide +kernel)) rfl scL.nd rfl (Or.inl rfl) (oJ (by rfl) B.range (Fh (cw GD r1 (by rfl) DD.m DD.F.kp DD.b .nil cL (gB (pv 1) (dH aD ay))) ay)) (fun _ _ _ _=>eF (i:=0) ndL rfl (Or.inl rfl)) (fun _ _ _ _=>jJ) (fun _ _ _ _=>cS gz (cS pF (pv 5) (cw GD r1 (by rfl) DD.m DD.F.kp DD.b .nil cL (gB (pv 2) (dH aD ay)))) (cw GD r1 (by rfl) DD.m DD.F.kp DD.b .nil cL (gB (pv 2) (dH aD ay)))))
    (ax (bK (i:=6) scL.nd rfl (Or.inl rfl) (cZ (qJ rfl) (by rfl) B.max boot_max (dH aD (B1 (cS sE (cS gz (cS gz (pv 2) (cZ (jP K (by rfl)) (by rfl) B.len df (gB (pv 5) ay))) (cw GD r1 (by rfl) DD.m DD.F.kp DD.b .nil cL (gB (pv 1) (dH aD ay)))) aD) ay))))
    (ax (bK (i:=7) scL.nd rfl (Or.inl rfl) (dP (Fh (cw GMa r1 (by rfl) DMa.m DMa.F.kp DMa.b .nil cL (gB (pv 2) (gB (pv 3) (gB (pv 4) ay)))) (fV (cK (dH bC (oH (dP ay) (oH (dP ay) (oH (dP ay) (oH (dP ay) ay)))))) ay))))
    (ax (bK (i:=8) scL.nd rfl (Or.inl rfl) (cS zc (dP (fV (cK (dH aD (dH aD (dH aD (dH bC (dH aD (dH aD ay))))))) ay)) (kN ["_law_time"] (gY.open (NN:=nL) (N:=nL) (sc:=aP ve) rfl rfl (by decide +kernel) rfl (by decide +kernel) (by decide +kernel) rfl (by decide +kernel)) rfl (iL (pv 5)) (fun _ _ _ _=>eF (i:=0) ndL2 rfl (Or.inl rfl)) (fun _ _ _ _=>jJ) (fun _ _ _ _=>cK (gB (pv 0) (dH aD (dH aD (dH bC (dH aD (dH aD ay))))))))))
    (ax (bK (i:=9) scL.nd rfl (Or.inl rfl) (cw GDu r1 (by rfl) DDu.m DDu.F.kp DDu.b .nil cL (gB (pv 2) (gB (pv 3) (gB (pv 4) (gB (pv 5) (gB (pv 6) ay)))))))
    (ax (lu dB rfl (iL (dP (Fh (C2 MC GCI r2 (by rfl) TC.mgC bCI .nil cL) (Fh (oK MW GWI r3 (by rfl) TW.mgW bW .nil cL (B1 (cS gz aD (cw GD r1 (by rfl) DD.m DD.F.kp DD.b .nil cL (gB (pv 1) (dH aD ay)))) ay)) ay)))) (eF (i:=10) scL.nd rfl (Or.inl rfl)) (ax (bK (i:=11) scL.nd rfl (Or.inl rfl) (cw GBc r39 (by rfl) DBc.m DBc.F.kp DBc.b .nil cL (Fh (oK MM_ GMI r27 (by rfl) TM.mM bMI .nil cL (gB (pv 7) ay)) (gB (pv 8) (gB (pv 6) (gB (pv 10) ay))))))
    (ax (c9 ((zU (bZ (Dv h50) (kN ["_law_record"] (gY.open (NN:=nL) (N:=nL) (sc:=aP ve) rfl rfl (by decide +kernel) rfl (by decide +kernel) (by decide +kernel) rfl (by decide +kernel)) rfl (iL (mI K (by rfl) (pv 11) (by rfl))) (fun _ _ _ _=>eF (i:=0) ndL3 rfl (Or.inl rfl)) (fun _ _ _ _=>jJ) (fun _ _ _ _=>bP (kX K (by rfl)) (pv 0) aD (fun _ _=>rfl))) (bP b8 (pv 9) aD (fun _ _=>rfl)) (cB _)) (yN (bZ (Dv h50) (mI K (by rfl) (pv 11) (by rfl)) (bP b8 (pv 9) aD (fun _ _=>rfl)) (cB _)))).pt) (aF (bV pW)) cE)
    (ax (bK (i:=12) scL.nd rfl (Or.inl rfl) (bP eY (mI K (by rfl) (pv 11) (by rfl)) aD (fun _ _=>rfl)))
    (aF (c9 ((zU (bZ zY (mr hu1 (mI K (by rfl) (pv 12) (by rfl)) bC (fun _ _=>rfl)) (bP b8 (pv 9) aD (fun _ _=>rfl)) (cB _)) (zU (bZ zY (mI K (by rfl) (pv 12) (by rfl)) (cZ (uH rfl) (by rfl) MM vE (pa_s (bP b8 (pv 9) aD (fun _ _=>rfl)) (B1 (cS sE (pv 2) aD) ay))) (cB _)) (yN (bZ zY (mI K (by rfl) (pv 12) (by rfl)) aD (cB _))))).pt) (aF (bV pW)) cE))))))
    (aF (bV pW))))))))))),?_⟩
  have big:=iR
  have big2:2000 < az:=by decide
  -- the purse, last, stop, span
  refine eO (e9 ?_)
  refine ⟨_,rfl,a,ns,rfl,hS,hlen,hbits,fun p G0 np pu0 s0=>?_⟩
  refine cT ?_
  dsimp only
  refine eO (e9 ?_)
  refine ⟨_,rfl,p,40,rfl,pu0,by decide,by decide,fun x1 G1 x10 x11 pu1 b1=>⟨_,_,rfl,rfl,?_⟩⟩
  refine cT ?_
  dsimp only
  obtain ⟨la,hlaE⟩:∃ la:Nat,1 + x1=(la:Int):=⟨(1 + x1).toNat,by omega⟩
  rw [hlaE]
  have hla:1<=la/\la<=100:=by omega
  refine eO (e9 ?_)
  refine ⟨by show 3<=az; decide,fun l hl=>?_⟩
  refine ⟨_,rfl,p,3,rfl,pu1.upd hl,by decide,by decide,fun wy G2 w0 w3 pu2 b2=>?_⟩
  have nlp:l≠p:=newp pu1 hl
  obtain ⟨way,rfl⟩:∃ way:Nat,wy=(way:Int):=⟨wy.toNat,by omega⟩
  have hw:way < 3:=by omega
  have hat:atI [V.str "end",.str "fault",.str "none"] (way:Int)=some (.str (stW way)):=by
    match way,hw with
    | 0,_=>rfl
    | 1,_=>rfl
    | 2,_=>rfl
  refine ⟨l,_,_,_,rfl,rfl,SqL.of (b2 _ _ ah nlp),hat,?_⟩
  refine cT ?_
  dsimp only
  refine eO (e9 ?_)
  refine ⟨_,rfl,p,5,rfl,pu2,by decide,by decide,fun x3 G3 x30 x31 pu3 b3=>⟨_,_,rfl,rfl,?_⟩⟩
  refine cT ?_
  dsimp only
  obtain ⟨sp,hspE⟩:∃ sp:Int,sp=1 + x3:=⟨_,rfl⟩
  rw [<- hspE]
  have hsp:1<=sp/\sp<=9:=by omega
  clear b3 b2 hat nlp hl b1 pu2 pu1 s0 pu0 np hS
  -- the others
  refine eO (e9 ?_)
  refine B2 (fun m G=>m < 15/\jt G p) (fun R hR=>⟨_,rfl,p,15,rfl,pu3,by decide,by decide,fun x G x0 x1 pu _=>by
      obtain ⟨m,rfl⟩:∃ m:Nat,x=(m:Int):=⟨x.toNat,by omega⟩
      exact hR m G ⟨by omega,pu⟩⟩) (fun m G h=>by have:=h.1; omega) (fun m _ i ys G=>∃ os:List Int,ys=os.map V.int/\os.length=i/\(∀ o∈os,0<=o/\o<=1000)/\jt G p) (fun m G h=>⟨[],rfl,rfl,(fun o ho=>by cases ho),h.2⟩) ?_ ?_ ?_
  · rintro m G1 h i ys G hi ⟨os,rfl,h1,_⟩
    rw [av]
    have:=h.1
    omega
  · rintro m G1 h i ys G hi ⟨os,rfl,h1,h2,pu⟩
    refine ⟨rfl,?_⟩
    unfold um
    refine gJ ?_
    refine ⟨_,rfl,_,rfl,p,40,rfl,pu,by decide,by decide,fun x Ga x0 x1 pua _=>?_⟩
    refine ⟨_,_,rfl,rfl,.inl ⟨by omega,by omega⟩,_,rfl,p,2,rfl,pua,by decide,by decide,fun y Gb y0 y1 pub _=>⟨_,_,rfl,rfl,?_⟩⟩
    have m1:0<=sp * x:=Kj (by omega) (by omega)
    have m2:sp * x<=9 * 39:=Kk hsp.2 (by omega) x0 (by decide)
    refine ⟨os++[sp * x + y],by rw [ba]; rfl,by rw [aB,h1]; rfl,fun o ho=>?_,pub⟩
    rcases aU.mp ho with z | z
    · exact h2 o z
    · rw [au.mp z]
      omega
  rintro m Gm hm ys G4 ⟨os,rfl,los,hos,pu4⟩ ol hol
  have lo:os.length<=19:=by have:=hm.1; omega
  have nop:ol≠p:=newp pu4 hol
  refine cT ?_
  dsimp only
  have pu5:=pu4.upd (o:=.lst (os.map V.int)) hol
  have hol5:upd G4 ol (.lst (os.map V.int)) ol=some (.lst (os.map V.int)):=ah
  revert pu5 hol5
  generalize upd G4 ol (.lst (os.map V.int))=G5
  intro pu5 hol5
  clear hol pu4 pu3 hm los
  -- how many records
  refine eO (e9 ?_)
  refine ⟨_,rfl,_,rfl,ol,_,rfl,.inl (SqL.of hol5),_,_,rfl,rfl,_,rfl,p,7,rfl,pu5,by decide,by decide,fun x6 G6 x60 x61 pu6 b6=>⟨_,_,rfl,rfl,_,_,rfl,rfl,_,_,rfl,?_⟩⟩
  obtain ⟨most,hmoE⟩:∃ most:Int,most=(if (la:Int) + ((os.map V.int).length:Int) + x6 - 4 > 0 then (la:Int) + ((os.map V.int).length:Int) + x6 - 4 else 0):=⟨_,rfl⟩
  rw [<- hmoE]
  have hmo:most<=1000:=by
    rw [hmoE,av]
    split <;> omega
  have hol6:=b6 _ _ hol5 nop
  refine cT ?_
  dsimp only
  clear hmoE b6 hol5 pu5
  -- the machines
  refine eO (e9 ?_)
  refine ⟨_,rfl,_,rfl,_,rfl,la,way,sp,rfl,hw,hla,hsp,fun G7 mt s7 hma=>?_⟩
  refine ⟨bA _,fun b1 hb1=>⟨bA _,fun b2 hb2=>⟨bA _,fun b3 hb3=>⟨bA _,fun b4 hb4=>⟨by show 5<=az; decide,fun t2 ht2=>⟨lt2,fun ml hml=>?_⟩⟩⟩⟩⟩⟩
  have q1:=aH hb1 (.lst [])
  have q2:=aH hb2 (.lst [])
  have q3:=aH hb3 (.lst [])
  have q4:=aH hb4 (.lst [])
  have q5:=aH ht2 (.tup [.str "two",.ref b1,.ref b2,.ref b3,.ref b4])
  have q6:=aH hml (.lst [.ref mt,.ref t2])
  have u5:=q5.trans q6
  have u4:=q4.trans u5
  have u3:=q3.trans u4
  have u2:=q2.trans u3
  have u1:=q1.trans u2
  refine cT ?_
  dsimp only
  refine Fi (P:=fun G=>jt G p/\G ol=some (.lst (os.map V.int))/\(∀ F,fg G F->wY la sp way F mt)/\qA G t2/\G ml=some (.lst [.ref mt,.ref t2])) ⟨pu6.same (s7.trans u1),u1 _ _ (s7 _ _ hol6),fun F kf=>hma F ((fg.same u1).trans kf),⟨b1,b2,b3,b4,q6 _ _ ah,u2 _ _ ah,u3 _ _ ah,u4 _ _ ah,u5 _ _ ah⟩,ah⟩ fun G8 h8=>?_
  clear u1 u2 u3 u4 u5 q1 q2 q3 q4 q5 q6 hml ht2 hb4 hb3 hb2 hb1 hma s7 hol6 pu6
  obtain ⟨pu8,hol8,hma,tw8,hml8⟩:=h8
  -- the outside signs
  refine eO (e9 ?_)
  refine ⟨by show 6<=az; decide,fun s1 hs1=>⟨pj,fun l1 hl1=>?_⟩⟩
  have q1:=aH hs1 (.tup [.int 0,.int 0,.int 0,.str "tick",.int 0,.int 0])
  have q2:=aH hl1 (.lst [.ref s1])
  have q12:=q1.trans q2
  refine zS (K:=K) (a:=ol) (xs:=os.map V.int) (fun R h=>⟨_,rfl,h⟩) (SqL.of (q12 _ _ hol8)) (fun i ys G=>bF (upd (upd G8 s1 (.tup [.int 0,.int 0,.int 0,.str "tick",.int 0,.int 0])) l1 (.lst [.ref s1])) G/\ys.length=i/\(∀ y∈ys,∃ t,y=.ref t)/\aW (ye G) ys ((os.take i).map fun o=>(⟨o,2,0,0,1,"noise",1,2⟩:Ev))) ⟨bF.refl _,rfl,(fun y hy=>by cases hy),.nil⟩ ?_ ?_ ?_
  · rintro i ys G hi ⟨sG,ly,_,_⟩
    rw [av] at hi
    exact ⟨SqL.of (sG _ _ (q12 _ _ hol8)),by omega⟩
  · rintro i x ys G hi ⟨sG,ly,ry,py⟩
    rw [bf] at hi
    obtain ⟨o,ho,rfl⟩:∃ o,os[i]?=some o/\x=.int o:=by
      cases z:os[i]? with
      | none =>
        rw [z] at hi
        cases hi
      | some o =>
        rw [z] at hi
        cases hi
        exact ⟨o,rfl,rfl⟩
    refine ⟨rfl,?_⟩
    unfold um
    refine gJ ?_
    refine ⟨_,rfl,by show 6<=az; decide,fun t ht=>?_⟩
    have st_:=aH ht (.tup [.int o,.int 2,.int 1,.str "noise",.int 1,.int 2])
    refine ⟨sG.trans st_,by rw [aB,ly]; rfl,fun y hy=>?_,?_⟩
    · rcases aU.mp hy with z | z
      · exact ry y z
      · exact ⟨t,au.mp z⟩
    · rw [eT,ho,ba]
      exact fb (Paired.mono (fun _ _ z=>z.same st_) py) ⟨t,rfl,ah⟩
  rintro ys G9 ⟨sG,ly,ry,py⟩ l2 hl2
  rw [av,eC] at py
  rw [av] at ly
  have q3:=aH hl2 (.lst ys)
  refine ⟨l1,l2,_,_,rfl,rfl,q3 _ _ (sG _ _ ah),ah,by show 1 + ys.length<=az; omega,fun sgl hsgl=>?_⟩
  have q4:=aH hsgl (.lst ([.ref s1]++ys))
  have s89:=(q12.trans sG).trans (q3.trans q4)
  refine cT ?_
  dsimp only
  refine Fi (P:=fun G=>jt G p/\G ol=some (.lst (os.map V.int))/\(∀ F,fg G F->wY la sp way F mt)/\qA G t2/\G ml=some (.lst [.ref mt,.ref t2])/\G sgl=some (.lst (.ref s1 :: ys))/\aW (ye G) (.ref s1 :: ys) (oG os)) ⟨pu8.same s89,s89 _ _ hol8,fun F kf=>hma F ((fg.same s89).trans kf),tw8.keep (fg.same s89),s89 _ _ hml8,ah,.cons ⟨s1,rfl,q4 _ _ (q3 _ _ (sG _ _ (q2 _ _ ah)))⟩ (Paired.mono (fun _ _ z=>(z.same q3).same q4) py)⟩ fun G10 h10=>?_
  clear s89 q4 hsgl q3 hl2 py ry ly sG q12 q2 q1 hl1 hs1 hml8 tw8 hma hol8 pu8
  obtain ⟨pu10,hol10,hma,tw10,hml10,hsg10,psg10⟩:=h10
  -- what is due
  refine eO (e9 ?_)
  refine ⟨_,rfl,_,rfl,_,rfl,_,rfl,_,rfl,la,way,sp,ol,os,most,rfl,hol10,hw,hla,hsp,hos,lo,hmo,fun G11 du i0 e0 s11 stop hdu=>?_⟩
  refine cT ?_
  dsimp only
  have kh:=Fp (pu10.same s11)
  have kh10:=(fg.same s11).trans kh
  have fz:Fz la sp way os most (Hid [p] G11) ml sgl du i0 e0:=⟨⟨mt,t2,kh10.refs hml10,hma _ kh10,tw10.keep kh10⟩,⟨_,kh10.refs hsg10,Paired.mono (fun _ _ ⟨t,e,h⟩=>⟨t,e,kh10.tup h⟩) psg10⟩,hdu.keep kh,stop⟩
  have pu11:=pu10.same s11
  have fp:bF (Hid [p] G11) G11:=oA
  have npF:Hid [p] G11 p=none:=if_pos (au.mpr rfl)
  clear kh kh10 hdu s11 psg10 hsg10 hml10 tw10 hma hol10 pu10
  revert fz fp npF
  generalize Hid [p] G11=F
  intro fz fp npF
  -- a calendar and a wheel
  refine eO ?_
  intro c1 dx1 nc1 ndx1 ncd1
  refine ⟨c1,dx1,rfl,ah,fun d1 r1 q1 G12 nd4 nr4 nq4 ndr1 hC1 s4=>⟨rfl,?_⟩⟩
  obtain ⟨sa1,f1⟩:=Fq nc1 ndx1 nd4 nr4 nq4 s4
  have pu12:=pu11.same sa1
  refine ⟨_,rfl,p,1000,rfl,pu12,by decide,by decide,fun j2 G13 j20 j21 pu13 b13=>⟨_,_,rfl,rfl,?_⟩⟩
  intro c2 dx2 nc2 ndx2 ncd2
  refine ⟨c2,dx2,1 + j2,rfl,ah,by omega,by omega,fun ow2 G14 hW2 fr2 s5=>⟨rfl,?_⟩⟩
  obtain ⟨sa2,f2⟩:=HR nc2 ndx2 fr2 s5
  refine ⟨lt2,fun lc nlc=>?_⟩
  have q14:=aH nlc (.lst [.ref c1,.ref c2])
  have fF:bF F G13:=fun b o e=>b13 _ _ (sa1 _ _ (fp _ _ e)) fun z=>by
    rw [z,npF] at e
    cases e
  have F12:∀ b,G11 b=none->F b=none:=fun b n=>by
    cases z:F b with
    | none=>rfl
    | some o =>
      rw [fp _ _ z] at n
      cases n
  have F13:∀ b,G13 b=none->F b=none:=fun b n=>by
    cases z:F b with
    | none=>rfl
    | some o =>
      rw [fF _ _ z] at n
      cases n
  have hK1:yt CC G14 c1 [c1,d1,r1,q1] []:=(oS CC).stay (ps:=[p]) ⟨d1,r1,q1,rfl,hC1⟩ ((pu12.stay b13).trans (cG.same sa2)) fun b hb z=>by
    have n:=f1 b hb
    rw [au.mp z] at n
    obtain ⟨x,y,e⟩:=pu11
    rw [e] at n
    cases n
  have own12:∀ b∈[c1,d1,r1,q1],b∉c2 :: ow2:=fun b hb z=>by
    obtain ⟨o,e,_⟩:=(oS CC).own (kvs:=[]) (H:=G12) (c:=c1) (own:=[c1,d1,r1,q1]) ⟨d1,r1,q1,rfl,hC1⟩ b hb
    have n:b≠p:=fun y=>by
      have n:=f1 b hb
      rw [y] at n
      obtain ⟨x,y,e⟩:=pu11
      rw [e] at n
      cases n
    have e:=b13 _ _ e n
    rw [f2 b z] at e
    cases e
  have lc1:lc∉[c1,d1,r1,q1]:=fun z=>by
    obtain ⟨o,e,_⟩:=(oS CC).own hK1 lc z
    rw [nlc] at e
    cases e
  have lc2:lc∉c2 :: ow2:=fun z=>by
    obtain ⟨o,e,_⟩:=(oC CW).own hW2 lc z
    rw [nlc] at e
    cases e
  refine ⟨lc,rfl,⟨_,SqL.of ah⟩,jU (K:=K) (a:=lc) (xs:=[.ref c1,.ref c2]) (fun i σ G=>∃ u10 u11 u12,σ=[some (.ref a),some (.ref p),some (.int la),some (.str (stW way)),some (.int sp),some (.ref ol),some (.int most),some (.ref ml),some (.ref sgl),some (.ref du),u10,u11,u12]/\bF F G/\G lc=some (.lst [.ref c1,.ref c2])/\(i=0->yt CC G c1 [c1,d1,r1,q1] [])/\(i<=1->whK CW G c2 (c2 :: ow2) [])) ⟨_,_,_,rfl,(fF.trans sa2).trans q14,ah,fun _=>(oS CC).stay (ps:=[]) hK1 (cG.same q14) (fun b _ z=>nomatch z),fun _=>(oC CW).stay (ps:=[]) hW2 (cG.same q14) (fun b _ z=>nomatch z)⟩ ?_ ?_ ?_⟩
  · rintro i σ G _ ⟨_,_,_,rfl,_,h,_⟩
    exact SqL.of h
  · rintro i x σ G hi ⟨u10,u11,u12,rfl,sF,hlc,k1,k2⟩
    obtain ⟨b,CX',I,own,c,rfl,ok,hI,fo,hsb,next⟩:∃ (b:Bool) (CX':aa) (I:CK) (own:List aa) (c:aa),x=.ref c/\zG CX' I/\I G c own []/\(∀ y∈own,F y=none)/\(∀ vs H Q E,BY CM CS CB I vs H Q E->spB CM CS CB CC CW b vs H Q E)/\(∀ G',cG own G G'->G' lc=some (.lst [.ref c1,.ref c2])/\(i + 1=0->yt CC G' c1 [c1,d1,r1,q1] [])/\(i + 1<=1->whK CW G' c2 (c2 :: ow2) [])):=by
      match i,hi with
      | 0,hi =>
        cases hi
        refine ⟨true,CC,yt CC,_,c1,rfl,oS CC,k1 rfl,fun y hy=>F12 y (f1 y hy),fun vs H Q E h=>h,fun G' st=>⟨st.keep _ _ hlc lc1,fun z=>absurd z (by omega),fun _=>(oC CW).stay (k2 (by omega)) st fun b hb z=>own12 b z hb⟩⟩
      | 1,hi =>
        cases hi
        exact ⟨false,CW,whK CW,_,c2,rfl,oC CW,k2 (by omega),fun y hy=>F13 y (f2 y hy),fun vs H Q E h=>h,fun G' st=>⟨st.keep _ _ hlc lc2,fun z=>absurd z (by omega),fun z=>absurd z (by omega)⟩⟩
      | i + 2,hi=>cases hi
    have ho:∀ y∈own,G y≠none:=fun y hy z=>by
      obtain ⟨o,e,_⟩:=ok.own hI y hy
      rw [z] at e
      cases e
    refine eO (e9 (JW (Ez (EA ?_))))
    refine ⟨_,rfl,fun m dxm nm ndx nem=>?_⟩
    have sI:bF G (upd (upd G dxm (.own m)) m (.ins CM dxm [])):=fun b o e=>by
      rw [aG (aN e nm),aG (aN e ndx)]
      exact e
    have fzI:=fz.same (sF.trans sI)
    obtain ⟨mt',t2',z1,z2,z3⟩:=fzI.ma
    refine ⟨m,dxm,.ref ml,rfl,ah,fzI.tree,fun v' H2 s2 al2=>⟨rfl,?_⟩⟩
    obtain ⟨ml',rfl,mo⟩:=mo27 z1 z2 z3 al2
    have MoA:=mo_at (Ms:=M27 la sp way) nm ndx nem s2 ho mo
    have sG3:bF G (upd H2 m (.ins CM dxm (cM "machines" (.ref ml') []))):=ka (sI.trans s2) nm
    revert MoA sG3
    clear mo al2 s2 z1 z2 z3 fzI sI nm ndx nem
    generalize upd H2 m (.ins CM dxm (cM "machines" (.ref ml') []))=G3
    intro MoA sG3
    have fz3:=fz.same (sF.trans sG3)
    obtain ⟨svs,z4,z5⟩:=fz3.sg
    have hI3:=ok.stay (ps:=[]) hI (cG.same sG3) (fun b _ z=>nomatch z)
    refine ⟨_,rfl,_,rfl,_,rfl,b,hsb _ _ _ _ ⟨M27 la sp way,m,sgl,c,own,svs,oG os,most,rfl,MoA,by show 2 < 1000; decide,z4,z5,by unfold oG; rw [aL,av]; omega,ev27 hos,hmo,hI3,fun j hj=>?_,fun G4 bk i e s4' st4 B4=>?_⟩⟩
    · obtain ⟨_,t,tk,ns',A27⟩:=Fg (most:=most) hsp.1 hsp.2 hla.1 hla.2 hw hos lo j hj
      exact A27.small hsp.1 hsp.2 hla.2
    obtain ⟨rfl,rfl⟩:=rE.uniq st4 fz.st
    have st34:=HU ok hI3 s4'
    have stG4:=(cG.same (ps:=own) sG3).trans st34
    have sF4:bF F G4:=fun b o e=>st34.keep _ _ (sG3 _ _ (sF _ _ e)) fun z=>by
      rw [fo b z] at e
      cases e
    have fz4:=fz.same sF4
    refine cT ?_
    dsimp only
    obtain ⟨dxb,rl,sl,en,rvs,ss,hbk,hrl,hrv,hen,hsl,hss⟩:=B4.ex
    obtain ⟨rl',en',tc,as,hdu,hrl',tas,hen',hsts⟩:=fz4.du
    have lrv:=bJ hrv
    -- the records and the ending
    refine eO ?_
    refine or_i ?_
    refine tst_i ?_
    refine yw (K:=K) (a:=rl) (c:=bk) (xs:=rvs) rfl hbk TB.cl TB.nR (bk_r _ _ _) (SqL.of hrl) (fun j ys G=>G=G4/\∃ ks:List aa,ys=ks.map V.ref/\fu G4 ks (((gR la sp way os i).2.take j).map fun q=>q.h.key)) ⟨rfl,[],rfl,.nil⟩ ?_ ?_ ?_
    · rintro j ys G' hj ⟨rfl,ks,rfl,tk⟩
      have:=tk.length
      rw [av,cN] at this
      have st5:=st4.2.1
      have l2:(gR la sp way os i).2.length<=2000:=by
        rw [<- lrv]
        exact HS st4 hmo (aE _) lrv
      rw [av]
      exact ⟨SqL.of hrl,by omega⟩
    · rintro j x ys G' hj ⟨rfl,ks,rfl,tk⟩
      obtain ⟨q,hq,rc,kk,wl,od,ws1,ws2,vs,qa,rfl,y1,y2,_⟩:=jO hrv hj
      refine ⟨rfl,?_⟩
      unfold um
      refine gJ ?_
      refine ⟨_,rfl,rc,_,_,_,rfl,rfl,SqT.of y1,rfl,rfl,ks++[kk],by rw [ba]; rfl,?_⟩
      rw [eT,hq,ba]
      exact oV tk y2
    rintro ys G' ⟨rfl,ks,rfl,tk⟩ l5 hl5
    rw [lrv,eC] at tk
    have q5:=aH hl5 (.lst (ks.map V.ref))
    refine ⟨_,rfl,du,_,_,_,rfl,rfl,SqT.of (q5 _ _ hdu),rfl,2,l5,rl',by decide,rfl,rfl,.inr (.inl ⟨l5,rl',_,_,rfl,rfl,ah,q5 _ _ hrl',yD (tk.keep fun b xs e=>q5 _ _ e) (tas.keep fun b xs e=>q5 _ _ e)⟩),_,rfl,fG ?_⟩
    obtain ⟨en1,rfl⟩:=hen.ref
    obtain ⟨en2,rfl⟩:=hen'.ref
    refine ⟨_,rfl,bk,CB,dxb,_,_,rfl,q5 _ _ hbk,TB.cl,TB.nE,bk_e _ _ _,_,rfl,du,_,_,_,rfl,rfl,SqT.of (q5 _ _ hdu),rfl,3,en1,en2,by decide,rfl,rfl,HQ (hen.same q5) (hen'.same q5),_,rfl,fG ?_⟩
    refine wV ?_
    dsimp only
    -- the first state
    have hss':aW (StA CS G') ss [iT la tc,oE]:=by
      rw [<- hsts]
      exact hss
    obtain ⟨sa,sb,rfl,hsa⟩:∃ sa sb,ss=[sa,sb]/\StA CS G' sa (iT la tc):=by
      cases hss' with
      | cons x y =>
        cases y with
        | cons x' y' =>
          cases y'
          exact ⟨_,_,rfl,x⟩
    refine eO (e9 ?_)
    refine ⟨_,rfl,bk,CB,dxb,_,_,rfl,q5 _ _ hbk,TB.cl,TB.nS,bk_s _ _ _,sl,_,_,_,rfl,rfl,SqL.of (q5 _ _ hsl),rfl,?_⟩
    refine cT ?_
    dsimp only
    obtain ⟨dxs,bd,qd,qa,g1,g2,g3,g4⟩:=kC.same' q5 hsa
    have dg:hZ (upd G' l5 (.lst (ks.map V.ref))) bd (.str "n") (some (.int (tc:Int))):=by
      have z:=hZ.k (k:=Sum.inr ("n":Str)) g2
      have e:fZ (boK (iT la tc).bx) (Sum.inr ("n":Str))=some (.int (tc:Int)):=rfl
      rw [e] at z
      exact z
    have hdu5:=q5 _ _ hdu
    have emin:(if (la:Int) - 1 < (tc:Int) then (la:Int) - 1 else (tc:Int))=((min tc (la - 1):Nat):Int):=by
      split <;> omega
    refine ⟨_,rfl,sa,CS,dxs,_,_,rfl,g1,TM.clS,TM.nB,Ei _ _ _ _,_,.int (tc:Int),rfl,dg,_,rfl,du,_,_,_,rfl,rfl,SqT.of hdu5,rfl,rfl,_,rfl,?_⟩
    rw [decide_eq_true rfl]
    refine fG ?_
    refine ⟨_,rfl,sa,CS,dxs,_,_,rfl,g1,TM.clS,TM.nS,Hd _ _ _ _,_,rfl,du,_,_,_,rfl,rfl,SqT.of hdu5,rfl,_,rfl,_,_,rfl,rfl,_,_,rfl,rfl,_,rfl,?_⟩
    rw [decide_eq_true (show V.int (iT la tc).se=_ by rw [emin]; rfl)]
    refine fG ?_
    refine ⟨_,rfl,sa,CS,dxs,_,_,rfl,g1,TM.clS,TM.nD,Hc _ _ _ _,rfl,_,rfl,?_⟩
    dsimp only
    rw [decide_eq_true (show V.int ((iT la tc).dr:Int)=V.int 0 from rfl)]
    refine fG ?_
    refine wV ?_
    have st5:cG own G (upd G' l5 (.lst (ks.map V.ref))):=stG4.trans (cG.same q5)
    obtain ⟨n1,n2,n3⟩:=next _ st5
    exact ⟨_,_,_,rfl,sF4.trans q5,n1,n2,n3⟩
  · rintro σ G ⟨_,_,_,rfl,_⟩
    exact k G
end
end My
namespace My
open PySem L2
def qB (CN CG CU CY CP CL:aa):Flt->aa
  | .nought=>CN
  | .great=>CG
  | .full=>CU
  | .dry=>CY
  | .span=>CP
  | .late=>CL
end My
namespace My
theorem w5 {P:Flt->Prop} (a:P .nought) (b:P .great) (c:P .full) (d:P .dry) (e:P .span) (f:P .late):∀ x,P x
  | .nought=>a
  | .great=>b
  | .full=>c
  | .dry=>d
  | .span=>e
  | .late=>f
end My
namespace My
open PySem L2
theorem qC {α:Type} {n:Nat} {us:List α} (h:us.length=n + 1):∃ a l,us=a :: l/\l.length=n:=by
  cases us with
  | nil=>cases h
  | cons a l=>exact ⟨a,l,rfl,Nat.succ.inj h⟩
theorem w6 {α:Type} {us:List α} (h:us.length=1):∃ a,us=[a]:=by
  obtain ⟨a,l,rfl,h⟩:=qC h
  cases l with
  | nil=>exact ⟨a,rfl⟩
  | cons b l=>cases h
theorem w8 {α:Type} {us:List α} (h:us.length=2):∃ a b,us=[a,b]:=by
  obtain ⟨x,l,rfl,h'⟩:=qC h
  obtain ⟨a1,rfl⟩:=w6 h'
  exact ⟨x,a1,rfl⟩
theorem w9 {α:Type} {us:List α} (h:us.length=3):∃ a b c,us=[a,b,c]:=by
  obtain ⟨x,l,rfl,h'⟩:=qC h
  obtain ⟨a1,b1,rfl⟩:=w8 h'
  exact ⟨x,a1,b1,rfl⟩
theorem xa {α:Type} {us:List α} (h:us.length=4):∃ a b c d,us=[a,b,c,d]:=by
  obtain ⟨x,l,rfl,h'⟩:=qC h
  obtain ⟨a1,b1,c1,rfl⟩:=w9 h'
  exact ⟨x,a1,b1,c1,rfl⟩
theorem A5 {α:Type} {us:List α} (h:us.length=5):∃ a b c d e,us=[a,b,c,d,e]:=by
  obtain ⟨x,l,rfl,h'⟩:=qC h
  obtain ⟨a1,b1,c1,d1,rfl⟩:=xa h'
  exact ⟨x,a1,b1,c1,d1,rfl⟩
def Dn (K:af) (x:Str) (st:cR) (f:aa):Prop:=bQ K bc x=some (some (.ref f))/\∃ fd,Fun K x x st f fd
def Mn (K:af) (C:aa) (x q:Str) (st:cR) (f:aa):Prop:=(aT K (.ref C) x=some (some (.ref f))/\mj K (.ref f)=true)/\∃ fd,Fun K x q st f fd
structure Cn (K:af) (C:aa):Prop where
  c:Cls K C
  m:rJ K C=true
  k:e7 K (.ref C)=true
theorem dn_i {K:af} {x:Str} {st:cR} {f:aa} {oc:ae} {od an:Option aa} {sl:Array (Option ae)} {kV dc pm cd ct:ae} (a:bQ K bc x=some (some (.ref f))) (l:K.lookup f=some ⟨oc,od,.func (eJ x x (jH st) (iA st) (aP st) .none kV dc pm an cd ct),sl⟩) (c:iM K cd x=true) (k:e7 K (.ref f)=true):Dn K x st f:=⟨a,_,Di l c k⟩
theorem mn_i {K:af} {x q:Str} {st:cR} {f C:aa} {oc:ae} {od an:Option aa} {sl:Array (Option ae)} {kV dc pm cd ct:ae} (a:aT K (.ref C) x=some (some (.ref f))) (i:mj K (.ref f)=true) (l:K.lookup f=some ⟨oc,od,.func (eJ x q (jH st) (iA st) (aP st) .none kV dc pm an cd ct),sl⟩) (c:iM K cd q=true) (k:e7 K (.ref f)=true):Mn K C x q st f:=⟨⟨a,i⟩,_,Di l c k⟩
theorem dfx {K:af} {h:cb} {mg:Str->Option ae} {x:Str} {st:cR} {f:aa} (ps:List Str) (X:K.In h) (G:h.Ns bc mg) (a:Dn K x st f) (hb:∀ (kV doc pm:ae) (an:Option aa) (cdv ct:ae) (us:List ae),us.length=ps.length->yX (eJ x x (jH st) (iA st) (aP st) .none kV doc pm an cdv ct) ⟨us,[]⟩=pure (ps.zip us):=by intro _ _ _ _ _ _ us hl; first | (obtain ⟨a,rfl⟩:=w6 hl; rfl) | (obtain ⟨a,b,rfl⟩:=w8 hl; rfl) | (obtain ⟨a,b,c,rfl⟩:=w9 hl; rfl) | (obtain ⟨a,b,c,d,rfl⟩:=xa hl; rfl) | (obtain ⟨a,b,c,d,e,rfl⟩:=A5 hl; rfl)):∃ fd,Df K mg x st ps f fd:=by
  obtain ⟨a,fd,F⟩:=a
  exact ⟨fd,F,F.binds hb,dh X G a⟩
theorem mfx {K:af} {x q:Str} {st:cR} {f C:aa} (ps:List Str) (a:Mn K C x q st f) (hb:∀ (kV doc pm:ae) (an:Option aa) (cdv ct:ae) (us:List ae),us.length=ps.length->yX (eJ x q (jH st) (iA st) (aP st) .none kV doc pm an cdv ct) ⟨us,[]⟩=pure (ps.zip us):=by intro _ _ _ _ _ _ us hl; first | (obtain ⟨a,rfl⟩:=w6 hl; rfl) | (obtain ⟨a,b,rfl⟩:=w8 hl; rfl) | (obtain ⟨a,b,c,rfl⟩:=w9 hl; rfl) | (obtain ⟨a,b,c,d,rfl⟩:=xa hl; rfl) | (obtain ⟨a,b,c,d,e,rfl⟩:=A5 hl; rfl)):∃ fd,Fun K x q st f fd/\Binds K fd ps []/\gu K C x f:=by
  obtain ⟨⟨a,i⟩,fd,F⟩:=a
  exact ⟨fd,F,F.binds hb,a,i,F.kp⟩
theorem law_b {K:af} {x q:Str} {st:cR} {f:aa} {fd:bG} {y:Str} (F:Fun K x q st f fd) (hb:∀ (kV doc pm:ae) (an:Option aa) (cdv ct v:ae),yX (eJ x q (jH st) (iA st) (aP st) .none kV doc pm an cdv ct) ⟨[v],[]⟩=pure [(y,v)]) (s:ao) (v:ae):rj s fd ⟨[v],[]⟩ [(y,v)]:=by
  obtain ⟨oc,od,kV,doc,pm,an,cdv,ct,osl,rfl,_⟩:=F.ex
  exact .of_eq (hb kV doc pm an cdv ct v)
theorem all_mk {l:rN} {w:bj} {K:af} {h:cb} {mg:Str->Option ae} {fa f1 f2 f3 f4 f5 f6 f7 f8 f9 f10 f11 f12 f13 f14 f15 f16 f17 f18 f19 f20 f21 f22 f23 f24 f25 f26 f27 f28 f29 CM f30 CS f31 f32 CD f33 f34 f35 f36 f37 CB f38 CC f39 f40 f41 f42 f43 f44 f45 CW f46 f47 f48 f49 f50 f51 f52 f53 f54 CN CG CU CY CP CL CF:aa} {f100 f101 f102 f103 f104 f105:aa} {tkR:Tok} (X:K.In h) (G:h.Ns bc mg) (hfa:mg "law"=some (.ref fa))
    (a1:Dn K "worth_of" j0 f1) (a2:Dn K "number_of_leaf" fy f2) (a3:Dn K "number_of_two" gm f3) (a4:Dn K "number_of_division" dC f4) (a5:Dn K "done" wz f5) (a6:Dn K "doing_of" mB f6) (a7:Dn K "deeds_by_sign" gK f7) (a8:Dn K "writes_of" kQ f8) (a9:Dn K "do_deeds" gZ f9) (a10:Dn K "do_deed" lM f10) (a11:Dn K "do_push" lN f11) (a12:Dn K "do_pull" lO f12) (a13:Dn K "do_draw" lP f13) (a14:Dn K "do_send" lQ f14) (a15:Dn K "copied" lR f15) (a16:Dn K "first_state" i5 f16) (a17:Dn K "place_in" fJ f17) (a18:Dn K "put_in" j1 f18) (a19:Dn K "last_of" ia f19) (a20:Dn K "pending_at_first" fK f20) (a21:Dn K "by_calendar" iy f21) (a22:Dn K "put_all" lS f22) (a23:Dn K "do_next" oO f23) (a24:Dn K "_law_mixed" jq f24) (a25:Dn K "_law_purse" kS f25) (a26:Dn K "_law_draw" mE f26) (a27:Dn K "_law_machine" i9 f27) (a28:Dn K "_law_due" lT f28) (a29:Dn K "law" ve f29) (aCM:bQ K bc "Model"=some (some (.ref CM))) (a30:Mn K CM "__init__" "Model.__init__" mC f30) (pCM:Cn K CM) (nCMmachines:aT K (.ref CM) "machines"=some none) (aCS:bQ K bc "State"=some (some (.ref CS))) (a31:Mn K CS "__init__" "State.__init__" iO f31) (a32:Mn K CS "copy" "State.copy" iP f32) (pCS:Cn K CS) (nCSboxes:aT K (.ref CS) "boxes"=some none) (nCSqueues:aT K (.ref CS) "queues"=some none) (nCSdrawn:aT K (.ref CS) "drawn"=some none) (nCSsent:aT K (.ref CS) "sent"=some none) (aCD:bQ K bc "Doing"=some (some (.ref CD))) (a33:Mn K CD "__init__" "Doing.__init__" mz f33) (a34:Mn K CD "now" "Doing.now" iE f34) (a35:Mn K CD "reckon" "Doing.reckon" eK f35) (a36:Mn K CD "queue_of" "Doing.queue_of" dY f36) (a37:Mn K CD "fill" "Doing.fill" gs f37) (pCD:Cn K CD) (nCDmachine:aT K (.ref CD) "machine"=some none) (nCDhappening:aT K (.ref CD) "happening"=some none) (nCDstate:aT K (.ref CD) "state"=some none) (nCDwritten:aT K (.ref CD) "written"=some none) (nCDoutgoing:aT K (.ref CD) "outgoing"=some none) (nCDends:aT K (.ref CD) "ends"=some none) (nCDreckoned:aT K (.ref CD) "reckoned"=some none) (nCDqueued:aT K (.ref CD) "queued"=some none) (aCB:bQ K bc "Book"=some (some (.ref CB))) (a38:Mn K CB "__init__" "Book.__init__" oj f38) (pCB:Cn K CB) (nCBrecords:aT K (.ref CB) "records"=some none) (nCBending:aT K (.ref CB) "ending"=some none) (nCBstates:aT K (.ref CB) "states"=some none) (aCC:bQ K bc "Calendar"=some (some (.ref CC))) (a39:Mn K CC "__init__" "Calendar.__init__" gL f39) (a40:Mn K CC "put" "Calendar.put" iQ f40) (a41:Mn K CC "size" "Calendar.size" fi f41) (a42:Mn K CC "least" "Calendar.least" gA f42) (a43:Mn K CC "leave" "Calendar.leave" eX f43) (a44:Mn K CC "take_out" "Calendar.take_out" dm f44) (a45:Mn K CC "row_for" "Calendar.row_for" dX f45) (pCC:Cn K CC) (nCCthings:aT K (.ref CC) "things"=some none) (nCCrows:aT K (.ref CC) "rows"=some none) (aCW:bQ K bc "Wheel"=some (some (.ref CW))) (a46:Mn K CW "__init__" "Wheel.__init__" jK f46) (a47:Mn K CW "put" "Wheel.put" kR f47) (a48:Mn K CW "least" "Wheel.least" iz f48) (a49:Mn K CW "least_in_one_turn" "Wheel.least_in_one_turn" dJ f49) (a50:Mn K CW "row_for" "Wheel.row_for" gp f50) (a51:Mn K CW "stretch_of" "Wheel.stretch_of" c7 f51) (a52:Mn K CW "size" "Calendar.size" fi f52) (a53:Mn K CW "leave" "Calendar.leave" eX f53) (a54:Mn K CW "take_out" "Calendar.take_out" dm f54) (pCW:Cn K CW) (nCWthings:aT K (.ref CW) "things"=some none) (nCWrows:aT K (.ref CW) "rows"=some none) (nCWspan:aT K (.ref CW) "span"=some none) (nCWearliest:aT K (.ref CW) "earliest"=some none) (aCN:bQ K bc "Nought"=some (some (.ref CN))) (xCN:cX K CN pJ "ValueError.__new__"=true) (aCG:bQ K bc "Great"=some (some (.ref CG))) (xCG:cX K CG pJ "ValueError.__new__"=true) (aCU:bQ K bc "Full"=some (some (.ref CU))) (xCU:cX K CU pJ "ValueError.__new__"=true) (aCY:bQ K bc "Dry"=some (some (.ref CY))) (xCY:cX K CY pJ "ValueError.__new__"=true) (aCP:bQ K bc "Span"=some (some (.ref CP))) (xCP:cX K CP pJ "ValueError.__new__"=true) (aCL:bQ K bc "Late"=some (some (.ref CL))) (xCL:cX K CL pJ "ValueError.__new__"=true) (aCF:bQ K bc "Fault"=some (some (.ref CF))) (xCF:cX K CF pJ "ValueError.__new__"=true) (enn:cQ K (.ref CN) (.ref CN)=some true) (egn:cQ K (.ref CG) (.ref CN)=some false) (egg:cQ K (.ref CG) (.ref CG)=some true) (csp:kJ K (.ref CC) "__getattribute__"=some (some (.builtin "type.__getattribute__"))) (crd:Cj K CC (.type "type")=true) (cfc:Ck K (.ref CC) (.type "type") "__init__"=some (.val (.ref f39))) (wro:bQ K bc "ROWS"=some (some (.int 64 tkR))) (xfCN:cQ K (.ref CN) (.ref CF)=some true) (XN100:ur K CN) (a100:Mn K CN "word" "Nought.word" lC f100) (xfCG:cQ K (.ref CG) (.ref CF)=some true) (XN101:ur K CG) (a101:Mn K CG "word" "Great.word" mx f101) (xfCU:cQ K (.ref CU) (.ref CF)=some true) (XN102:ur K CU) (a102:Mn K CU "word" "Full.word" oa f102) (xfCY:cQ K (.ref CY) (.ref CF)=some true) (XN103:ur K CY) (a103:Mn K CY "word" "Dry.word" pK f103) (xfCP:cQ K (.ref CP) (.ref CF)=some true) (XN104:ur K CP) (a104:Mn K CP "word" "Span.word" og f104) (xfCL:cQ K (.ref CL) (.ref CF)=some true) (XN105:ur K CL) (a105:Mn K CL "word" "Late.word" oh f105) (zlen:bQ K bc "len"=some none) (zabs:bQ K bc "abs"=some none) (zisinstance:bQ K bc "isinstance"=some none) (zlist:bQ K bc "list"=some none) (ztuple:bQ K bc "tuple"=some none) (zstr:bQ K bc "str"=some none) (zint:bQ K bc "int"=some none) (zbool:bQ K bc "bool"=some none) (zrange:bQ K bc "range"=some none) (zmax:bQ K bc "max"=some none) (zdict:bQ K bc "dict"=some none) (zmin:bQ K bc "min"=some none) (zenumerate:bQ K bc "enumerate"=some none) :
    ∃ fd:bG,(∀ (s:ao) (v:ae),rj s fd ⟨[v],[]⟩ [("_law_script",v)])/\∀ base:cb,K.In base->base.Ns bc mg->bg l.prog w K mg base CX0 40 fa fd ["_law_script"] (A4 K):=by
  obtain ⟨_,D1⟩:=dfx ["formula","state","now","got"] X G a1
  obtain ⟨_,D2⟩:=dfx ["formula","state","now","got"] X G a2
  obtain ⟨_,D3⟩:=dfx ["kind","first","second"] X G a3
  obtain ⟨_,D4⟩:=dfx ["kind","first","second"] X G a4
  obtain ⟨_,D5⟩:=dfx ["model","state","happening"] X G a5
  obtain ⟨_,D6⟩:=dfx ["model","state","happening"] X G a6
  obtain ⟨_,D7⟩:=dfx ["machine","sign"] X G a7
  obtain ⟨_,D8⟩:=dfx ["doing"] X G a8
  obtain ⟨_,D9⟩:=dfx ["doing","deeds"] X G a9
  obtain ⟨_,D10⟩:=dfx ["doing","deed"] X G a10
  obtain ⟨_,D11⟩:=dfx ["doing","name","formula"] X G a11
  obtain ⟨_,D12⟩:=dfx ["doing","name","box","otherwise"] X G a12
  obtain ⟨_,D13⟩:=dfx ["doing","box","formula"] X G a13
  obtain ⟨_,D14⟩:=dfx ["doing","deed"] X G a14
  obtain ⟨_,D15⟩:=dfx ["thing"] X G a15
  obtain ⟨_,D16⟩:=dfx ["model","at"] X G a16
  obtain ⟨_,D17⟩:=dfx ["falling","thing"] X G a17
  obtain ⟨_,D18⟩:=dfx ["falling","thing"] X G a18
  obtain ⟨_,D19⟩:=dfx ["falling"] X G a19
  obtain ⟨_,D20⟩:=dfx ["signs"] X G a20
  obtain ⟨_,D21⟩:=dfx ["model","signs","most","calendar"] X G a21
  obtain ⟨_,D22⟩:=dfx ["calendar","happenings"] X G a22
  obtain ⟨_,D23⟩:=dfx ["model","states","records","calendar"] X G a23
  obtain ⟨_,D24⟩:=dfx ["_law_cell","_law_k"] X G a24
  obtain ⟨_,D25⟩:=dfx ["_law_script"] X G a25
  obtain ⟨_,D26⟩:=dfx ["_law_purse_here","_law_out_of"] X G a26
  obtain ⟨_,D27⟩:=dfx ["_law_last","_law_stop","_law_span"] X G a27
  obtain ⟨_,D28⟩:=dfx ["_law_last","_law_stop","_law_span","_law_others","_law_most"] X G a28
  obtain ⟨_,D29⟩:=dfx ["_law_script"] X G a29
  obtain ⟨_,FMI,bMI,mMI⟩:=mfx ["self","machines"] a30
  have MCM:Mk K CM _:=⟨pCM.m,mMI.at_,mMI.fn,pCM.k⟩
  obtain ⟨_,FSI,bSI,mSI⟩:=mfx ["self","boxes","queues","drawn","sent"] a31
  obtain ⟨_,FSC,bSC,mSC⟩:=mfx ["self"] a32
  have MCS:Mk K CS _:=⟨pCS.m,mSI.at_,mSI.fn,pCS.k⟩
  obtain ⟨_,FDI,bDI,mDI⟩:=mfx ["self","machine","state","happening"] a33
  obtain ⟨_,FDN,bDN,mDN⟩:=mfx ["self"] a34
  obtain ⟨_,FDR,bDR,mDR⟩:=mfx ["self","formula"] a35
  obtain ⟨_,FDQ,bDQ,mDQ⟩:=mfx ["self","name"] a36
  obtain ⟨_,FDF,bDF,mDF⟩:=mfx ["self","box","worth"] a37
  have MCD:Mk K CD _:=⟨pCD.m,mDI.at_,mDI.fn,pCD.k⟩
  obtain ⟨_,FBI,bBI,mBI⟩:=mfx ["self","records","ending","states"] a38
  have MCB:Mk K CB _:=⟨pCB.m,mBI.at_,mBI.fn,pCB.k⟩
  obtain ⟨_,FCI,bCI,mCI⟩:=mfx ["self"] a39
  obtain ⟨_,FCP,bCP,mCP⟩:=mfx ["self","key","thing"] a40
  obtain ⟨_,FCZ,bCZ,mCZ⟩:=mfx ["self"] a41
  obtain ⟨_,FCLe,bCLe,mCLe⟩:=mfx ["self"] a42
  obtain ⟨_,FCV,bCV,mCV⟩:=mfx ["self"] a43
  obtain ⟨_,FCT,bCT,mCT⟩:=mfx ["self","key"] a44
  obtain ⟨_,FCR,bCR,mCR⟩:=mfx ["self","key"] a45
  have MCC:Mk K CC _:=⟨pCC.m,mCI.at_,mCI.fn,pCC.k⟩
  obtain ⟨_,FWI,bWI,mWI⟩:=mfx ["self","span"] a46
  obtain ⟨_,FWP,bWP,mWP⟩:=mfx ["self","key","thing"] a47
  obtain ⟨_,FWL,bWL,mWL⟩:=mfx ["self"] a48
  obtain ⟨_,FWO,bWO,mWO⟩:=mfx ["self"] a49
  obtain ⟨_,FWR,bWR,mWR⟩:=mfx ["self","key"] a50
  obtain ⟨_,FWS,bWS,mWS⟩:=mfx ["self","key"] a51
  obtain ⟨_,FWZ,bWZ,mWZ⟩:=mfx ["self"] a52
  obtain ⟨_,FWV,bWV,mWV⟩:=mfx ["self"] a53
  obtain ⟨_,FWT,bWT,mWT⟩:=mfx ["self","key"] a54
  have MCW:Mk K CW _:=⟨pCW.m,mWI.at_,mWI.fn,pCW.k⟩
  have e:=hfa.symm.trans D29.m
  cases e
  have B:Bl mg:=⟨cO X G zlen,cO X G zabs,cO X G zisinstance,cO X G zlist,cO X G ztuple,cO X G zstr,cO X G zint,cO X G zbool,cO X G zrange,cO X G zmax,cO X G zdict⟩
  have TM:MdT K mg CM CS:=⟨pCM.c,pCS.c,nCMmachines,nCSboxes,nCSqueues,nCSdrawn,nCSsent,dh X G aCM,dh X G aCS⟩
  have TD:DT K mg CD:=⟨pCD.c,nCDmachine,nCDhappening,nCDstate,nCDwritten,nCDoutgoing,nCDends,nCDreckoned,nCDqueued,dh X G aCD⟩
  have T6:En K mg (qB CN CG CU CY CP CL):=⟨⟨dh X G aCN,dh X G aCG,xCN,xCG,enn,egn,egg⟩,dh X G aCU,dh X G aCY,dh X G aCP,dh X G aCL,xCU,xCY,xCP,xCL⟩
  have MtN:Mt K CD "now" "Doing.now" iE ["self"] _ _:=⟨FDN,bDN,mDN⟩
  have MtR:Mt K CD "reckon" "Doing.reckon" eK ["self","formula"] _ _:=⟨FDR,bDR,mDR⟩
  have MtQ:Mt K CD "queue_of" "Doing.queue_of" dY ["self","name"] _ _:=⟨FDQ,bDQ,mDQ⟩
  have MtF:Mt K CD "fill" "Doing.fill" gs ["self","box","worth"] _ _:=⟨FDF,bDF,mDF⟩
  have MtC:Mt K CS "copy" "State.copy" iP ["self"] _ _:=⟨FSC,bSC,mSC⟩
  obtain ⟨_,FW100,bW100,mW100⟩:=mfx ["self"] a100
  obtain ⟨_,FW101,bW101,mW101⟩:=mfx ["self"] a101
  obtain ⟨_,FW102,bW102,mW102⟩:=mfx ["self"] a102
  obtain ⟨_,FW103,bW103,mW103⟩:=mfx ["self"] a103
  obtain ⟨_,FW104,bW104,mW104⟩:=mfx ["self"] a104
  obtain ⟨_,FW105,bW105,mW105⟩:=mfx ["self"] a105
  have TB:BkT K mg CB:=⟨pCB.c,nCBrecords,nCBending,nCBstates,dh X G aCB⟩
  have TC:uy K mg CC:=⟨pCC.c,nCCthings,nCCrows,dh X G aCC⟩
  have TW:WhT K mg CW:=⟨pCW.c,nCWthings,nCWrows,nCWspan,nCWearliest,dh X G aCW,⟨_,dh X G wro⟩⟩
  have cm:DG K CC "__init__" f39:=⟨csp,crd,cfc,FCI.kp⟩
  have MMi:mg "min"=none:=cO X G zmin
  have ME:mg "enumerate"=none:=cO X G zenumerate
  have mFa:mg "Fault"=some (.ref CF):=dh X G aCF
  have MW:∀ e,gu K ((qB CN CG CU CY CP CL) e) "word" ((vv f100 f101 f102 f103 f104 f105) e):=fun e=>by cases e <;> assumption
  have XNs:∀ e,ur K ((qB CN CG CU CY CP CL) e):=fun e=>by cases e <;> assumption
  have XFs:∀ e,cQ K (.ref ((qB CN CG CU CY CP CL) e)) (.ref CF)=some true:=fun e=>by cases e <;> assumption
  have BW:∀ e,Binds K (vv _ _ _ _ _ _ e) ["self"] []:=w5 bW100 bW101 bW102 bW103 bW104 bW105
  exact ⟨_,law_b D29.F fun _ _ _ _ _ _ _=>rfl,fun base _ _=>Kt D29 D25 D24 D26 D27 D28 MCM (ok_MI (n:=24) FMI D15 B TM) bMI MCC (Hx FCI TC) bCI TC MCW (ok_WI FWI TW B TC.mgC cm FCI bCI) bWI TW D21 (II D21 (AY TC B D18 D17 D19 FCR bCR mCR FCZ bCZ mCZ FCLe bCLe mCLe FCP bCP mCP FCT bCT mCT FCV bCV mCV) D22 D23 (IH (cf:=(qB CN CG CU CY CP CL)) (fW:=(vv f100 f101 f102 f103 f104 f105)) (fdW:=(vv _ _ _ _ _ _)) D23 (AY TC B D18 D17 D19 FCR bCR mCR FCZ bCZ mCZ FCLe bCLe mCLe FCP bCP mCP FCT bCT mCT FCV bCV mCV) D22 D5 (fun bq=>(AH (n:=5) D5 D6 MCD bDI (Iz FDI MtC (AG FSC MCS FSI bSI B TM) TD TM) D9 (tF D9 D10 MtF MtR (kW (cf:=(qB CN CG CU CY CP CL)) MtR MtN D1 D3 D4 D2 TD T6 TM B) D12 D11 (AD D11 MtR (kW (cf:=(qB CN CG CU CY CP CL)) MtR MtN D1 D3 D4 D2 TD T6 TM B) MtQ TD T6 TM B) D13 (x9 D13 MtR (kW (cf:=(qB CN CG CU CY CP CL)) MtR MtN D1 D3 D4 D2 TD T6 TM B) MtF TD T6 TM B) D14 (AE D14 MtR (kW (cf:=(qB CN CG CU CY CP CL)) MtR MtN D1 D3 D4 D2 TD T6 TM B) MtN TD T6 TM B) MtQ TD TM 5) D7 D8 TD TM B)) MW BW (w5 (tL FW100) (vt FW101) (yj FW102) (AO FW103) (yk FW104) (yl FW105)) XNs mFa XFs) D16 (vh D16 MCS FSI bSI B TM) D20 (EB D20 ME) MCB bBI (IC FBI TB) TB TM B) (II D21 (E2 TW B MMi D18 D17 D19 FWS bWS mWS FWR bWR mWR FWO bWO mWO FWZ bWZ mWZ FWL bWL mWL FWP bWP mWP FWT bWT mWT FWV bWV mWV) D22 D23 (IH (cf:=(qB CN CG CU CY CP CL)) (fW:=(vv f100 f101 f102 f103 f104 f105)) (fdW:=(vv _ _ _ _ _ _)) D23 (E2 TW B MMi D18 D17 D19 FWS bWS mWS FWR bWR mWR FWO bWO mWO FWZ bWZ mWZ FWL bWL mWL FWP bWP mWP FWT bWT mWT FWV bWV mWV) D22 D5 (fun bq=>(AH (n:=5) D5 D6 MCD bDI (Iz FDI MtC (AG FSC MCS FSI bSI B TM) TD TM) D9 (tF D9 D10 MtF MtR (kW (cf:=(qB CN CG CU CY CP CL)) MtR MtN D1 D3 D4 D2 TD T6 TM B) D12 D11 (AD D11 MtR (kW (cf:=(qB CN CG CU CY CP CL)) MtR MtN D1 D3 D4 D2 TD T6 TM B) MtQ TD T6 TM B) D13 (x9 D13 MtR (kW (cf:=(qB CN CG CU CY CP CL)) MtR MtN D1 D3 D4 D2 TD T6 TM B) MtF TD T6 TM B) D14 (AE D14 MtR (kW (cf:=(qB CN CG CU CY CP CL)) MtR MtN D1 D3 D4 D2 TD T6 TM B) MtN TD T6 TM B) MtQ TD TM 5) D7 D8 TD TM B)) MW BW (w5 (tL FW100) (vt FW101) (yj FW102) (AO FW103) (yk FW104) (yl FW105)) XNs mFa XFs) D16 (vh D16 MCS FSI bSI B TM) D20 (EB D20 ME) MCB bBI (IC FBI TB) TB TM B) TM TB B MMi ME⟩
theorem walk {l:rN} {q:aO} {loose:List Str} {XP:(Str->Option ae)->cb->Prop} {YP:bj->cb->Prop} {d:DefRec} {K:Params->af} (hn:l.most=some 63) (hdf:d.params.defaults=[])
    (hY:∀ (w:bj) (h:cb),YP w h->(K w.params).In h)
    (F:∀ (w:bj) (mg:Str->Option ae) (fa:aa) (h:cb),(K w.params).In h->h.Ns bc mg->mg d.name=some (.ref fa) ->
      ∃ fd:bG,(∀ (s:ao) (u:ae),rj s fd ⟨[u],[]⟩ [("_law_script",u)])/\∀ base:cb,(K w.params).In base->base.Ns bc mg->bg l.prog w (K w.params) mg base CX0 40 fa fd ["_law_script"] (A4 (K w.params))) :
    Fx q loose XP YP l.row.toRowW d [] (fun f vs=>Bs f vs):=
  L2.walk_ofB (n:=63) (k:=40) (x:="_law_script") (CX:=fun _=>CX0) (sp:=fun w=>A4 (K w.params)) hn (by decide) hdf ⟨rfl,by decide,by decide⟩ hY F (fun _ _ a ns hl hb hS=>⟨a,ns,rfl,hS,hl,hb,fun _=>rfl⟩) fun _ _ _ _ _ z=>z
end My
namespace PySem.W.Fast
def tw8765846720713894899:=0
def tw10547148412317247092:=0
def tw14833433209477859680:=0
def tw4472039799515461598:=0
def tw4701186719461137376:=0
def tw7481614367713146753:=0
def tw6939485326749029619:=0
def tw12991898838853796793:=0
def tw10178379982057394412:=0
def tw10335952886436253037:=0
def tw7401440351577030749:=0
def tw1806706886424869444:=0
def tw2379595255015322067:=0
def tw12678727049955139944:=0
def tw14463390587479921888:=0
def tw10620159621110312566:=0
def tw4938382999665664203:=0
def tw481803393004504309:=0
def tw11041434811668893682:=0
def tw16916693254791594482:=0
def tw6407224746119819454:=0
def tw1967861006148430475:=0
def tw16274216172899149156:=0
def tw12051257998245315582:=0
def tw11417268301255438061:=0
def tw5059373082735416723:=0
def tw1171352361528936:=0
def tw13855744845421750773:=0
def tw2111256459624427620:=0
def tw16701132363334550180:=0
def tw14552434631132697215:=0
def tw9837278163054257987:=0
def tw6108777109111061929:=0
def tw4798394276417172783:=0
def tw771268205957897976:=0
def tw10937735184441880992:=0
def tw12410998525978963715:=0
def tw2866000861975209398:=0
def tw3311958122688392154:=0
def tw11183691547168651350:=0
def tw17479669190035139724:=0
def tw11243852070608465513:=0
def tw18290480429117310553:=0
def tw2159803688601575691:=0
def tw9982285600041481396:=0
def tw8075830935693667946:=0
def tw14713536080502855903:=0
def tw13280553749957774100:=0
def tw492328962198901508:=0
def tw14994812257071519296:=0
def tw17902422060106931333:=0
def tw903309557765637585:=0
def tw2301077141482164098:=0
def tw4332725041850262504:=0
def tw2285224881942483216:=0
def tw3543179253867283519:=0
def tw5347355298215756207:=0
def tw353685888236769514:=0
def tw9752745598835541343:=0
def tw5983372974174311797:=0
def tw15646078824426908041:=0
def tw18005510640141749694:=0
def tw15655916722393830389:=0
def tw8243232489419239172:=0
def tw5020011396454443176:=0
def tw13097920642910467710:=0
def tw10532899102695958373:=0
def tw2653615516582915528:=0
def tw16020058893823406410:=0
def tw6095686063783067822:=0
def tw12678081240812791872:=0
def tw13005167282115074793:=0
def tw11236110003773083355:=0
def tw1267386659697382979:=0
def tw9766611018513073281:=0
def tw422465757288174578:=0
def tw15584312908039392791:=0
def tw4938319368106265417:=0
def tw13511288944763988476:=0
def tw6893271497066042412:=0
def tw10704972877315069286:=0
def tw10549619285667207770:=0
def tw12385876570045666002:=0
def tw12180194889614610001:=0
def tw3907200573077023785:=0
def tw11549023214157989544:=0
def tw16501251453105877638:=0
def tw11679225006236073148:=0
def tw5658566636385344009:=0
def tw11798712876745259307:=0
def tw186329398772805365:=0
def tw15724208359069484856:=0
def tw4171934507229472253:=0
def tw7158909966279543017:=0
def tw478219954806790382:=0
def tw12797663071476388652:=0
def tw4297770739325752552:=0
def tw15257812024873682144:=0
def tw6087949366776368058:=0
def tw5628549515744126040:=0
def tw7293823729499317102:=0
def tw14420719327721719677:=0
def tw3827491495216766109:=0
def tw1016120226533733359:=0
def tw6893574373760283895:=0
def tw17075556757791266787:=0
def tw8849800093729768564:=0
def tw7794241984607006811:=0
def tw1041756402847224468:=0
def tw3199414086593500656:=0
def tw9095262668246474946:=0
def tw3548494791062177389:=0
def tw338645133450476341:=0
def tw8661881299448876300:=0
def tw13477382417718055550:=0
def tw519893572706247014:=0
def tw9067038575985674692:=0
def tw426112114224109403:=0
def tw2290036765946704174:=0
def tw14284671378748823406:=0
def tw5317530075246614901:=0
def tw13499306723107338658:=0
def tw3646808691470672053:=0
def tw4793332208704330820:=0
def tw9932988297595815979:=0
def tw9596444195676221256:=0
def tw10354737335686980216:=0
def tw5029325032380245741:=0
def tw17300311598651028405:=0
def tw5390694374715758448:=0
def tw10046303329514353545:=0
def tw2096076962851146739:=0
def tw4173397768956063468:=0
def tw13535279281481667904:=0
def tw4907887606795757514:=0
def tw11398978068002044607:=0
def tw4983030298502773136:=0
def tw16403781629091302560:=0
def tw6332478127626272243:=0
def tw12053196108238224981:=0
def tw17095762973638731052:=0
def tw4499696318592025164:=0
def tw14083621934975976901:=0
def tw14526058305067975773:=0
def tw3903025700380640598:=0
def tw3216983462902419414:=0
def tw3839046294591653723:=0
def tw7347056993378156852:=0
def tw11376147329549085192:=0
def tw6352412917322540424:=0
def tw13557182530917310062:=0
def tw1583758353282591733:=0
def tw3605706812214071080:=0
def tw8308402327115449877:=0
def tw5336718822380488066:=0
def tw1275128689057671712:=0
def tw5006177432450677085:=0
def tw6893856525515749889:=0
def tw1319479711090313252:=0
def tw9709965341254537934:=0
def tw4778259974707651469:=0
def tw9650569653163834288:=0
def tw1329548878564853025:=0
def tw8385480303510840519:=0
def tw382912927089992826:=0
def tw9754510200846870945:=0
def tw17317652572787272817:=0
def tw15827773611083209376:=0
def tw9981814015447718902:=0
def tw12341347162347437935:=0
def tw16963064930953746934:=0
def tw9664314577370891071:=0
def tw6033793306458694015:=0
def tw1782526102936225802:=0
def tw12724178817482634998:=0
def tw4845515782089071640:=0
def tw7095822420657606568:=0
def tw11978748888374438024:=0
def tw10228362403900070707:=0
def tw6774264762460322561:=0
def tw6452426370354279548:=0
def tw6686853809803090221:=0
def tw13245817643258213293:=0
def tw4568502969520539364:=0
def tw12671983815875025698:=0
def tw17388548970750440592:=0
def tw4853493087890785643:=0
def tw17300352553625526140:=0
def tw17296671989565116977:=0
def tw1480021762181694644:=0
def tw2001830552341489514:=0
def tw9861837608588226108:=0
def tw4941251564701554738:=0
def tw9201769728967411415:=0
def tw8555590077149364045:=0
def tw16332543556774850885:=0
def tw10132445265685178502:=0
def tw1171105685269633220:=0
def tw10679650005110132911:=0
def tw4070010228021746009:=0
def tw7278669827618083057:=0
def tw12699041041077209176:=0
def tw2813619106884063007:=0
def tw13551080969784381639:=0
def tw1371503328413761046:=0
def tw9402043304848205385:=0
def tw14731918980955308588:=0
def tw2888421184832243295:=0
def tw7526802801593090312:=0
def tw13366932360451818938:=0
def tw4983373327315513045:=0
def tw5224405272762343924:=0
def tw18260092264828775713:=0
def tw6452694739571663912:=0
def tw11021004762243334993:=0
def tw12920390094432283083:=0
def tw7827154954896820601:=0
def tw11887740795858214487:=0
def tw16960816617356746992:=0
def tw4507341681335973528:=0
def tw9653698368837133091:=0
def tw6518061752094964442:=0
def tw9892170095046563584:=0
def tw15928849566916973203:=0
def tw1739698831967353585:=0
def tw6418347110146566325:=0
def tw5449410855359893571:=0
def tw15636296234561503556:=0
def tw73424990630959837:=0
def tw15604368951784626015:=0
def tw13109358467138791745:=0
def tw9880739246177743643:=0
def tw8696444612042039647:=0
def tw3067538196233760235:=0
def tw5995625381880201183:=0
def tw16055451320598382827:=0
def tw14965278790221092226:=0
def tw16972184847641856818:=0
def tw16596058738248700425:=0
def tw988869314876448394:=0
def tw1146007894637908036:=0
def tw1481035282316016842:=0
def tw17088358230303716479:=0
def tw12329226190914195412:=0
def tw11358001334337070015:=0
def tw8241048063969589615:=0
def tw15876340271445449675:=0
def tw10514974803467484836:=0
def tw110166735085783734:=0
def tw6595405591458229174:=0
def tw11455795622888447008:=0
def tw6697054297924857799:=0
def tw6980873129678649818:=0
def tw6406075095587425024:=0
def tw12649817633968619796:=0
def tw11753360033792890438:=0
def tw14321601947767518650:=0
def tw17142034258052856484:=0
def tw9551032672115913130:=0
def tw8620217556412991335:=0
def tw5965712836868347141:=0
def tw10077435099867634451:=0
def tw3974219036147116474:=0
def tw11040471051711252838:=0
def tw308365840492372961:=0
def tw11197985748823911828:=0
def tw13419830184017618158:=0
def tw14190143219219894481:=0
def tw4790234647405087257:=0
def tw13971322327932676487:=0
def tw11563221800409727707:=0
def tw14821559366423159719:=0
def tw10312181007754740207:=0
def tw4366839938734794435:=0
def tw16397561603528950734:=0
def tw11858424789334919189:=0
def tw3243505458294179828:=0
def tw10819985780419607945:=0
def tw6199395937933062832:=0
def tw63868208449222256:=0
def tw1506239352855906147:=0
def tw13958835596950237778:=0
def tw16814959006036340599:=0
def tw9207754028001577327:=0
def tw12219752826967406480:=0
def tw4830410561261353380:=0
def tw14916577157024340756:=0
def tw15709933116083340252:=0
def tw9932507507424433874:=0
def tw10912153193801223179:=0
def tw14112677475875220984:=0
def tw9238026219288152128:=0
def tw6990029392277233675:=0
def tw17992784568436020393:=0
def tw11805141957623507950:=0
def tw2110281913907007793:=0
def tw16560707069466795123:=0
def tw10257427804109488138:=0
def tw10990883040380187900:=0
def tw15237548859126616435:=0
def tw9122798312594617750:=0
def tw197105351347152459:=0
def tw7547779215072744428:=0
def tw16232266486487736651:=0
def tw10173349927927069569:=0
def tw18155704913154148054:=0
def tw7546155954433664987:=0
def tw6171473805168067170:=0
def tw16453194755262589435:=0
def tw17054560050531851126:=0
def tw5066951233495361532:=0
def tw10084252003241116477:=0
def tw3791502500584089687:=0
def tw2671074569204452699:=0
def tw12952913120049056622:=0
def tw13315446743144993793:=0
def tw14624571901980036620:=0
def tw4046771423962183076:=0
def tw2256968691263226797:=0
def tw238512872406731754:=0
def tw7252826232822800274:=0
def tw8692703238350991608:=0
def tw10137688569741133425:=0
def tw16016229192625243899:=0
def tw12685709526384938398:=0
def tw10076843637322256079:=0
def tw7083465220183964753:=0
def tw6198080926481211842:=0
def tw18166856221819282939:=0
def tw14529726312765610924:=0
def tw8572124935932980753:=0
def tw16570643731705500430:=0
def tw10291870133728422279:=0
def tw1262994082580944584:=0
def tw6592328579628114105:=0
def tw16167999930073002169:=0
def tw17838686969505619330:=0
def tw4852167200327381332:=0
def tw14469999396359151472:=0
def tw883347948520058905:=0
def tw10198388714423914658:=0
def tw10694051511287028325:=0
def tw11980258182956906726:=0
def tw18160739840158391058:=0
def tw16726670323678914753:=0
def tw10722343462293373674:=0
def tw15108140686933313071:=0
def tw13718846355823976070:=0
def tw11492498342060017288:=0
def tw16138009119977633252:=0
def tw10806086611566913148:=0
def tw10387810891972422825:=0
def tw12738386383022333978:=0
def tw6197901369906178168:=0
def tw1482399078843852864:=0
def tw2373692953329827865:=0
def tw13420807899148372020:=0
def tw2748012829400641823:=0
def tw15150029023864119507:=0
def tw16909932826306262039:=0
def tw13383548665810972162:=0
def tw15831186998850284256:=0
def tw10534505540881090143:=0
def tw13058660020742511554:=0
def tw18390425883418896666:=0
end PySem.W.Fast
open PySem PySem.W PyProof.Rows
set_option maxRecDepth 100000 in
set_option maxHeartbeats 0 in
theorem PySem.Challenge.cw_momentloom_k27_runs_by_calendars_end_holds : PySem.Challenge.rw_momentloom_k27_runs_by_calendars_end.Holds := by
  w_on; o_law; k_head; (case hw=>w_witness2)
  k_fill
  refine My.walk (l:=Ku) rfl rfl (fun w h Y=>PySem.W.kIn_of Y) ?F
  case F =>
    intro w mg fa h KX G hmg
    refine' My.all_mk KX G hmg ?a1 ?a2 ?a3 ?a4 ?a5 ?a6 ?a7 ?a8 ?a9 ?a10 ?a11 ?a12 ?a13 ?a14 ?a15 ?a16 ?a17 ?a18 ?a19 ?a20 ?a21 ?a22 ?a23 ?a24 ?a25 ?a26 ?a27 ?a28 ?a29 ?aCM ?a30 ?pCM ?nCMmachines ?aCS ?a31 ?a32 ?pCS ?nCSboxes ?nCSqueues ?nCSdrawn ?nCSsent ?aCD ?a33 ?a34 ?a35 ?a36 ?a37 ?pCD ?nCDmachine ?nCDhappening ?nCDstate ?nCDwritten ?nCDoutgoing ?nCDends ?nCDreckoned ?nCDqueued ?aCB ?a38 ?pCB ?nCBrecords ?nCBending ?nCBstates ?aCC ?a39 ?a40 ?a41 ?a42 ?a43 ?a44 ?a45 ?pCC ?nCCthings ?nCCrows ?aCW ?a46 ?a47 ?a48 ?a49 ?a50 ?a51 ?a52 ?a53 ?a54 ?pCW ?nCWthings ?nCWrows ?nCWspan ?nCWearliest ?aCN ?xCN ?aCG ?xCG ?aCU ?xCU ?aCY ?xCY ?aCP ?xCP ?aCL ?xCL ?aCF ?xCF ?enn ?egn ?egg ?csp ?crd ?cfc ?wro ?xfCN ?XN100 ?a100 ?xfCG ?XN101 ?a101 ?xfCU ?XN102 ?a102 ?xfCY ?XN103 ?a103 ?xfCP ?XN104 ?a104 ?xfCL ?XN105 ?a105 ?zlen ?zabs ?zisinstance ?zlist ?ztuple ?zstr ?zint ?zbool ?zrange ?zmax ?zdict ?zmin ?zenumerate
    case a1 | a2 | a3 | a4 | a5 | a6 | a7 | a8 | a9 | a10 | a11 | a12 | a13 | a14 | a15 | a16 | a17 | a18 | a19 | a20 | a21 | a22 | a23 | a24 | a25 | a26 | a27 | a28 | a29=>
      refine' My.dn_i ?a ?l ?c ?k
      case a=>k_is
      case l=>k_is
      case c=>k_is
      case k=>k_is
    case aCM | aCS | aCD | aCB | aCC | aCW | aCN | aCG | aCU | aCY | aCP | aCL | aCF=>k_is
    case a30 | a31 | a32 | a33 | a34 | a35 | a36 | a37 | a38 | a39 | a40 | a41 | a42 | a43 | a44 | a45 | a46 | a47 | a48 | a49 | a50 | a51 | a52 | a53 | a54=>
      refine' My.mn_i ?a ?i ?l ?c ?k
      case a=>k_is
      case i=>k_is
      case l=>k_is
      case c=>k_is
      case k=>k_is
    case pCM | pCS | pCD | pCB | pCC | pCW=>exact ⟨⟨by k_is,by k_is,by k_is,by k_is⟩,by k_is,by k_is⟩
    case nCMmachines | nCSboxes | nCSqueues | nCSdrawn | nCSsent | nCDmachine | nCDhappening | nCDstate | nCDwritten | nCDoutgoing | nCDends | nCDreckoned | nCDqueued | nCBrecords | nCBending | nCBstates | nCCthings | nCCrows | nCWthings | nCWrows | nCWspan | nCWearliest | zlen | zabs | zisinstance | zlist | ztuple | zstr | zint | zbool | zrange | zmax | zdict | zmin | zenumerate=>k_is
    case xCN | xCG | xCU | xCY | xCP | xCL | xCF=>k_exc
    case enn | egn | egg=>kts_exm
    case csp | crd | cfc | wro=>k_is
    case xfCN | xfCG | xfCU | xfCY | xfCP | xfCL=>kts_exm
    case XN100 | XN101 | XN102 | XN103 | XN104 | XN105=>exact ⟨by k_is,by k_is,by k_is,by k_is,by k_is,by k_is,by k_is⟩
    case a100 | a101 | a102 | a103 | a104 | a105=>
      refine' My.mn_i ?a ?i ?l ?c ?k
      case a=>k_is
      case i=>k_is
      case l=>k_is
      case c=>k_is
      case k=>k_is

