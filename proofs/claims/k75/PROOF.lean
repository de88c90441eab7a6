import PyProof.Rows.All
import Wide.All
import OpenK.AllK
import Wide.FinOn
import Lean
import PyProof.EqAt
import PyProof.EqKinds
import PyProof.TupleCall
import KE.KDictOf
import PyProof.AttrMissSeq
import PyProof.DictCopy
import PyProof.NeKinds
import KE.KTab
import PyProof.DictWalks
import PyProof.MinMaxWalk
import PyProof.MeetsDictList
import PyProof.DictFindH
import PyProof.DictTruth
import KE.KRevSl
import KE.KIntText
import PyProof.ExcAttrAll.ValueError
import PyProof.DictItems
import KE.KDictSum
import PyProof.Rows.SortStr
import PyProof.Rows.SortWalk
import PyProof.ExcArgsOwn
import PyProof.NsDelKeeps
import PyProof.EnumMake
import PyProof.EnumFor
import PyProof.EnumStmt
import PyProof.Rows.EnumRows
import PyProof.Rows.SortRev
import PyProof.StrBlockI
import PyProof.SliceStr2
import KE.KRevIter
import PyProof.StrBlockH
import PyProof.Rows.StrNews
import PyProof.StrLawsReplace
import PyProof.WalkInts
import PyProof.ConsumeWalk
import PyProof.ConsumeS
import PyProof.FString5
import PyProof.ListNew
import PyProof.CollectIter
import PyProof.Rows.CatFin
import PySem.Challenge.RW_momentloom_k75_lines_of_no_model
open List renaming length_map->aa,length_append->af,mem_cons->ar,mem_singleton->au,mem_cons_of_mem->az,mem_cons_self->aA,length_cons->aG,size_toArray->aI,replicate->aJ,getElem?_eq_getElem->aL,mem_append->aN,mem_append_right->aP,append_assoc->aS,getElem?_eq_some_iff->bg,append_nil->bq,mem_of_getElem?->bw,map_append->bA,length_take->bP,map_cons->bY,getElem?_map->cb,mem_map->cu,take_length->cD,getElem?_append_right->cG,mem_append_left->cS,length_replicate->cU,take_of_length_le->c7,replicate_succ->da,getElem?_append_left->dw,length_pos_iff->dH,nodup_append->dM,mem_of_mem_take->dN,take_succ->dS,lookup->dU,length_drop->ee,lookup_cons->eg,getElem_mem->ei,take_append_of_le_length->eG,getElem?_take_of_lt->eK,nodup_cons->eM,sum_cons->fX,getElem?_replicate->gq,reverse_cons->gv,mem_map_of_mem->gE,append_eq_nil_iff->gI,mem_flatten->gN,take_append->gO,mem_filterMap->gR,getElem?_eq_none->gW,mem_of_mem_drop->ia,length_reverse->iz,all_eq_true->iA,length->iK,foldl_cons->iZ,take_append_drop->i6,take_sublist->jc,set->jx,any_cons->jL,find?_cons->jV,length_nil->jW,nil_append->jY,range->jZ,getElem?_set_self->kB,flatten_cons->kD,replicate_append_replicate->kU,length_singleton->kZ,drop_length->lC,cons_append->lD,sum_append->mG,take_succ_cons->mY,getElem?_drop->oq,mem_replicate->oC,flatMap_cons->pk,map_take->pz,mem_reverse->p8,mem_flatMap->p9,nil_sublist->qa,of_mem_zip->qw,mem_range->rm,getElem?_set_ne->rn,filterMap_cons->rV,not_mem_nil->uE,mem_filter->vI,drop_left->xf,head?->xi,drop_eq_getElem_cons->xV,map_drop->yp,getElem?_cons_succ->zk,map_nil->zw,head?_eq_getElem?->zA,dropLast_concat->A3,map_eq_nil_iff->BW,flatMap_append->B5,map_congr_left->B6,takeWhile_cons->B8,push_toArray->C3,ext_getElem?->Dw,take_add_one->Ej,drop_zero->GC,take_left->Hy,drop_drop->HA,nodup_nil->HF,all_cons->Ih,map_map->Jl
open PySem renaming wpAny_bind->ae,Value->ag,Shared->ah,Addr->ak,wpAny_pure->av,sizeLine->aw,model->aM,Program->aQ,wpAny->aY,starEach->bB,boot_len->bE,wpAny_holding->bH,Around->bQ,mainGlobals->bS,World->bT,wpAny_standAt->bU,wpAny_mono->cE,FuncData->cF,Expr->cI,Paired->cL,Heap->cP,Stmt->di,compareOp->dA,eval->dE,intText?->dI,wpAny_truthy_bool->dO,wpAny_passesOwn->eA,mem_of_lookup->eB,bootBuiltins->eC,wpAny_of_eq->eO,backTo->eR,wpAny_execs_nil->fG,sysModules->gk,foldedSetIterable->gG,wpAny_newObj_type->gH,cLine->ic,wpAny_loadPart'->iy,attributeBase->iF,wpAny_field->i5,letOwnedTupleGo->jm,noteFrame->jw,binaryOp->jG,keywordEach->jH,checkBuiltinCall->jX,callWith->ky,assignEach->kG,wpAny_call->kJ,wpAny_Call_Name_kw->kK,Scope->kO,NameKind->lF,reprText->lI,Model->mB,swapsWith->mI,rawInt->mJ,Result->mO,typeIs_str->mQ,onTheHeap->mV,behindInMarks->nF,holding->nG,comprehension->nI,ExceptHandler->nJ,sliceBounds->nR,codeAny_call_builtin->nX,isTrue->oE,theTreesLotGoes->oK,Keyword->oW,Builtin->oZ,assign->pF,backToKw->pI,wpAny_setField->pK,standAt->qc,sizeLine_eq->qf,codeAny->qg,valueAt->qh,wpAny_dictEntries->qi,notedBy->qj,wpAny_point->qk,strIterType->qm,wpAny_loadPart_at->qo,wpAny_attempt->qC,getItem->rH,call_meets->rJ,callerA->rM,wpAny_specialOf->rW,leftWithCleanup->rX,pythonCodeMadeTheCall->sy,call->sX,wpAny_loadPart->tf,unbindBehindTheSuite->tE,BindsTo->tN,leaving->tO,numSeenOf->tQ,Ctx->ud,arm_eval_Call_Name'->ug,typeLookup->uN,closureFor->uU,execs->vL,wpAny_assign_Name->vP,wpAny_pyIter_list->vQ,bindArgs->vR,plainObj_wpAny_Assign_Attribute->wy,PassesOwn->xk,getMethod->xp,IsPart->xx,setFlight->xE,DictEntry->xG,callGetattribute->xQ,wpAny_comp_letGo->xU,subscripted->ym,Within->yt,getAttrByItsOwn->yP,spliced->zq,wpAny_richCompare_same_room->zx,relabel->zy,builtinsNs->zB,Operator->zF,recursionLimit->zK,wpAny_newFunctionEnv_cells->zQ,PlainAttrs->zV,compPost->zY,wpAny_bindName->Ab,markTheRefusal->Ac,wpAny_rule->Ad,isInstance->Ag,boundAndCalled->Ah,plainId_quiet->Bu,Comprehension->BP,tupleKind->B9,CmpOp->Ca,bindL->Cb,bindC->Cc,cellsFrom->Cd,pyNext->Ct,wpAny_pyNext_list_item->Cu,getAttr->Cz,codeAny_mono->CF,seqIndex_neg->CK,typeOf->CQ,wpAny_mkText->Dl,wpAny_isTrue_Compare1->EC,wpAny_pyNext_list_end->ED,exec_Assign_Name_used->EF,builtinLookup_eq_fast->EG,GenState->EJ,seqIndex_of->EX,atKey->E4,wpAny_newFunctionEnv->Fd,getAttr?->Fq,wpAny_pyIter_revIter->Fv,stripped->Ge,wpAny_raiseNew_none->Gv,wpAny_isSubtype_exc->Gz,wpAny_Name->HL,truthy->HM,pyIter->HS,wpAny_entryPlaceOf->Il,DefRec->Iz,hookBefore->IB,call_reversed_list->IE,operate->Jc,slot_list_getitem->Jd,wpAny_frameOf_fun->Jf,newList->Jg,callAny->Jh,classAt->Jj
open PySem.W renaming Frag->ai,findIn->cf,nsIn->cN,mg_none_of->cX,keepIn->dY,InstAt->eE,looks_findIn->eP,emptyDict->eY,fnOf->eZ,mg_of->fC,instObj->gX,hideAll->gY,clsIn->iP,lookIn->j4,hasDictIn->j5,isFn->j6,codeIn->j8,notCls->j9,callWith_K->mP,kitOne->mW,mroIn->oH,plainGet->oV,cellsFrom_some->pJ,findObj->p0,methodCall_KW->qb,hideAll_none->qr,exmOne->qD,hideAll_get->qZ,plainGet_of->q0,looks_clsIn->q8,looks_mroIn->ra,excIn->rq,of_hideAll->rC,looks_find->rN,methodObj->rZ,specialIn->si,handed_on->sA,handedIn->sY,any_some->sZ,takerIn->tX,makesIn->tY,takesIn->tZ,kitAny->vg,Looks->vZ,funFrames_hide->xO,findObj_own->zr,codeRec_of->zP,plainOver->AF,set_plain->AG,class_get->AU,exm_one->Cf,OpenLaw->Cg,KitX->Fs,pre_splitW->Ii
open Nat renaming le_refl->ay,zero_le->aU,lt_of_lt_of_le->bc,ne_of_lt->bz,le_trans->bN,lt_irrefl->d8,add_assoc->fY,mul_le_mul_right->gp,min_eq_left->gA,succ_le_succ->gQ,le_succ->ib,sub_self->iV,le_of_lt->kE,succ_mul->kL,lt_succ_self->lE,ne_of_gt->nM,lt_or_ge->nV,toDigits->nZ,zero_add->oa,lt_trans->t7,lt_succ_of_lt->t9,isDigit_of_mem_toDigits->wY,add_sub_cancel_left->zz,le_of_eq->zI,sub_zero->zZ,lt_of_succ_lt_succ->z6,add_sub_add_right->Bc,log2_lt->Bt,add_sub_cancel->C5,le_add_right->Ga
open PySem.Heap renaming get?_push_of_some->aD,lt_size->ba,get?_push_size->bV,get?_update_other->cZ,get?_update_self->fz,size_push->kC,get?_none_of_le->lN,SameBut->nC,MadeExc->nK,get?_update_ne->BM,MadeExcOf->Gw
open List.cons renaming inj->aV
open Bool renaming false_ne_true->aX,and_eq_true->cY,and_eq_true_iff->gb,and_false->gT,not_eq_true'->je,false_eq_true->j0,false_and->oi,eq_iff_iff->qv,or_true->tP,noConfusion->um,eq_false_iff->Do,or_eq_true->FT,or_false->Ic,true_and->Iq,not_true->IC
open PySem.Str renaming ofString->bj,ext'->iI,join->lY,empty->zu
open Option.some renaming inj->bC
open PySem.F renaming plainAttrs_str->bK,plainAttrs_list->bZ,slot_list_append->cB,type_list_append->cC,slot_str_join->fu,type_str_join->fv,slot_str_lstrip->gi,type_str_lstrip->gj,excAttr_ValueError->ig,slot_str_split->kh,type_str_split->kj,slot_str_startswith->me,type_str_startswith->mf,args_str_split_2->uj,entry_str_split->vd,args_tuple_add_2->vS,slot_str_split->vX,entry_tuple_add->wG,slot_tuple_add->xu,entry_bexc_ga->xR,slot_list_pop->yn,type_list_pop->yo,called_int->Bz
open PySem.Txt renaming join->cq,slice->eV,split->hZ,lstripChars->wg,slice_le->Ai
open Array renaming length_toList->cJ,toList_inj->eT,getElem?_eq_some_iff->gP,append_assoc->jU,size_append->kz,eq_empty_of_size_eq_zero->k8,toArray_toList->lJ,getElem?_eq_getElem->oO,getElem?_toList->qz,toList_extract->rj,toList_append->A0,toList->HP
open False renaming elim->cQ
open PySem.PassesOwn renaming never->c8
open Option renaming map_eq_some_iff->dy,isSome_iff_exists->oR,bind_eq_some_iff->pq,bind_some->pw,not_isSome_iff_eq_none->uk,getD_none->Ce,map->Jk
open Int renaming toNat_natCast->eH,emod_lt_of_pos->eS,emod_nonneg->gz,toNat->Gd
open PyProof.Rows renaming callWith_type1->eI,slot_tuple_getitem->jK,slice_from_eq->lB,envOfC->qx,toString_length_le->rg,AllBare->rD,signs_ofString->sO,digit_range->tU,split_pos->uB,subscriptTail->Bq,subscriptTail_builtinR->CL,IntsAre->CV,Subscript_->Ia
open Ne renaming symm->eW
open List.Pairwise renaming sublist->ff
open PySem.Builtin.Int renaming intBits->hV
open PySem.Builtin.List renaming listExtendWith->iH,listTooLong->mD,listSameRef->tR,listItems->uw
open PySem.Paired renaming mono->iJ,length->kW
open Decidable renaming not_not->iT
open PySem.Obj renaming data_mapFields->iU,isFreed_of_fields->lu,mapFields->lO,mapSeq->oJ,cls_mapFields->EE
open PySem.Builtin.Slice renaming slicePlaces->iX,sliceAdjust->lG,sliceApplied->sk
open PySem.Builtin.Tuple renaming tupleExact->jd
open List.Sublist renaming refl->jE,append->we
open PySem.W.Looks renaming here->kY
open PySem.EntryCells renaming newEntry->k7
open PySem.Calls renaming evalArgs_plain->lH,spliced_cons->nO,spliced_nil->oQ,Name_function_global->vM,callWith_builtin->yB
open PySem.NumText renaming step->lZ,AllDigits->A1
open PySem.W.WData renaming weight->mU,layableAll->uc,weightAll->uV
open PySem.Code renaming quiet_builtin->ou,isFrame->zv
open Char renaming toNat->qp
open PySem.Around renaming under_plainId->qR,under->yk
open PySem.Builtin.ObjectAttr renaming bindTo->rb,storeInDict->EH
open PySem.Builtin.Str renaming subAt->rh
open PySem.Sem renaming wp_mono->rL,wp_bind'->uf,wp->Da,wp_runValue->Gu
open PyProof.Rows.KTD renaming inKeys->sP,inKeys->xK,text_of_look->Fi
open PySem.SeqAt.RcNeAt renaming lists_lengths->sV
open PySem.Builtin.Dict renaming dictSlotArgs->tD,samePairs->uq
open PySem.W.KIN renaming call_text->vJ,signs_num->vK,val_back->wc
open PySem.SeqAt.EqAt renaming int_str->yi,str_int->yj
open PySem.Heap.Ns1 renaming of_empty->zJ
open PySem.StrLaws renaming join_split->Am,split_free->An
open PyProof.Rows.IsTup renaming new->CJ
open Eq renaming symm->Fe
open PySem.Walks renaming strAscii->Ft,strWide->Gx
open PySem.Value renaming isStrOf->Gf,isInt->Ja
open Std.Legacy.Range renaming forIn_eq_forIn_range'->Gq,size->Gr
open PySem.Challenge renaming rw_momentloom_k75_lines_of_no_model->I9
open PySem.Heap.IsSliceOf renaming new->Jb
open PySem.W.WShape renaming has->Je
open PySem.Heap.UpToSlots renaming of_keeps->Ji
set_option Elab.async false
set_option linter.all false
set_option maxRecDepth 100000
namespace L2
open PySem PySem.Spec PyProof.Rows
abbrev Key:=Sum Int Str
def wj:Key->ag->Bool
 | .inl k,v=>Ja k v
 | .inr x,v=>Gf x v
def keyH (w:bT):Key->Int
 | .inl k=>hashInt k
 | .inr x=>hashStr w x
theorem g9:∀ {k:Key} {v:ag},wj k v=true->(∃ i t,k=Sum.inl i/\v=Value.int i t)\/(∃ x t,k=Sum.inr x/\v=Value.str x t)
 | .inl i,v,h=>by
  obtain ⟨t,e⟩:=Value.isInt_shape (k:=i) (v:=v) h;exact .inl ⟨i,t,rfl,e⟩
 | .inr x,v,h=>by
  obtain ⟨t,e⟩:=Value.isStrOf_shape (x:=x) (v:=v) h;exact .inr ⟨x,t,rfl,e⟩
theorem Bh (i:Int) (t:Tok):wj (.inl i) (.int i t)=true:=by simp [wj,Ja]
theorem Bi (x:Str) (t:Tok):wj (.inr x) (.str x t)=true:=by simp [wj,Gf]
theorem HG (a b:Int):decide ((Sum.inl a:Key)=Sum.inl b)=(a == b):=by
 by_cases e:a=b
 ·subst e; simp
 ·have h:¬ (Sum.inl a:Key)=Sum.inl b:=fun q=>e (Sum.inl.inj q);rw [decide_eq_false h];exact (beq_eq_false_iff_ne.mpr e).symm
theorem HH (a b:Str):decide ((Sum.inr a:Key)=Sum.inr b)=decide (a=b):=by
 by_cases e:a=b
 ·subst e; simp
 ·have h:¬ (Sum.inr a:Key)=Sum.inr b:=fun q=>e (Sum.inr.inj q);rw [decide_eq_false h,decide_eq_false e]
theorem HI (a:Int) (b:Str):decide ((Sum.inl a:Key)=Sum.inr b)=false:=decide_eq_false (fun q=>nomatch q)
theorem HJ (a:Str) (b:Int):decide ((Sum.inr a:Key)=Sum.inl b)=false:=decide_eq_false (fun q=>nomatch q)
def iE (prog:aQ) (w:bT):PySem.KeyKind prog w Key where
 is:=wj
 hash:=keyH w
 inj:=fun v a b ha hb=>by
  rcases g9 ha with ⟨i,t,rfl,rfl⟩ | ⟨x,t,rfl,rfl⟩
  ·rcases g9 hb with ⟨j,u,rfl,e⟩ | ⟨y,u,rfl,e⟩
   ·injection e with e1 _; rw [e1]
   ·exact nomatch e
  ·rcases g9 hb with ⟨j,u,rfl,e⟩ | ⟨y,u,rfl,e⟩
   ·exact nomatch e
   ·injection e with e1 _; rw [e1]
 byValue:=fun k v h=>by
  rcases g9 h with ⟨i,t,rfl,rfl⟩ | ⟨x,t,rfl,rfl⟩ <;> rfl
 pyHash:=fun hv h=>by
  rcases g9 hv with ⟨i,t,rfl,rfl⟩ | ⟨x,t,rfl,rfl⟩
  ·exact wpAny_pyHash_int h
  ·exact wpAny_pyHash_str h
 eqBool:=fun hu hv h=>by
  rcases g9 hu with ⟨i,t,rfl,rfl⟩ | ⟨x,t,rfl,rfl⟩
  ·rcases g9 hv with ⟨j,u,rfl,rfl⟩ | ⟨y,u,rfl,rfl⟩
   ·rw [HG] at h; exact wpAny_eqBool_int h
   ·rw [HI] at h; exact yi i t y u _ _ _ _ h
  ·rcases g9 hv with ⟨j,u,rfl,rfl⟩ | ⟨y,u,rfl,rfl⟩
   ·rw [HJ] at h; exact yj x t j u _ _ _ _ h
   ·rw [HH] at h; exact wpAny_eqBool_str h
 «strs»:=fun k x t v h=>by
  rcases g9 h with ⟨i,u,rfl,e⟩ | ⟨y,u,rfl,e⟩
  ·exact nomatch e
  ·injection e with e1 _;subst e1
   cases v <;> rfl
theorem yq (prog:aQ) (w:bT) (i:Int) (t:Tok):(iE prog w).is (.inl i) (.int i t)=true:=Bh i t
theorem yr (prog:aQ) (w:bT) (x:Str) (t:Tok):(iE prog w).is (.inr x) (.str x t)=true:=Bi x t
set_option genSizeOf false
inductive V where
 | non | bl (b:Bool) | int (i:Int) | str (x:Str) | byt (b:Array UInt8) | flt (b:UInt64) | ref (a:ak) | ty (n:String)
 deriving DecidableEq
def RelV:V->ag->Prop
 | .non,u=>u=Value.none
 | .bl b,u=>u=Value.bool b
 | .int i,u=>∃ t,u=Value.int i t
 | .str x,u=>∃ t,u=Value.str x t
 | .byt b,u=>∃ t,u=Value.bytes b t
 | .flt b,u=>∃ t,u=Value.float b t
 | .ref a,u=>u=Value.ref a
 | .ty n,u=>u=Value.type n
abbrev dv:List V->List ag->Prop:=cL RelV
theorem dv.length {xs:List V} {us:List ag} (r:dv xs us):xs.length=us.length:=kW r
theorem dv.get:∀ {xs:List V} {us:List ag} {i:Nat} {x:V},dv xs us->xs[i]?=some x->∃ u,us[i]?=some u/\RelV x u
 | _,_,_,_,.nil,e=>by simp at e
 | _,_,0,_,.cons r _,e=>by simp at e; subst e; exact ⟨_,rfl,r⟩
 | _,_,i + 1,x,.cons _ t,e=>by
  obtain ⟨u,h1,h2⟩:=dv.get (i:=i) (x:=x) t (by simpa using e);exact ⟨u,by simpa using h1,h2⟩
theorem dv.set {x:V} {u:ag} (r:RelV x u):∀ {xs:List V} {us:List ag} (i:Nat),dv xs us->dv (xs.set i x) (us.set i u)
 | _,_,_,.nil=>.nil
 | _,_,0,.cons _ t=>.cons r t
 | _,_,i + 1,.cons q t=>.cons q (dv.set r i t)
theorem dv.append:∀ {xs ys:List V} {us ws:List ag},dv xs us->dv ys ws->dv (xs++ys) (us++ws)
 | _,_,_,_,.nil,s=>s
 | _,_,_,_,.cons r t,s=>.cons r (dv.append t s)
theorem dv.take:∀ {xs:List V} {us:List ag} (n:Nat),dv xs us->dv (xs.take n) (us.take n)
 | _,_,0,_=>.nil
 | _,_,_ + 1,.nil=>.nil
 | _,_,n + 1,.cons r t=>.cons r (dv.take n t)
theorem dv.drop:∀ {xs:List V} {us:List ag} (n:Nat),dv xs us->dv (xs.drop n) (us.drop n)
 | _,_,0,r=>r
 | _,_,_ + 1,.nil=>.nil
 | _,_,n + 1,.cons _ t=>dv.drop n t
def rY:Option V->Option ag->Prop
 | some v,some u=>RelV v u
 | none,none=>True
 | _,_=>False
def KV {κ:Type}:List (κ×V)->List (κ×ag)->Prop:=cL fun (p:κ×V) (q:κ×ag)=>p.1=q.1/\RelV p.2 q.2
def kV:Key->V
 | .inl i=>.int i
 | .inr x=>.str x
inductive HO where
 /-- a list -/
 | lst (xs:List V)
 /-- a tuple (never changes) -/
 | tup (xs:List V)
 /-- a dict whose keys are ints and texts; one whose keys are tuples of ints and texts (the empty one is both) -/
 | dK (kvs:List (Key×V)) | dT (kvs:List (List Key×V))
 /-- a set of ints: its members, its size -/
 | set (S:Int->Bool) (n:Nat)
 /-- an instance of the class at C, its dict at dx, its attributes -/
 | ins (C dx:ak) (fs:List (Str×V))
 /-- the dict of the instance at x -/
 | own (x:ak)
 /-- the dict of an exception -/
 | xd (fs:List (Str×V))
 /-- a bound method, f of x -/
 | met (f x:ak)
 /-- a range object lo, lo + 1, .. below hi -/
 | rng (lo hi:Int)
 /-- a thing that is known to the object (the script; a dict while a loop walks it): read, never written while it is so -/
 | frz (o:Obj) (u:HO)
 /-- a code object's table -/
 | tbl (ps:Array ag)
 /-- any other thing, by what is true of its one object (a def of one's own: SetO a S n := HO.ext fun h => ..) -/
 | ext (φ:cP->Prop)
abbrev Hp:=ak->Option HO
def upd (H:Hp) (a:ak) (o:HO):Hp:=fun b=>if b=a then some o else H b
theorem ao {H:Hp} {a:ak} {o:HO}:upd H a o a=some o:=by unfold upd; rw [if_pos rfl]
theorem aT {H:Hp} {a b:ak} {o:HO} (h:b≠a):upd H a o b=H b:=by unfold upd; rw [if_neg h]
theorem Cj {H:Hp} {a b:ak} {o u:HO} (h:H a=some o) (h':H b=some u) (d:o≠u):a≠b:=by
 intro e; subst e; rw [h] at h'; exact d (bC h')
theorem bF {H:Hp} {a b:ak} {o:HO} (h:H a=some o) (h':H b=none):a≠b:=by
 intro e; subst e; rw [h] at h'; cases h'
section
variable (P:aQ) (w:bT)
def gB (H:Hp) (h:cP) (a:ak):HO->Prop
 | .lst xs=>xs.length<=aw/\∃ (its:List ag) (n:Nat),dv xs its/\h.get? a=some {cls:=.type "list",data:=.seq its.toArray n}
 | .tup xs=>xs.length<=aw/\∃ its:List ag,dv xs its/\IsTup h a its.toArray
 | .dK kvs=>kvs.length<=aw/\(a == gk)=false/\∃ vs,KV kvs vs/\h.DictOf (iE P w) a vs
 | .dT kvs=>kvs.length<=aw/\(a == gk)=false/\∃ xs:List (List Key×ak×ag),
   cL (fun (p:List Key×V) (q:List Key×ak×ag)=>p.1=q.1/\H q.2.1=some (.tup (p.1.map kV))/\RelV p.2 q.2.2) kvs xs /\
   ∃ o es ep,h.get? a=some o/\o.ExactDict/\o.data=.dict es ep/\es.toList=xs.map (entryOfKey (B9 (iE P w)))/\(xs.map (·.1)).Nodup
 | .set S n=>h.SetOf (intKind P w) a S n
 | .ins C dx fs=>H dx=some (.own a)/\fs.length<=1000/\dx≠a/\h.get? a=some (gX C dx) /\
   ∃ mA,h.Ns1 dx mA/\(∀ f,rY (fs.lookup f) (mA f))/\yt mA (fs.map (·.1))
 | .own _=>∃ o,h.get? a=some o
 | .xd fs=>∃ mA,h.Ns1 a mA/\∀ f,rY (fs.lookup f) (mA f)
 | .rng lo hi=>∃ t u v,h.get? a=some {cls:=.type "range",data:=.fields #[.int lo t,.int hi u,.int 1 v]}
 | .frz o u=>h.get? a=some o/\gB H h a u
 | .tbl ps=>h.get? a=some {cls:=.none,data:=.fields ps}
 | .met f x=>h.get? a=some (rZ (.ref f) (.ref x))
 | .ext φ=>φ h/\(∃ o,h.get? a=some o)/\∀ h1 h2:cP,φ h1->(∀ o,h1.get? a=some o->h2.get? a=some o)->φ h2
def HOk (H:Hp) (h:cP):Prop:=∀ a o,H a=some o->gB P w H h a o
end
section
variable {P:aQ} {w:bT} {H H':Hp} {h h':cP} {a:ak} {o:HO}
theorem gB.lt (x:gB P w H h a o):a < h.objs.size:=by
 cases o with
 | lst xs=>obtain ⟨_,_,_,_,e⟩:=x; exact ba e
 | tup xs=>obtain ⟨_,_,_,p⟩:=x; exact p.lt
 | dK kvs=>obtain ⟨_,_,_,_,o,_,_,e,_⟩:=x; exact ba e
 | dT kvs=>obtain ⟨_,_,_,_,o,_,_,e,_⟩:=x; exact ba e
 | set S n=>obtain ⟨o,_,_,_,e,_⟩:=x; exact ba e
 | ins C dx fs=>obtain ⟨_,_,_,e,_⟩:=x; exact ba e
 | own y=>obtain ⟨_,e⟩:=x; exact ba e
 | xd fs=>obtain ⟨_,⟨_,_,_,e,_⟩,_⟩:=x; exact ba e
 | rng lo hi=>obtain ⟨_,_,_,e⟩:=x; exact ba e
 | frz ob u=>obtain ⟨e,_⟩:=x; exact ba e
 | tbl ps=>exact ba (show h.get? a=some _ from x)
 | met f y=>exact ba (show h.get? a=some _ from x)
 | ext φ=>obtain ⟨_,⟨_,e⟩,_⟩:=x; exact ba e
theorem Paired.mapP {α β:Type} {F G:α->β->Prop}:∀ {l₁:List α} {l₂:List β},cL F l₁ l₂->(∀ a b,F a b->G a b)->cL G l₁ l₂
 | _,_,.nil,_=>.nil
 | _,_,.cons r t,f=>.cons (f _ _ r) (Paired.mapP t f)
theorem gB.stay (x:gB P w H h a o) (k:∀ b u,(b=a\/H b=some (.own a))->h.get? b=some u->h'.get? b=some u)
  (ho:∀ b,H b=some (.own a)->H' b=some (.own a)) (ht:∀ b xs,H b=some (.tup xs)->H' b=some (.tup xs)):gB P w H' h' a o:=by
 induction o with
 | lst xs=>obtain ⟨z,its,n,r,e⟩:=x; exact ⟨z,its,n,r,k _ _ (.inl rfl) e⟩
 | tup xs=>obtain ⟨z,its,r,ob,e,c⟩:=x; exact ⟨z,its,r,ob,k _ _ (.inl rfl) e,c⟩
 | dK kvs=>obtain ⟨z,y,vs,r,ob,es,ep,e,c⟩:=x; exact ⟨z,y,vs,r,ob,es,ep,k _ _ (.inl rfl) e,c⟩
 | dT kvs =>
  obtain ⟨z,y,xs,r,ob,es,ep,e,c⟩:=x;exact ⟨z,y,xs,Paired.mapP r fun p q z=>⟨z.1,ht _ _ z.2.1,z.2.2⟩,ob,es,ep,k _ _ (.inl rfl) e,c⟩
 | set S n=>obtain ⟨ob,es,ep,t,e,c⟩:=x; exact ⟨ob,es,ep,t,k _ _ (.inl rfl) e,c⟩
 | ins C dx fs =>
  obtain ⟨d,z,ne,e,mA,⟨od,es,ep,e2,c⟩,r⟩:=x;exact ⟨ho _ d,z,ne,k _ _ (.inl rfl) e,mA,⟨od,es,ep,k _ _ (.inr d) e2,c⟩,r⟩
 | own y=>obtain ⟨ob,e⟩:=x; exact ⟨ob,k _ _ (.inl rfl) e⟩
 | xd fs=>obtain ⟨mA,⟨od,es,ep,e,c⟩,r⟩:=x; exact ⟨mA,⟨od,es,ep,k _ _ (.inl rfl) e,c⟩,r⟩
 | rng lo hi=>obtain ⟨t,u,v,e⟩:=x; exact ⟨t,u,v,k _ _ (.inl rfl) e⟩
 | frz ob u ih=>obtain ⟨e,q⟩:=x; exact ⟨k _ _ (.inl rfl) e,ih q⟩
 | tbl ps =>
  have e:h.get? a=some {cls:=.none,data:=.fields ps}:=x;show h'.get? a=some {cls:=.none,data:=.fields ps};exact k a _ (.inl rfl) e
 | met f y =>
  have e:h.get? a=some (rZ (.ref f) (.ref y)):=x;show h'.get? a=some (rZ (.ref f) (.ref y));exact k a _ (.inl rfl) e
 | ext φ=>obtain ⟨p,⟨o,e⟩,st⟩:=x; exact ⟨st _ _ p fun o q=>k _ _ (.inl rfl) q,⟨o,k _ _ (.inl rfl) e⟩,st⟩
theorem HOk.lt (x:HOk P w H h) (e:H a=some o):a < h.objs.size:=(x a o e).lt
theorem HOk.fresh (x:HOk P w H h) (e:h.objs.size<=a):H a=none:=by
 cases q:H a with
 | none=>rfl
 | some u=>exact absurd (bc (x.lt q) e) (d8 _)
theorem HOk.kept (x:HOk P w H h) (k:∀ b u,h.get? b=some u->h'.get? b=some u):HOk P w H h':=fun a o e =>
 (x a o e).stay (fun b u _ q=>k b u q) (fun _ q=>q) fun _ _ q=>q
theorem HOk.laid (x:HOk P w H h) (k:∀ b u,h.get? b=some u->h'.get? b=some u) (hp:h.objs.size<=a) (new:gB P w (upd H a o) h' a o):HOk P w (upd H a o) h':=fun b u e=>by
 have hn:=x.fresh hp
 by_cases hb:b=a
 ·subst hb; rw [ao] at e; cases e; exact new
 ·rw [aT hb] at e;exact (x b u e).stay (fun c v _ q=>k c v q) (fun c q=>by rw [aT (bF q hn)]; exact q) fun c xs q=>by rw [aT (bF q hn)]; exact q
end
def Rd (H:Hp) (a:ak) (u:HO):Prop:=H a=some u\/∃ o,H a=some (.frz o u)
theorem Rd.ok {P:aQ} {w:bT} {H:Hp} {h:cP} {a:ak} {u:HO} (r:Rd H a u) (x:HOk P w H h):gB P w H h a u:=by
 rcases r with r | ⟨o,r⟩
 ·exact x a u r
 ·obtain ⟨_,q⟩:=x a _ r;exact q
def Mut:Option HO->Prop
 | some (.lst _)=>True
 | some (.dK _)=>True
 | some (.dT _)=>True
 | some (.set _ _)=>True
 | some (.ins _ _ _)=>True
 | some (.ext _)=>True
 | _=>False
section
variable {P:aQ} {w:bT} {H:Hp} {h h':cP} {x e:ak} {o':HO}
theorem HOk.write (ok:HOk P w H h) (mu:Mut (H x)) (he:e=x\/H e=some (.own x)) (k:∀ b u,b≠e->h.get? b=some u->h'.get? b=some u) (heo:∃ u,h'.get? e=some u)
  (new:gB P w (upd H x o') h' x o'):HOk P w (upd H x o') h':=fun b u q=>by
 have nown:∀ c y,H c=some (.own y)->c≠x:=fun c y r z=>by subst z; rw [r] at mu; exact mu
 have ntup:∀ c xs,H c=some (.tup xs)->c≠x:=fun c xs r z=>by subst z; rw [r] at mu; exact mu
 by_cases hb:b=x
 ·subst hb; rw [ao] at q; cases q; exact new
 ·rw [aT hb] at q
  by_cases hbe:b=e
  ·have q':H b=some (.own x):=by
    rcases he with z | z
    ·exact absurd (hbe.trans z) hb
    ·rw [hbe]; exact z
   rw [q] at q'; cases q';obtain ⟨v,hv⟩:=heo;exact ⟨v,by rw [hbe]; exact hv⟩
  ·refine (ok b u q).stay (fun c v hc r=>k c v ?_ r) (fun c r=>by rw [aT (nown c b r)]; exact r) fun c xs r=>by rw [aT (ntup c xs r)]; exact r
   rcases hc with rfl | hc
   ·exact hbe
   ·rintro rfl
    rcases he with z | z
    ·exact nown c b hc z
    ·rw [hc] at z; cases z; exact hb rfl
end
structure Un (fs ex:List ak) (H H':Hp) (h h':cP):Prop where
 keep:∀ b o,h.get? b=some o->H b=none->b∉fs->b∉ex->h'.get? b=some o
 slot:∀ b o,h.get? b=some o->H b=none->b∈fs->b∉ex->∃ sl,h'.get? b=some {o with slots:=sl}
 free:∀ b o,h.get? b=some o->H b=none->b∉ex->H' b=none
 there:∀ b o,h.get? b=some o->b∉ex->∃ o',h'.get? b=some o'
 tups:∀ b xs,H b=some (.tup xs)->H' b=some (.tup xs)
 frzs:∀ b o u,H b=some (.frz o u)->H' b=some (.frz o u)
 tbls:∀ b ps,H b=some (.tbl ps)->∃ more,H' b=some (.tbl (ps++more))
section
variable {fs fs' ex ex':List ak} {H H1 H2:Hp} {h h1 h2 h':cP} {a x e:ak} {o:HO}
theorem Un.any (u:Un fs ex H H1 h h1) {b:ak} {ob:Obj} (q:h.get? b=some ob) (n:H b=none) (hx:b∉ex):∃ sl,h1.get? b=some {ob with slots:=sl}:=by
 by_cases hb:b∈fs
 ·exact u.slot b ob q n hb hx
 ·exact ⟨ob.slots,u.keep b ob q n hb hx⟩
theorem Un.kept (k:∀ b u,h.get? b=some u->h'.get? b=some u):Un fs ex H H h h':=
 ⟨fun b ob q _ _ _=>k b ob q,fun b ob q _ _ _=>⟨ob.slots,k b ob q⟩,fun _ _ _ n _=>n,fun b ob q _=>⟨ob,k b ob q⟩,fun _ _ q=>q,fun _ _ _ q=>q,fun _ ps q=>⟨#[],by rw [q]; simp⟩⟩
theorem Un.refl:Un fs ex H H h h:=Un.kept fun _ _ q=>q
theorem Un.laid (k:∀ b u,h.get? b=some u->h'.get? b=some u) (hp:h.objs.size<=a) (hn:H a=none):Un fs ex H (upd H a o) h h' where
 keep:=fun b u q _ _ _=>k b u q
 slot:=fun b u q _ _ _=>⟨u.slots,k b u q⟩
 free:=fun b u q n _=>by rw [aT (bz (bc (ba q) hp))]; exact n
 there:=fun b u q _=>⟨u,k b u q⟩
 tups:=fun b xs q=>by rw [aT (bF q hn)]; exact q
 frzs:=fun b u xs q=>by rw [aT (bF q hn)]; exact q
 tbls:=fun b ps q=>⟨#[],by rw [aT (bF q hn),q]; simp⟩
theorem Un.write (mu:Mut (H x)) (he:e=x\/H e=some (.own x)) (k:∀ b u,b≠e->h.get? b=some u->h'.get? b=some u) (heo:∃ u,h'.get? e=some u):Un fs ex H (upd H x o) h h':=by
 have hx:∀ b,H b=none->b≠x:=fun b n z=>by subst z; rw [n] at mu; exact mu
 have hb:∀ b,H b=none->b≠e:=fun b n z=>by
  subst z
  rcases he with r | r
  ·exact hx b n r
  ·rw [n] at r; cases r
 have hm:∀ b u,H b=some u->¬ Mut (some u)->b≠x:=fun b u q nm z=>by subst z; rw [q] at mu; exact nm mu
 refine ⟨fun b u q n _ _=>k b u (hb b n) q,fun b u q n _ _=>⟨u.slots,k b u (hb b n) q⟩,fun b u q n _=>by rw [aT (hx b n)]; exact n,fun b u q _=>?_,
  fun b xs q=>by rw [aT (hm b _ q fun z=>z)]; exact q,fun b u xs q=>by rw [aT (hm b _ q fun z=>z)]; exact q,fun b ps q=>⟨#[],by rw [aT (hm b _ q fun z=>z),q]; simp⟩⟩
 by_cases hbe:b=e
 ·subst hbe; exact heo
 ·exact ⟨u,k b u hbe q⟩
end
def trk (h:cP) (H:Hp):List ak:=(jZ h.objs.size).filter fun a=>(H a).isSome
def xj (h:cP) (H:Hp):cP:=gY h (trk h H)
theorem Bj (h:cP) (H:Hp):(xj h H).objs.size=h.objs.size:=PySem.W.hideAll_size _ _
theorem Ck {h:cP} {H:Hp} {b:ak} {o:Obj} (e:h.get? b=some o) (n:H b=none):(xj h H).get? b=some o:=
 qZ _ e fun hm=>by
  have q:(H b).isSome=true:=(vI.mp hm).2;rw [n] at q; simp at q
theorem EI {h:cP} {H:Hp} {b:ak} {o:Obj} (e:(xj h H).get? b=some o):h.get? b=some o/\H b=none:=by
 have e':h.get? b=some o:=rC (trk h H) e;refine ⟨e',?_⟩
 cases q:H b with
 | none=>rfl
 | some x =>
  have hm:b∈trk h H:=vI.mpr ⟨rm.mpr (ba e'),by simp [q]⟩;have z:(xj h H).get? b=none:=qr (trk h H) hm;rw [z] at e; cases e
structure Mod (K:ai) (mg:Str->Option ag) (base:cP):Prop where
 kin:K.In base
 glob:base.Ns bS mg
 blt:∃ mb,base.Ns zB mb/\∀ x:Str,x≠"__name__"->mb x=eC x
 nolimit:base.NoLimit
structure Cx where
 prog:aQ
 w:bT
 K:ai
 mg:Str->Option ag
 base:cP
 A:bQ
 N:List Str
 s₀:ah
 H₀:Hp
 env:Env
 outer:List Env
 stack:List Env
 ex:List ak
 fn:Str->Bool
 calm:Bool
 pn:List (ak×Obj)
 xe:ag->ah->Prop
def frs (l:List Env):List ak:=l.filterMap (·.frame)
abbrev Cx.fs (X:Cx):List ak:=frs X.outer
def Vis (sc:kO) (x:Str):Prop:=sc.names.lookup x=some .local\/sc.names.lookup x=some .cell\/sc.names.lookup x=some .free
def Loc (sc:kO) (x:Str):Prop:=sc.names.lookup x=some .local\/sc.names.lookup x=some .cell
def Look (env:Env) (h:cP) (m:Str->Option ag) (x:Str) (u:ag):Prop:=
 (env.kindOf x=some .local/\m x=some u)\/((env.kindOf x=some .cell\/env.kindOf x=some .free)/\∃ c,env.cells.lookup x=some c/\h.IsCell c (some u))
structure Cx.Ok (X:Cx):Prop where
 mod:Mod X.K X.mg X.base
 kind:X.env.scope.kind=.function
 glob:X.env.globals=bS
 blt:X.env.builtins=zB
 above:X.s₀.heap.objs.size<=X.env.locals
 inj:∀ x y c,X.env.cells.lookup x=some c->X.env.cells.lookup y=some c->x=y
 has:∀ x,(X.env.kindOf x=some .cell\/X.env.kindOf x=some .free)->∃ c,X.env.cells.lookup x=some c
 cab:∀ x c,X.fn x=true->X.env.cells.lookup x=some c->X.s₀.heap.objs.size<=c
 hd:X.calm=true->X.A.handled=none
 frames:X.A.frames=some X.stack
 stk:X.stack=X.outer\/(X.stack=X.env :: X.outer/\X.env.frame=some X.env.locals)
 exf:∀ b∈X.ex,b≠X.env.locals/\∀ x c,X.env.cells.lookup x=some c->c≠b
 bs:∀ b o,X.base.get? b=some o->X.s₀.heap.get? b=some o/\X.H₀ b=none
 bsz:X.base.objs.size<=X.s₀.heap.objs.size
 noex:∀ b o,X.base.get? b=some o->b∉X.ex
 exfs:∀ b∈X.ex,b∉X.fs
 funs:X.s₀.heap.FunFrames X.base X.outer
 frf:∀ b∈X.fs,X.H₀ b=none
structure Inv (X:Cx) (pins:List (ak×Obj)) (σ:List (Option V)) (H:Hp) (s:ah):Prop where
 ok:X.Ok
 os:s.os=X.s₀.os
 bare:rD s.gens
 base:Un X.fs X.ex X.H₀ H X.s₀.heap s.heap
 loc:∃ m,s.heap.Ns X.env.locals m/\∀ (i:Nat) (x:Str) (v:V),X.N[i]?=some x->σ[i]?=some (some v)->Vis X.env.scope x->∃ u,RelV v u/\Look X.env s.heap m x u
 cell:∀ x c,X.env.cells.lookup x=some c->∃ v,s.heap.IsCell c v
 free:H X.env.locals=none
 freeC:∀ x c,X.env.cells.lookup x=some c->H c=none
 pin:∀ p∈X.pn++pins,s.heap.get? p.1=some p.2/\H p.1=none/\p.1≠X.env.locals/\p.1∉X.fs/\∀ v,p.2.data≠.cell v
 hok:HOk X.prog X.w H s.heap
 len:σ.length=X.N.length
section
variable {X:Cx} {pins:List (ak×Obj)} {σ:List (Option V)} {H H':Hp} {s:ah} {h':cP}
theorem Cx.Ok.nofr (ok:X.Ok) {b:ak} {o:Obj} (e:X.base.get? b=some o):b∉X.fs:=fun hb=>by
 have:=(ok.funs.mem hb).1;rw [e] at this; cases this
theorem Inv.bs (I:Inv X pins σ H s):∀ b o,X.base.get? b=some o->s.heap.get? b=some o/\H b=none:=fun b o e =>
 ⟨I.base.keep b o (I.ok.bs b o e).1 (I.ok.bs b o e).2 (I.ok.nofr e) (I.ok.noex b o e),I.base.free b o (I.ok.bs b o e).1 (I.ok.bs b o e).2 (I.ok.noex b o e)⟩
theorem Inv.bk (I:Inv X pins σ H s):∀ b o,X.base.get? b=some o->s.heap.get? b=some o:=fun b o e=>(I.bs b o e).1
theorem Inv.mod (I:Inv X pins σ H s):Mod X.K X.mg X.base:=I.ok.mod
theorem Inv.kIn (I:Inv X pins σ H s):X.K.In s.heap:=I.ok.mod.kin.keeps I.bk
theorem Inv.fr (I:Inv X pins σ H s):∃ m,Fr X.base X.env.locals s.heap m:=
 let ⟨m,hn,_⟩:=I.loc
 ⟨m,hn,I.bk,bN I.ok.bsz I.ok.above⟩
theorem Inv.lt (I:Inv X pins σ H s):X.env.locals < s.heap.objs.size:=let ⟨_,hn,_⟩:=I.loc; hn.lt
theorem Inv.sz (I:Inv X pins σ H s):X.s₀.heap.objs.size<=s.heap.objs.size:=bN I.ok.above (kE I.lt)
theorem Inv.nofs (I:Inv X pins σ H s) {a:ak} (h:s.heap.objs.size<=a):a∉X.fs:=fun hb=>by
 obtain ⟨_,o,ho,_⟩:=I.ok.funs.mem hb;exact absurd (bc (ba ho) (bN I.sz h)) (d8 _)
theorem Inv.cne (I:Inv X pins σ H s):∀ x c,X.env.cells.lookup x=some c->c≠X.env.locals:=fun x c e z=>by
 obtain ⟨v,o,ho,hd⟩:=I.cell x c e;obtain ⟨m,⟨o',es,ep,ho',hd',_⟩,_⟩:=I.loc;rw [z,ho'] at ho; cases ho; rw [hd'] at hd; cases hd
theorem Inv.funs (I:Inv X pins σ H s):s.heap.FunFrames X.base X.outer:=by
 have all:∀ (l:List Env),(∀ b∈frs l,b∈X.fs)->X.s₀.heap.FunFrames X.base l->s.heap.FunFrames X.base l:=by
  intro l
  induction l with
  | nil=>intro _ _; trivial
  | cons env r ih =>
   intro hs hl;obtain ⟨hk,⟨L,o,hf,hn,ho,hd⟩,hr⟩:=hl;have hL:L∈X.fs:=hs L (by unfold frs; rw [rV,hf]; exact aA);obtain ⟨sl,e⟩:=I.base.slot L o ho (I.ok.frf L hL) hL fun z=>I.ok.exfs L z hL;exact ⟨hk,⟨L,_,hf,hn,e,hd⟩,ih (fun b hb=>hs b (by unfold frs; rw [rV,hf]; exact az _ hb)) hr⟩
 exact all X.outer (fun _ hb=>hb) I.ok.funs
theorem Inv.stack (I:Inv X pins σ H s):s.heap.FunFrames X.base X.stack:=by
 rcases I.ok.stk with e | ⟨e,hf⟩
 ·rw [e]; exact I.funs
 ·rw [e];obtain ⟨m,hn,_⟩:=I.loc;refine .cons (by rw [I.ok.kind]; decide) hf hn ?_ I.funs;exact lN (bN I.ok.bsz I.ok.above)
theorem Inv.stkSub (I:Inv X pins σ H s):∀ b∈frs X.stack,b∈X.env.locals :: X.fs:=fun b hb=>by
 rcases I.ok.stk with e | ⟨e,hf⟩
 ·rw [e] at hb; exact az _ hb
 ·rw [e] at hb;unfold frs at hb;rw [rV,hf] at hb;exact hb
theorem Inv.stkFree (I:Inv X pins σ H s):∀ b∈frs X.stack,H b=none:=fun b hb=>by
 rcases ar.mp (I.stkSub b hb) with e | hb
 ·rw [e]; exact I.free
 ·obtain ⟨_,o,ho,_⟩:=I.ok.funs.mem hb;exact I.base.free b o ho (I.ok.frf b hb) fun z=>I.ok.exfs b z hb
theorem Inv.step {g':Array EJ} {t':Nat} {d':Drawn} {ch:List ak} (I:Inv X pins σ H s)
  (hch:∀ b∈ch,(b∈X.ex\/X.s₀.heap.objs.size<=b)/\b≠X.env.locals/\(∀ x c,X.env.cells.lookup x=some c->c≠b)/\∀ p∈X.pn++pins,p.1≠b)
  (keep:∀ b o,b≠X.env.locals->b∉X.fs->b∉ch->s.heap.get? b=some o->H b=none->h'.get? b=some o)
  (slot:∀ b o,b≠X.env.locals->b∈X.fs->b∉ch->s.heap.get? b=some o->H b=none->∃ sl,h'.get? b=some {o with slots:=sl}) (free:∀ b o,b∉ch->s.heap.get? b=some o->H b=none->H' b=none)
  (there:∀ b o,b∉ch->s.heap.get? b=some o->∃ o',h'.get? b=some o')
  (tups:∀ b xs,H b=some (.tup xs)->H' b=some (.tup xs)) (frzs:∀ b o u,H b=some (.frz o u)->H' b=some (.frz o u)) (tbls:∀ b ps,H b=some (.tbl ps)->∃ more,H' b=some (.tbl (ps++more)))
  (ns:∀ m,s.heap.Ns X.env.locals m->h'.Ns X.env.locals m) (hok:HOk X.prog X.w H' h') (hg:rD g') :
  Inv X pins σ H' {s with heap:=h',gens:=g',drawn:=d',toks:=t'}:=by
 have neL:∀ b o,X.s₀.heap.get? b=some o->b≠X.env.locals:=fun b o e=>bz (bc (ba e) I.ok.above);have neC:∀ b o,X.s₀.heap.get? b=some o->b∉X.ex->b∉ch:=fun b o e hx hb=>by
  rcases (hch b hb).1 with z | z
  ·exact hx z
  ·exact absurd (bc (ba e) z) (d8 _)
 have cellK:∀ x c,X.env.cells.lookup x=some c->∀ v,s.heap.IsCell c v->h'.IsCell c v:=fun x c e v ⟨o,ho,hd⟩=>by
  have nch:c∉ch:=fun z=>(hch c z).2.2.1 x c e rfl
  by_cases hc:c∈X.fs
  ·obtain ⟨sl,q⟩:=slot c o (I.cne x c e) hc nch ho (I.freeC x c e);exact ⟨_,q,hd⟩
  ·exact ⟨o,keep c o (I.cne x c e) hc nch ho (I.freeC x c e),hd⟩
 refine ⟨I.ok,I.os,hg,⟨fun b o e n hb hx=>?_,fun b o e n hb hx=>?_,fun b o e n hx=>?_,fun b o e hx=>?_,fun b xs e=>tups b xs (I.base.tups b xs e),fun b o xs e=>frzs b o xs (I.base.frzs b o xs e),fun b ps e=>?_⟩,?_,fun x c e=>?_,?_,fun x c e=>?_,fun p hp=>?_,hok,I.len⟩
 ·exact keep b o (neL b o e) hb (neC b o e hx) (I.base.keep b o e n hb hx) (I.base.free b o e n hx)
 ·obtain ⟨sl,e1⟩:=I.base.slot b o e n hb hx;obtain ⟨sl',e2⟩:=slot b _ (neL b o e) hb (neC b o e hx) e1 (I.base.free b o e n hx);exact ⟨sl',e2⟩
 ·obtain ⟨o',e1⟩:=I.base.there b o e hx;exact free b o' (neC b o e hx) e1 (I.base.free b o e n hx)
 ·obtain ⟨o',e1⟩:=I.base.there b o e hx;exact there b o' (neC b o e hx) e1
 ·obtain ⟨m1,e1⟩:=I.base.tbls b ps e;obtain ⟨m2,e2⟩:=tbls b _ e1;exact ⟨m1++m2,by rw [e2,jU]⟩
 ·obtain ⟨m,hn,hl⟩:=I.loc;refine ⟨m,ns m hn,fun i x v e1 e2 e3=>?_⟩;obtain ⟨u,r,l⟩:=hl i x v e1 e2 e3;refine ⟨u,r,?_⟩
  rcases l with l | ⟨k,c,e,z⟩
  ·exact .inl l
  ·exact .inr ⟨k,c,e,cellK x c e _ z⟩
 ·obtain ⟨v,z⟩:=I.cell x c e;exact ⟨v,cellK x c e v z⟩
 ·obtain ⟨m,⟨o,_,_,ho,_⟩,_⟩:=I.loc;exact free _ o (fun z=>(hch _ z).2.1 rfl) ho I.free
 ·obtain ⟨v,o,ho,hd⟩:=I.cell x c e;exact free c o (fun z=>(hch c z).2.2.1 x c e rfl) ho (I.freeC x c e)
 ·obtain ⟨e,n,ne,nf,d⟩:=I.pin p hp;have nch:p.1∉ch:=fun z=>(hch p.1 z).2.2.2 p hp rfl;exact ⟨keep p.1 p.2 ne nf nch e n,free p.1 p.2 nch e n,ne,nf,d⟩
theorem Inv.un {t':Nat} (I:Inv X pins σ H s) (u:Un X.fs [] H H' s.heap h') (hok:HOk X.prog X.w H' h'):Inv X pins σ H' {s with heap:=h',toks:=t'}:=by
 obtain ⟨m,⟨o,es,ep,ho,r⟩,_⟩:=id I.loc;obtain ⟨sl,hL⟩:=u.any ho I.free (by simp);exact I.step (g':=s.gens) (d':=s.drawn) (ch:=[]) (fun _ z=>nomatch z) (fun b o _ hb _ e n=>u.keep b o e n hb (by simp)) (fun b o _ hb _ e n=>u.slot b o e n hb (by simp)) (fun b o _ e n=>u.free b o e n (by simp)) (fun b o _ e=>u.there b o e (by simp)) u.tups u.frzs u.tbls (fun m' hm=>by
  obtain ⟨o',es',ep',ho',r'⟩:=hm;rw [ho] at ho'; cases ho';exact ⟨_,es',ep',hL,r'⟩) hok I.bare
theorem Inv.call {g':Array EJ} {t':Nat} {d':Drawn} {ch:List ak} (I:Inv X pins σ H s) (u:Un (frs X.stack) ch H H' s.heap h') (hok:HOk X.prog X.w H' h') (hg:rD g')
  (hch:∀ b∈ch,(b∈X.ex\/X.s₀.heap.objs.size<=b)/\b≠X.env.locals/\(∀ x c,X.env.cells.lookup x=some c->c≠b)/\∀ p∈X.pn++pins,p.1≠b) :
  Inv X pins σ H' {s with heap:=h',gens:=g',drawn:=d',toks:=t'}:=by
 obtain ⟨m,⟨o,es,ep,ho,r⟩,_⟩:=id I.loc;obtain ⟨sl,hL⟩:=u.any ho I.free fun z=>(hch _ z).2.1 rfl;exact I.step (ch:=ch) hch (fun b o hL hb hc e n=>u.keep b o e n (fun z=>(ar.mp (I.stkSub b z)).elim hL hb) hc) (fun b o _ _ hc e n=>u.any e n hc) (fun b o hc e n=>u.free b o e n hc) (fun b o hc e=>u.there b o e hc) u.tups u.frzs u.tbls (fun m' hm=>by
  obtain ⟨o',es',ep',ho',r'⟩:=hm;rw [ho] at ho'; cases ho';exact ⟨_,es',ep',hL,r'⟩) hok hg
theorem Inv.turned {t':Nat} {it:ak} (I:Inv X pins σ H s) (k:∀ b o,b≠it->s.heap.get? b=some o->h'.get? b=some o) (hn:H it=none) (hL:it≠X.env.locals)
  (h1:it∈X.ex\/X.s₀.heap.objs.size<=it) (h2:∀ x c,X.env.cells.lookup x=some c->c≠it) (h3:∀ p∈X.pn++pins,p.1≠it):Inv X pins σ H {s with heap:=h',toks:=t'}:=by
 have nit:∀ b u,H b=some u->b≠it:=fun b u e z=>by rw [z,hn] at e; cases e
 refine I.step (g':=s.gens) (d':=s.drawn) (ch:=[it]) (fun b hb=>?_) (fun b o _ _ hc e _=>k b o (fun z=>hc (by simp [z])) e) (fun b o _ _ hc e _=>⟨o.slots,k b o (fun z=>hc (by simp [z])) e⟩) (fun _ _ _ _ n=>n)
  (fun b o hc e=>⟨o,k b o (fun z=>hc (by simp [z])) e⟩) (fun _ _ e=>e) (fun _ _ _ e=>e) (fun b ps e=>⟨#[],by rw [e]; simp⟩) (fun m hm=>?_) (fun b u e=>?_) I.bare
 ·have e:b=it:=by simpa using hb
  subst e;exact ⟨h1,hL,h2,h3⟩
 ·obtain ⟨o,es,ep,ho,r⟩:=hm;exact ⟨o,es,ep,k _ o (eW hL) ho,r⟩
 ·refine (I.hok b u e).stay (fun c v hc q=>k c v ?_ q) (fun _ q=>q) fun _ _ q=>q
  rcases hc with z | z
  ·rw [z]; exact nit b u e
  ·exact nit c _ z
theorem Inv.tok (I:Inv X pins σ H s) (t:Nat):Inv X pins σ H {s with toks:=t}:=I.un (h':=s.heap) (t':=t) Un.refl I.hok
theorem Inv.kept {t':Nat} (I:Inv X pins σ H s) (k:∀ b u,s.heap.get? b=some u->h'.get? b=some u):Inv X pins σ H {s with heap:=h',toks:=t'}:=I.un (Un.kept k) (I.hok.kept k)
theorem Inv.laid {a:ak} {o:HO} {t':Nat} (I:Inv X pins σ H s) (k:∀ b u,s.heap.get? b=some u->h'.get? b=some u) (hp:s.heap.objs.size<=a) (new:gB X.prog X.w (upd H a o) h' a o) :
  Inv X pins σ (upd H a o) {s with heap:=h',toks:=t'}:=I.un (Un.laid k hp (I.hok.fresh hp)) (I.hok.laid k hp new)
theorem Inv.write {x e:ak} {o:HO} {t':Nat} (I:Inv X pins σ H s) (mu:Mut (H x)) (he:e=x\/H e=some (.own x)) (k:∀ b u,b≠e->s.heap.get? b=some u->h'.get? b=some u) (heo:∃ u,h'.get? e=some u)
  (new:gB X.prog X.w (upd H x o) h' x o):Inv X pins σ (upd H x o) {s with heap:=h',toks:=t'}:=I.un (Un.write mu he k heo) (I.hok.write mu he k heo new)
theorem Inv.weak {σ':List (Option V)} (I:Inv X pins σ H s) (hl:σ'.length=σ.length) (w:∀ (i:Nat) v,σ'[i]?=some (some v)->σ[i]?=some (some v)):Inv X pins σ' H s:=
 ⟨I.ok,I.os,I.bare,I.base,let ⟨m,hn,hl'⟩:=I.loc; ⟨m,hn,fun i x v e1 e2 e3=>hl' i x v e1 (w i v e2) e3⟩,I.cell,I.free,I.freeC,I.pin,I.hok,hl.trans I.len⟩
theorem Inv.pins_of {pins':List (ak×Obj)} (I:Inv X pins σ H s) (h:∀ p∈pins',s.heap.get? p.1=some p.2/\H p.1=none/\p.1≠X.env.locals/\p.1∉X.fs/\∀ v,p.2.data≠.cell v):Inv X pins' σ H s:=
 ⟨I.ok,I.os,I.bare,I.base,I.loc,I.cell,I.free,I.freeC,fun p hp=>(aN.mp hp).elim (fun z=>I.pin p (cS _ z)) (h p),I.hok,I.len⟩
theorem uF {N:List Str} (hN:N.Nodup) {i j:Nat} {x:Str} (a:N[i]?=some x) (b:N[j]?=some x):i=j:=by
 obtain ⟨h1,e1⟩:=bg.mp a;obtain ⟨h2,e2⟩:=bg.mp b;exact (List.getElem_inj hN).mp (e1.trans e2.symm)
theorem sW {M:mB} {A:bQ} {E:ag->ah->Prop} {i:Nat} {x:Str} {v:V} {u:ag} {Q:Unit->ah->Prop} (I:Inv X pins σ H s) (hN:X.N.Nodup) (hi:X.N[i]?=some x) (hx:Loc X.env.scope x) (r:RelV v u)
  (h:∀ s',Inv X pins (σ.set i (some v)) H s'->(∃ a,nC a s.heap s'.heap/\(a=X.env.locals\/X.env.cells.lookup x=some a))->Q () s') (hf:X.fn x=true\/X.env.scope.names.lookup x=some .local:=by first | exact .inl rfl | exact .inr rfl | assumption):aY M A (storeName X.env x u) Q E s:=by
 obtain ⟨m,hn,hl⟩:=id I.loc;have hcls:(X.env.scope.kind == .class || (X.env.scope.kind == .module && X.env.locals != X.env.globals))=false:=by rw [I.ok.kind]; rfl
 have hiσ:i < σ.length:=by rw [I.len]; exact (bg.mp hi).1
 have cne:=I.cne;have tracked:∀ {a:ak} {h':cP},(∃ o,s.heap.get? a=some o/\H a=none)->nC a s.heap h'->HOk X.prog X.w H h':=fun {a h'} ha hs b ob e=>by
  obtain ⟨_,_,hfree⟩:=ha;refine (I.hok b ob e).stay (fun c w' hc q=>(hs.2 c ?_).trans q) (fun _ q=>q) fun _ _ q=>q;rintro rfl
  rcases hc with rfl | hc
  ·rw [hfree] at e; cases e
  ·rw [hfree] at hc; cases hc
 rcases hx with hk | hk
 ·refine wpAny_storeName_local hk hn (fun h' hn' hs=>?_) hcls;obtain ⟨oL,_,_,hoL,_⟩:=id hn;refine h _ ⟨I.ok,I.os,I.bare,⟨fun b o e n hb hx=>?_,fun b o e n hb hx=>?_,I.base.free,fun b o e hx=>?_,I.base.tups,I.base.frzs,I.base.tbls⟩,⟨_,hn',fun j y v' e1 e2 e3=>?_⟩,fun y c e=>?_,I.free,I.freeC,fun p hp=>?_,tracked ⟨oL,hoL,I.free⟩ hs,by simpa using I.len⟩ ⟨_,hs,.inl rfl⟩
  ·exact (hs.2 b (bz (bc (ba e) I.ok.above))).trans (I.base.keep b o e n hb hx)
  ·obtain ⟨sl,e1⟩:=I.base.slot b o e n hb hx;exact ⟨sl,(hs.2 b (bz (bc (ba e) I.ok.above))).trans e1⟩
  ·obtain ⟨o',e1⟩:=I.base.there b o e hx;exact ⟨o',(hs.2 b (bz (bc (ba e) I.ok.above))).trans e1⟩
  ·by_cases hj:j=i
   ·subst hj;rw [hi] at e1; cases e1;rw [kB hiσ] at e2
    cases e2;exact ⟨u,r,.inl ⟨hk,by simp⟩⟩
   ·rw [rn (eW hj)] at e2;obtain ⟨u',r',q⟩:=hl j y v' e1 e2 e3;refine ⟨u',r',?_⟩
    rcases q with ⟨k,e⟩ | ⟨k,c,e,z⟩
    ·refine .inl ⟨k,?_⟩;have:y≠x:=fun e=>hj (uF hN e1 (e ▸ hi));simp [this,e]
    ·exact .inr ⟨k,c,e,z.sameBut hs (cne y c e)⟩
  ·obtain ⟨w',z⟩:=I.cell y c e;exact ⟨w',z.sameBut hs (cne y c e)⟩
  ·obtain ⟨e,n,ne,nf,d⟩:=I.pin p hp;exact ⟨(hs.2 p.1 ne).trans e,n,ne,nf,d⟩
 ·have hfn:X.fn x=true:=by
   rcases hf with z | z
   ·exact z
   ·rw [z] at hk; cases hk
  obtain ⟨c,hc⟩:=I.ok.has x (.inl hk);obtain ⟨w',z⟩:=I.cell x c hc;refine wpAny_storeName_cell I.ok.kind hk hc z (fun h' hc' hs=>?_);obtain ⟨oc,hoc,hocd⟩:=id z;refine h {s with heap:=h'} ⟨I.ok,I.os,I.bare,⟨fun b o e n hb hx=>?_,fun b o e n hb hx=>?_,I.base.free,fun b o e hx=>?_,I.base.tups,I.base.frzs,I.base.tbls⟩,⟨m,hn.sameBut hs (eW (cne x c hc)),fun j y v' e1 e2 e3=>?_⟩,fun y c' e=>?_,I.free,I.freeC,fun p hp=>?_,tracked ⟨oc,hoc,I.freeC x c hc⟩ hs,by simpa using I.len⟩ ⟨c,hs,.inr hc⟩
  ·exact (hs.2 b (bz (bc (ba e) (I.ok.cab x c hfn hc)))).trans (I.base.keep b o e n hb hx)
  ·obtain ⟨sl,e1⟩:=I.base.slot b o e n hb hx;exact ⟨sl,(hs.2 b (bz (bc (ba e) (I.ok.cab x c hfn hc)))).trans e1⟩
  ·obtain ⟨o',e1⟩:=I.base.there b o e hx;exact ⟨o',(hs.2 b (bz (bc (ba e) (I.ok.cab x c hfn hc)))).trans e1⟩
  ·by_cases hj:j=i
   ·subst hj;rw [hi] at e1; cases e1;rw [kB hiσ] at e2
    cases e2;exact ⟨u,r,.inr ⟨.inl hk,c,hc,hc'⟩⟩
   ·rw [rn (eW hj)] at e2;obtain ⟨u',r',q⟩:=hl j y v' e1 e2 e3;refine ⟨u',r',?_⟩
    rcases q with q | ⟨k,c',e,z'⟩
    ·exact .inl q
    ·refine .inr ⟨k,c',e,z'.sameBut hs ?_⟩;rintro rfl;exact hj (uF hN e1 (I.ok.inj _ _ _ e hc ▸ hi))
  ·by_cases hcc:c'=c
   ·subst hcc; exact ⟨_,hc'⟩
   ·obtain ⟨w2,z2⟩:=I.cell y c' e;exact ⟨w2,z2.sameBut hs hcc⟩
  ·obtain ⟨e,n,ne,nf,d⟩:=I.pin p hp;refine ⟨(hs.2 p.1 ?_).trans e,n,ne,nf,d⟩;intro q;rw [q,hoc] at e;have q':oc=p.2:=bC e;exact d w' (by rw [<- q']; exact hocd)
theorem oS {M:mB} {A:bQ} {E:ag->ah->Prop} {i:Nat} {x:Str} {v:V} {u:ag} {Q:Unit->ah->Prop} (I:Inv X pins σ H s) (hN:X.N.Nodup) (hi:X.N[i]?=some x) (hx:Loc X.env.scope x) (r:RelV v u)
  (h:∀ s',Inv X pins (σ.set i (some v)) H s'->Q () s') (hf:X.fn x=true\/X.env.scope.names.lookup x=some .local:=by first | exact .inl rfl | exact .inr rfl | assumption):aY M A (storeName X.env x u) Q E s:=
 sW I hN hi hx r (fun s' I' _=>h s' I') hf
theorem Inv.call' {s':ah} {ch:List ak} (I:Inv X pins σ H s) (ho:s'.os=s.os) (u:Un (frs X.stack) ch H H' s.heap s'.heap) (hok:HOk X.prog X.w H' s'.heap) (hg:rD s'.gens)
  (hch:∀ b∈ch,(b∈X.ex\/X.s₀.heap.objs.size<=b)/\b≠X.env.locals/\(∀ x c,X.env.cells.lookup x=some c->c≠b)/\∀ p∈X.pn++pins,p.1≠b):Inv X pins σ H' s':=by
 obtain ⟨h',g',d',t',o'⟩:=s';have e:o'=s.os:=ho;subst e;exact I.call (g':=g') (t':=t') (d':=d') u hok hg hch
end
abbrev XK:=ag->Option ak->Hp->Prop
abbrev St:=List (Option V)
abbrev VK:=V->Hp->Prop
abbrev TE:=St->Hp->VK->Prop
abbrev TT:=St->Hp->(Bool->Hp->Prop)->Prop
abbrev TA:=St->Hp->(List V->Hp->Prop)->Prop
structure Ends where
 nx:St->Hp->Prop
 rt:VK
 bk:St->Hp->Prop:=fun _ _=>False
 ct:St->Hp->Prop:=fun _ _=>False
abbrev TS:=Ends->St->Hp->Prop
def EP (X:Cx) (pins:List (ak×Obj)) (σ:St) (Q:VK) (u:ag) (s':ah):Prop:=∃ v H',Inv X pins σ H' s'/\RelV v u/\Q v H'
def TP (X:Cx) (pins:List (ak×Obj)) (σ:St) (Q:Bool->Hp->Prop) (b:Bool) (s':ah):Prop:=∃ H',Inv X pins σ H' s'/\Q b H'
def AP (X:Cx) (pins:List (ak×Obj)) (σ:St) (Q:List V->Hp->Prop) (us:List ag) (s':ah):Prop:=∃ vs H',Inv X pins σ H' s'/\dv vs us/\Q vs H'
def SP (X:Cx) (pins:List (ak×Obj)) (D:Ends) (f:Flow) (s':ah):Prop:=
 match f with
 | .next=>∃ σ' H',Inv X pins σ' H' s'/\D.nx σ' H'
 | .brk=>∃ σ' H',Inv X pins σ' H' s'/\D.bk σ' H'
 | .cont=>∃ σ' H',Inv X pins σ' H' s'/\D.ct σ' H'
 | .ret u=>∃ v σ' H',Inv X pins σ' H' s'/\RelV v u/\D.rt v H'
def PE (X:Cx) (e:cI) (t:TE):Prop:=
 ∀ (pins:List (ak×Obj)) (s:ah) (σ:St) (H:Hp) (Q:VK),Inv X pins σ H s->t σ H Q->aY (aM X.prog X.w) X.A (dE e X.env) (EP X pins σ Q) X.xe s
def PT (X:Cx) (e:cI) (t:TT):Prop:=
 ∀ (pins:List (ak×Obj)) (s:ah) (σ:St) (H:Hp) (Q:Bool->Hp->Prop),Inv X pins σ H s->t σ H Q->aY (aM X.prog X.w) X.A (oE e X.env (dE e X.env)) (TP X pins σ Q) X.xe s
def PW (X:Cx) (e:cI) (t:TT):Prop:=
 ∀ (whole:Sem ag) (pins:List (ak×Obj)) (s:ah) (σ:St) (H:Hp) (Q:Bool->Hp->Prop),Inv X pins σ H s->t σ H Q->aY (aM X.prog X.w) X.A (oE e X.env whole) (TP X pins σ Q) X.xe s
theorem PW.pt {X:Cx} {e:cI} {t:TT} (h:PW X e t):PT X e t:=h _
def PA (X:Cx) (es:List cI) (t:TA):Prop:=
 ∀ (pos:Pos) (pins:List (ak×Obj)) (s:ah) (σ:St) (H:Hp) (Q:List V->Hp->Prop),Inv X pins σ H s->t σ H Q->aY (aM X.prog X.w) X.A (zq (eR pos (bB es X.env))) (AP X pins σ Q) X.xe s
def PS (X:Cx) (st:di) (t:TS):Prop:=
 ∀ (pins:List (ak×Obj)) (s:ah) (σ:St) (H:Hp) (D:Ends),Inv X pins σ H s->t D σ H->aY (aM X.prog X.w) X.A (exec st X.env) (SP X pins D) X.xe s
def PSs (X:Cx) (st:List di) (t:TS):Prop:=
 ∀ (pins:List (ak×Obj)) (s:ah) (σ:St) (H:Hp) (D:Ends),Inv X pins σ H s->t D σ H->aY (aM X.prog X.w) X.A (vL st X.env) (SP X pins D) X.xe s
theorem thn {α:Type} {t:Sem α} {Q Q':α->ah->Prop} {M:mB} {A:bQ} {E:ag->ah->Prop} {s:ah} (h:aY M A t Q E s) (hQ:∀ a s,Q a s->Q' a s):aY M A t Q' E s:=cE h hQ fun _ _ x=>x
section
variable {X:Cx}
theorem bin {a b:cI} {ta tb:TE} (ha:PE X a ta) (hb:PE X b tb) {pins:List (ak×Obj)} {s:ah} {σ:St} {H:Hp} {R:V->V->Hp->Prop} (I:Inv X pins σ H s) (h:ta σ H fun x H1=>tb σ H1 fun y H2=>R x y H2)
  {α:Type} {Q:α->ah->Prop} {f:ag->ag->Sem α}
  (hf:∀ v u s2 x y H2,Inv X pins σ H2 s2->RelV x v->RelV y u->R x y H2->aY (aM X.prog X.w) X.A (f v u) Q X.xe s2) :
  aY (aM X.prog X.w) X.A (dE a X.env) (fun v s₁=>aY (aM X.prog X.w) X.A (dE b X.env) (fun u s₂=>aY (aM X.prog X.w) X.A (f v u) Q X.xe s₂) X.xe s₁) X.xe s:=by
 refine thn (ha pins s σ H _ I h) fun v s1 ⟨x,H1,I1,r1,q1⟩=>?_;refine thn (hb pins s1 σ H1 _ I1 q1) fun u s2 ⟨y,H2,I2,r2,q2⟩=>?_;exact hf v u s2 x y H2 I2 r1 r2 q2
set_option genInjectivity false
inductive TVar (i:Nat) (σ:St) (H:Hp) (Q:VK):Prop where
 | mk (v:V) (h:σ[i]?=some (some v)) (q:Q v H):TVar i σ H Q
def kF (i:Nat):TE:=fun σ H Q=>TVar i σ H Q
def tC (v:V):TE:=fun _ H Q=>Q v H
theorem HK {i:Nat} {x:Str} {pos:Pos} (hN:X.N[i]?=some x) (hv:Vis X.env.scope x) (hd:(x == ("__debug__":Str))=false:=by decide) (hcd:(x == ("__classdict__":Str))=false:=by decide):PE X (.Name x pos) (kF i):=by
 intro pins s σ H Q I h;obtain ⟨v,e,h⟩:=h;obtain ⟨m,hn,hl⟩:=I.loc;obtain ⟨u,r,l⟩:=hl i x v hN e hv;have fin:EP X pins σ Q u s:=⟨v,H,I,r,h⟩
 rcases l with ⟨hk,hm⟩ | ⟨hk,c,hc,hcell⟩
 ·exact HL (wpAny_loadName_local I.ok.kind hk hn hm fin) hd
 ·rcases hk with hk | hk
  ·exact HL (wpAny_loadName_cell I.ok.kind hk hc hcell fin) hd
  ·exact HL (wpAny_loadName_free I.ok.kind hk hc hcell fin hcd) hd
theorem aq {i j pos}:PE X (.Constant (.int i) j pos) (tC (.int i)):=fun _ _ _ H _ I h=>wpAny_Constant_int ⟨.int i,H,I.tok _,⟨_,rfl⟩,h⟩
theorem yu {b j pos}:PE X (.Constant (.bool b) j pos) (tC (.bl b)):=fun _ _ _ H _ I h=>Constant_bool ⟨.bl b,H,I,rfl,h⟩
theorem dJ {j pos}:PE X (.Constant .none j pos) (tC .non):=fun _ _ _ H _ I h=>Constant_none ⟨.non,H,I,rfl,h⟩
theorem aB {x j pos}:PE X (.Constant (.str x) j pos) (tC (.str x)):=fun _ _ _ H _ I h=>Calls.Constant_str ⟨.str x,H,I.tok _,⟨_,rfl⟩,h⟩
def Gl (X:Cx) (x:Str):Prop:=X.env.kindOf x=some .globalImplicit
theorem pA {E:ag->ah->Prop} {pins:List (ak×Obj)} {s:ah} {σ:St} {H:Hp} {x:Str} {u:ag} {pos:Pos} {Q:ag->ah->Prop} (I:Inv X pins σ H s) (hg:Gl X x) (hm:X.mg x=some u) (h:Q u s)
  (hd:(x == ("__debug__":Str))=false:=by decide):aY (aM X.prog X.w) X.A (dE (.Name x pos) X.env) Q E s:=
 vM I.ok.kind hg (Calls.loadGlobal_global (by rw [I.ok.glob]; exact I.mod.glob.keeps I.bk) hm h) hd
theorem oF {E:ag->ah->Prop} {pins:List (ak×Obj)} {s:ah} {σ:St} {H:Hp} {x:Str} {u:ag} {pos:Pos} {Q:ag->ah->Prop} (I:Inv X pins σ H s) (hg:Gl X x) (hm:X.mg x=none) (hv:eC x=some u) (h:Q u s)
  (hn:x≠"__name__":=by decide) (hd:(x == ("__debug__":Str))=false:=by decide):aY (aM X.prog X.w) X.A (dE (.Name x pos) X.env) Q E s:=by
 obtain ⟨mb,h1,h2⟩:=I.mod.blt;exact vM I.ok.kind hg (Calls.loadGlobal_builtin (by rw [I.ok.glob]; exact I.mod.glob.keeps I.bk) hm (by rw [I.ok.blt]; exact h1.keeps I.bk) ((h2 x hn).trans hv) h) hd
theorem kP {x:Str} {v:V} {u:ag} {pos:Pos} (hg:Gl X x) (hm:X.mg x=some u) (r:RelV v u) (hd:(x == ("__debug__":Str))=false:=by decide):PE X (.Name x pos) (tC v):=
 fun _ _ _ H _ I h=>pA I hg hm ⟨v,H,I,r,h⟩ hd
theorem EK {x:Str} {v:V} {u:ag} {pos:Pos} (hg:Gl X x) (hm:X.mg x=none) (hv:eC x=some u) (r:RelV v u) (hn:x≠"__name__":=by decide) (hd:(x == ("__debug__":Str))=false:=by decide):PE X (.Name x pos) (tC v):=
 fun _ _ _ H _ I h=>oF I hg hm hv ⟨v,H,I,r,h⟩ hn hd
variable {a b:cI} {ta tb:TE} {pos:Pos}
def PC (X:Cx) (op:Ca) (a b:cI) (t:TE):Prop:=
 ∀ (pins:List (ak×Obj)) (s:ah) (σ:St) (H:Hp) (Q:VK),Inv X pins σ H s->t σ H Q ->
  aY (aM X.prog X.w) X.A (dE a X.env) (fun v s₁=>aY (aM X.prog X.w) X.A (dE b X.env) (fun u s₂=>aY (aM X.prog X.w) X.A (dA op v u) (EP X pins σ Q) X.xe s₂) X.xe s₁) X.xe s
inductive BlI (x:V) (H:Hp) (Q:Bool->Hp->Prop):Prop where
 | mk (c:Bool) (h:x=.bl c) (q:Q c H):BlI x H Q
def tB (t:TE):TT:=fun σ H Q=>t σ H fun x H1=>BlI x H1 Q
theorem pt_cmp {op:Ca} {t:TE} (h:PC X op a b t) (h1:nF op b=false:=by first | exact nobehind _ (by decide) (by decide) | rfl):PT X (.Compare a [op] [b] pos) (tB t):=by
 intro pins s σ H Q I hw;refine EC (thn (h pins s σ H _ I hw) fun v s1 h1=>thn h1 fun u s2 h2=>thn h2 fun c s3 ⟨x,H1,I1,r1,q1⟩=>?_) h1;obtain ⟨d,rfl,q⟩:=q1
 cases r1;exact dO ⟨H1,I1,q⟩
theorem jF {e:cI} {t:TE} (h:PE X e t) (he:∀ whole,oE e X.env whole=(do let v <- whole; qc e.pos; nG [v] (HM v)):=by intro _; rfl):PT X e (tB t):=by
 intro pins s σ H Q I hw;refine isTrue_plain (thn (h pins s σ H _ I hw) fun v s1 ⟨x,H1,I1,r1,q1⟩=>?_) (he _);obtain ⟨d,rfl,q⟩:=q1
 cases r1;exact dO ⟨H1,I1,q⟩
variable {tA tB':TT} {rest:List cI}
def HN (t u:TT):TT:=fun σ H Q=>t σ H fun c H1=>if c=true then u σ H1 Q else Q false H1
def tOr (t u:TT):TT:=fun σ H Q=>t σ H fun c H1=>if c=true then Q true H1 else u σ H1 Q
def EL (t:TT):TT:=fun σ H Q=>t σ H fun c H1=>Q (!c) H1
theorem og (ha:PT X a tA):PW X (.BoolOp .And [a] pos) tA:=by
 intro wh pins s σ H Q I h;refine isTrue_and (thn (ha pins s σ H Q I h) fun c s1 e=>?_)
 cases c with
 | true=>exact isTrue_and_nil e
 | false=>exact e
theorem i7 (ha:PT X a tA):PW X (.BoolOp .Or [a] pos) tA:=by
 intro wh pins s σ H Q I h;refine isTrue_or (thn (ha pins s σ H Q I h) fun c s1 e=>?_)
 cases c with
 | false=>exact isTrue_or_nil e
 | true=>exact e
theorem pB (ha:PT X a tA) (hb:PW X (.BoolOp .And (b :: rest) pos) tB'):PW X (.BoolOp .And (a :: b :: rest) pos) (HN tA tB'):=by
 intro wh pins s σ H Q I h;refine isTrue_and (thn (ha pins s σ H _ I h) fun c s1 ⟨H1,I1,q1⟩=>?_)
 cases c with
 | true=>exact hb wh pins s1 σ H1 Q I1 q1
 | false=>exact ⟨H1,I1,q1⟩
theorem jv (ha:PT X a tA) (hb:PW X (.BoolOp .Or (b :: rest) pos) tB'):PW X (.BoolOp .Or (a :: b :: rest) pos) (tOr tA tB'):=by
 intro wh pins s σ H Q I h;refine isTrue_or (thn (ha pins s σ H _ I h) fun c s1 ⟨H1,I1,q1⟩=>?_)
 cases c with
 | true=>exact ⟨H1,I1,q1⟩
 | false=>exact hb wh pins s1 σ H1 Q I1 q1
theorem pD (ha:PT X a tA):PT X (.UnaryOp .Not a pos) (EL tA):=by
 intro pins s σ H Q I h;exact isTrue_not (ha pins s σ H (fun c H1=>Q (!c) H1) I h)
def Gg (ta tb:TE):TE:=fun σ H Q=>ta σ H fun x H1=>∃ c,x=.bl c/\if c=true then tb σ H1 Q else Q (.bl false) H1
theorem Cm {op} {t:TE} (h:PE X a t):PE X (.BoolOp op [a] pos) t:=fun pins s σ H Q I hw=>BoolOp_one (h pins s σ H Q I hw)
theorem Co (ha:PE X a ta) (hb:PE X (.BoolOp .And (b :: rest) pos) tb):PE X (.BoolOp .And (a :: b :: rest) pos) (Gg ta tb):=by
 intro pins s σ H Q I h;refine BoolOp_and (thn (ha pins s σ H _ I h) fun v s1 ⟨x,H1,I1,r1,q1⟩=>?_);obtain ⟨c,rfl,q1⟩:=q1
 cases r1;refine dO ?_
 cases c with
 | true=>exact hb pins s1 σ H1 Q I1 q1
 | false=>exact ⟨.bl false,H1,I1,rfl,q1⟩
def tIf (t:TT) (ta tb:TE):TE:=fun σ H Q=>t σ H fun c H1=>if c=true then ta σ H1 Q else tb σ H1 Q
theorem oU {c:cI} (hc:PT X c tA) (ha:PE X a ta) (hb:PE X b tb):PE X (.IfExp c a b pos) (tIf tA ta tb):=by
 intro pins s σ H Q I h;refine wpAny_IfExp (thn (hc pins s σ H _ I h) fun d s1 ⟨H1,I1,q1⟩=>?_)
 cases d with
 | true=>exact ha pins s1 σ H1 Q I1 q1
 | false=>exact hb pins s1 σ H1 Q I1 q1
end
def SqL (K:ai) (H:Hp) (a:ak) (xs:List V):Prop:=
 Rd H a (.lst xs) \/
  ∃ (o:Obj) (its:Array ag) (n:Nat),K.lookup a=some o/\o.cls=.type "list"/\o.dict=none/\o.data=.seq its n/\its.size<=aw/\dv xs its.toList
def SqT (K:ai) (H:Hp) (a:ak) (xs:List V):Prop:=
 Rd H a (.tup xs) \/
  ∃ (o:Obj) (its:Array ag) (n:Nat),K.lookup a=some o/\o.cls=.type "tuple"/\o.data=.seq its n/\its.size<=aw/\dv xs its.toList
def absV:ag->Option V
 | .none=>some .non
 | .bool b=>some (.bl b)
 | .int i _=>some (.int i)
 | .str x _=>some (.str x)
 | .bytes b _=>some (.byt b)
 | .float b _=>some (.flt b)
 | .ref a=>some (.ref a)
 | .type n=>some (.ty n)
 | _=>none
theorem RelV.abs {x:V} {u:ag} (r:RelV x u):absV u=some x:=by
 cases x with
 | non=>cases r; rfl
 | bl _=>cases r; rfl
 | int _=>obtain ⟨t,rfl⟩:=r; rfl
 | str _=>obtain ⟨t,rfl⟩:=r; rfl
 | byt _=>obtain ⟨t,rfl⟩:=r; rfl
 | flt _=>obtain ⟨t,rfl⟩:=r; rfl
 | ref _=>cases r; rfl
 | ty _=>cases r; rfl
theorem RelV.inj {x y:V} {u:ag} (r:RelV x u) (q:RelV y u):x=y:=bC (r.abs.symm.trans q.abs)
theorem dv.inj:∀ {xs ys:List V} {us:List ag},dv xs us->dv ys us->xs=ys
 | _,_,_,.nil,.nil=>rfl
 | _,_,_,.cons r t,.cons r' t'=>by rw [r.inj r',dv.inj t t']
section
variable {X:Cx} {pins:List (ak×Obj)} {σ:St} {H:Hp} {s:ah} {a:ak} {xs ys:List V}
theorem SqL.of {K:ai} (h:H a=some (.lst xs)):SqL K H a xs:=.inl (.inl h)
theorem SqT.of {K:ai} (h:H a=some (.tup xs)):SqT K H a xs:=.inl (.inl h)
theorem Inv.list (I:Inv X pins σ H s) (h:SqL X.K H a xs):∃ its:List ag,dv xs its/\PlainL s.heap a its.toArray/\xs.length<=aw:=by
 rcases h with h | ⟨o,its,n,hk,hc,hd,hs,hz,r⟩
 ·obtain ⟨z,its,n,r,e⟩:=h.ok I.hok;exact ⟨its,r,⟨_,n,e,rfl,rfl,rfl⟩,z⟩
 ·refine ⟨its.toList,r,⟨o,n,I.kIn a o hk,hc,hd,by simpa using hs⟩,?_⟩;have e:=r.length;simp only [cJ] at e;omega
theorem Inv.tuple (I:Inv X pins σ H s) (h:SqT X.K H a xs):∃ its:List ag,dv xs its/\IsTup s.heap a its.toArray/\xs.length<=aw:=by
 rcases h with h | ⟨o,its,n,hk,hc,hs,hz,r⟩
 ·obtain ⟨z,its,r,p⟩:=h.ok I.hok;exact ⟨its,r,p,z⟩
 ·refine ⟨its.toList,r,⟨o,I.kIn a o hk,hc,n,by simpa using hs⟩,?_⟩;have e:=r.length;simp only [cJ] at e;omega
theorem Inv.list_inj (I:Inv X pins σ H s) (h:SqL X.K H a xs) (h':SqL X.K H a ys):xs=ys:=by
 obtain ⟨its,r,⟨o,n,e,_,_,d⟩,_⟩:=I.list h;obtain ⟨its',r',⟨o',n',e',_,_,d'⟩,_⟩:=I.list h';rw [e] at e'; cases e';rw [d] at d';injection d' with d1 _;have:its=its':=by simpa using congrArg HP d1
 subst this;exact r.inj r'
end
abbrev Cx.wish (X:Cx) (E:ag->ah->Prop):Cx:={X with xe:=E}
abbrev Cx.nox (X:Cx):Cx:=X.wish fun _ _=>False
theorem Cx.Ok.wish {X:Cx} (ok:X.Ok) (E:ag->ah->Prop):(X.wish E).Ok:=
 ⟨ok.mod,ok.kind,ok.glob,ok.blt,ok.above,ok.inj,ok.has,ok.cab,ok.hd,ok.frames,ok.stk,ok.exf,ok.bs,ok.bsz,ok.noex,ok.exfs,ok.funs,ok.frf⟩
theorem Cx.Ok.unwish {X:Cx} {E:ag->ah->Prop} (ok:(X.wish E).Ok):X.Ok:=
 ⟨ok.mod,ok.kind,ok.glob,ok.blt,ok.above,ok.inj,ok.has,ok.cab,ok.hd,ok.frames,ok.stk,ok.exf,ok.bs,ok.bsz,ok.noex,ok.exfs,ok.funs,ok.frf⟩
section
variable {X:Cx} {pins:List (ak×Obj)} {σ:St} {H:Hp} {s:ah} {E:ag->ah->Prop}
theorem Inv.wish (I:Inv X pins σ H s) (E:ag->ah->Prop):Inv (X.wish E) pins σ H s:=⟨I.ok.wish E,I.os,I.bare,I.base,I.loc,I.cell,I.free,I.freeC,I.pin,I.hok,I.len⟩
theorem Inv.unwish (I:Inv (X.wish E) pins σ H s):Inv X pins σ H s:=⟨I.ok.unwish,I.os,I.bare,I.base,I.loc,I.cell,I.free,I.freeC,I.pin,I.hok,I.len⟩
theorem SP.unwish {D:Ends} {f:Flow} {s':ah} (h:SP (X.wish E) pins D f s'):SP X pins D f s':=by
 cases f with
 | next=>obtain ⟨σ',H',I,q⟩:=h; exact ⟨σ',H',I.unwish,q⟩
 | brk=>obtain ⟨σ',H',I,q⟩:=h; exact ⟨σ',H',I.unwish,q⟩
 | cont=>obtain ⟨σ',H',I,q⟩:=h; exact ⟨σ',H',I.unwish,q⟩
 | ret u=>obtain ⟨v,σ',H',I,r,q⟩:=h; exact ⟨v,σ',H',I.unwish,r,q⟩
theorem PSs.nox {st:List di} {t:TS} (h:PSs X.nox st t):PSs X st t:=fun pins s σ H D I hw =>
 cE (h pins s σ H D (I.wish _) hw) (fun _ _ q=>q.unwish) fun _ _ z=>cQ z
end
section
variable {X:Cx} {st:di} {rest:List di} {t u:TS} {e:cI} {te:TE} {pos:Pos}
def dX:TS:=fun D σ H=>D.nx σ H
def EM (t u:TS):TS:=fun D σ H=>t {D with nx:=u D} σ H
theorem bX:PSs X [] dX:=fun _ _ σ H _ I h=>fG ⟨σ,H,I,h⟩
theorem aE (h1:PS X st t) (h2:PSs X rest u):PSs X (st :: rest) (EM t u):=by
 intro pins s σ H D I h;refine wpAny_execs_cons (thn (h1 pins s σ H {D with nx:=u D} I h) fun f s1 q=>?_)
 cases f with
 | next =>
  obtain ⟨σ',H',I',q⟩:=q;exact h2 pins s1 σ' H' D I' q
 | ret v=>exact q
 | brk=>exact q
 | cont=>exact q
theorem aO (h1:PS X st t):PSs X [st] t:=by
 intro pins s σ H D I h;refine wpAny_execs_cons (thn (h1 pins s σ H D I h) fun f s1 q=>?_)
 cases f with
 | next=>exact fG q
 | ret v=>exact q
 | brk=>exact q
 | cont=>exact q
def HQ:TS:=fun D σ H=>D.bk σ H
theorem r9:PS X (.Break pos) HQ:=fun _ _ σ H _ I h=>wpAny_Break ⟨σ,H,I,h⟩
theorem Inv.quiet {pins:List (ak×Obj)} {σ:St} {H:Hp} {s:ah} (I:Inv X pins σ H s):interactive X.env=false:=by simp [interactive,I.ok.kind]
def Gh (te:TE):TS:=fun D σ H=>te σ H fun _ H1=>D.nx σ H1
theorem fZ (he:PE X e te) (hs:mI e none pos.line X.env=pure false:=by rfl):PS X (.Expr e pos) (Gh te):=by
 intro pins s σ H D I h;exact wpAny_Expr_any (thn (he pins s σ H _ I h) fun v s1 ⟨x,H1,I1,r1,q1⟩=>⟨σ,H1,I1,q1⟩) I.quiet hs
def vN (te:TE):TS:=fun D σ H=>te σ H D.rt
theorem bO (he:PE X e te):PS X (.Return (some e) pos) (vN te):=by
 intro pins s σ H D I h;exact wpAny_Return_some (thn (he pins s σ H _ I h) fun v s1 ⟨x,H1,I1,r1,q1⟩=>⟨x,σ,H1,I1,r1,q1⟩)
def vO (c:TT) (t u:TS):TS:=fun D σ H=>c σ H fun b H1=>if b=true then t D σ H1 else u D σ H1
theorem du {c:cI} {a b:List di} {tc:TT} (hc:PT X c tc) (ha:PSs X a t) (hb:PSs X b u):PS X (.If c a b pos) (vO tc t u):=by
 intro pins s σ H D I h;refine wpAny_If (thn (hc pins s σ H _ I h) fun d s1 ⟨H1,I1,q1⟩=>?_)
 cases d with
 | true=>exact ha pins s1 σ H1 D I1 q1
 | false=>exact hb pins s1 σ H1 D I1 q1
end
abbrev TG:=V->St->Hp->(St->Hp->Prop)->Prop
abbrev TGs:=List V->St->Hp->(St->Hp->Prop)->Prop
def PG (X:Cx) (target:cI) (t:TG):Prop:=
 ∀ (pins:List (ak×Obj)) (s:ah) (σ:St) (H:Hp) (v:V) (u:ag) (Q:St->Hp->Prop),Inv X pins σ H s->RelV v u->t v σ H Q ->
  aY (aM X.prog X.w) X.A (pF target X.env u) (fun _ s'=>∃ σ' H',Inv X pins σ' H' s'/\Q σ' H') X.xe s
def PGs (X:Cx) (ts:List cI) (t:TGs):Prop:=
 ∀ (pins:List (ak×Obj)) (s:ah) (σ:St) (H:Hp) (vs:List V) (us:List ag) (Q:St->Hp->Prop),Inv X pins σ H s->dv vs us->t vs σ H Q ->
  aY (aM X.prog X.w) X.A (assignInOrder ((kG ts X.env).map (·.2)) us) (fun _ s'=>∃ σ' H',Inv X pins σ' H' s'/\Q σ' H') X.xe s
abbrev HR:=V->V->V->Hp->(Hp->Prop)->Prop
def PSet (X:Cx) (t:HR):Prop:=
 ∀ (pins:List (ak×Obj)) (s:ah) (σ:St) (H:Hp) (o i v:V) (ov iv u:ag) (Q:Hp->Prop),Inv X pins σ H s->RelV o ov->RelV i iv->RelV v u->t o i v H Q ->
  aY (aM X.prog X.w) X.A (setItem ov iv u) (fun _ s'=>∃ H',Inv X pins σ H' s'/\Q H') X.xe s
section
variable {X:Cx} {pos:Pos}
def uG (i:Nat):TG:=fun v σ H Q=>Q (σ.set i (some v)) H
theorem df {i:Nat} {x:Str} (hN:X.N.Nodup) (hi:X.N[i]?=some x) (hx:Loc X.env.scope x) (hf:X.fn x=true\/X.env.scope.names.lookup x=some .local:=by first | exact .inl rfl | exact .inr rfl | assumption):PG X (.Name x pos) (uG i):=by
 intro pins s σ H v u Q I r h;exact vP (oS I hN hi hx r (fun s' I'=>⟨_,H,I',h⟩) hf)
def gNil:TGs:=fun vs σ H Q=>vs=[]/\Q σ H
inductive Gi (t:TG) (u:TGs) (vs:List V) (σ:St) (H:Hp) (Q:St->Hp->Prop):Prop where
 | mk (v:V) (r:List V) (h:vs=v :: r) (q:t v σ H fun σ' H'=>u r σ' H' Q):Gi t u vs σ H Q
def gCons (t:TG) (u:TGs):TGs:=fun vs σ H Q=>Gi t u vs σ H Q
theorem se:PGs X [] gNil:=by
 intro pins s σ H vs us Q I r h;obtain ⟨e,h⟩:=h;subst e
 cases r;exact assignInOrder_nil ⟨σ,H,I,h⟩
theorem ie {e:cI} {es:List cI} {t:TG} {u:TGs} (h1:PG X e t) (h2:PGs X es u)
  (hs:(kG (e :: es) X.env).map (·.2)=pF e X.env :: (kG es X.env).map (·.2):=by rfl):PGs X (e :: es) (gCons t u):=by
 intro pins s σ H vs us Q I r h;obtain ⟨v,vr,e1,h⟩:=h;subst e1
 cases r with
 | cons r rr =>
  rw [hs];refine assignInOrder_cons (thn (h1 pins s σ H _ _ _ I r h) fun _ s1 ⟨σ1,H1,I1,q1⟩=>?_);exact h2 pins s1 σ1 H1 _ _ Q I1 rr q1
inductive GTup (K:ai) (n:Nat) (t:TGs) (v:V) (σ:St) (H:Hp) (Q:St->Hp->Prop):Prop where
 | mk (a:ak) (xs:List V) (h:v=.ref a) (s:SqT K H a xs) (l:xs.length=n) (q:t xs σ H Q):GTup K n t v σ H Q
def gTup (K:ai) (n:Nat) (t:TGs):TG:=fun v σ H Q=>GTup K n t v σ H Q
theorem zC {es:List cI} {k:Nat} {t:TGs} {n:Nat} (hc:X.calm=true) (h:PGs X es t)
  (hn:(kG es X.env).length=n:=by rfl) (hst:(kG es X.env).findIdx? (·.1)=none:=by rfl):PG X (.Tuple es k pos) (gTup X.K n t):=by
 intro pins s σ H v u Q I r hw;obtain ⟨a,xs,e1,hq,hl,hw⟩:=hw;subst e1
 cases r;obtain ⟨its,rv,ht,hz⟩:=I.tuple hq;refine assign_Tuple_tuple (I.ok.hd hc) ht (by simp [hn,<- hl,rv.length]) hst fun h' hx=>?_;have I1:Inv X pins σ H {s with heap:=h'}:=I.kept (t':=s.toks) fun b o e=>hx b o (bz (ba e)) e;exact h pins _ σ H xs _ Q I1 (by simpa using rv) hw
def gSub (to ti:TE) (t:HR):TG:=fun v σ H Q=>to σ H fun o H1=>ti σ H1 fun i H2=>t o i v H2 fun H3=>Q σ H3
theorem Cp {o i:cI} {to ti:TE} {t:HR} (ho:PE X o to) (hi:PE X i ti) (hs:PSet X t)
  (ha:∀ v,pF (.Subscript o i pos) X.env v=(do
   let ov <- nG [v] (dE o X.env)
   let iv <- nG [v,ov] (dE i X.env)
   qc pos
   nG [v,ov,iv] (setItem ov iv v)
   release [v,ov,iv] []):=by intro _; rfl):PG X (.Subscript o i pos) (gSub to ti t):=by
 intro pins s σ H v u Q I r h;rw [ha];refine ae (bH (thn (ho pins s σ H _ I h) fun ov s1 ⟨x,H1,I1,r1,q1⟩=>?_));refine ae (bH (thn (hi pins s1 σ H1 _ I1 q1) fun iv s2 ⟨y,H2,I2,r2,q2⟩=>?_));refine ae (bU (ae (bH (thn (hs pins s2 σ H2 x y v ov iv u _ I2 r1 r2 r q2) fun _ s3 ⟨H3,I3,q3⟩=>?_))));exact wpAny_release ⟨σ,H3,I3,q3⟩
def Bk (te:TE) (g:TG):TS:=fun D σ H=>te σ H fun x H1=>g x σ H1 D.nx
theorem zD {tg e:cI} {te:TE} {g:TG} (he:PE X e te) (hg:PG X tg g) (hs:swapsWithSole [tg] e pos.line X.env=pure false:=by rfl) (hw:swappedStores [tg] e X.env=pure none:=by rfl)
  (h1:(kG [tg] X.env).map (·.2)=[pF tg X.env]:=by rfl):PS X (.Assign [tg] e pos) (Bk te g):=by
 intro pins s σ H D I h;refine wpAny_Assign_stores (thn (he pins s σ H _ I h) fun v s1 ⟨x,H1,I1,r1,q1⟩=>?_) hs hw;rw [h1];exact thn (hg pins s1 σ H1 x v _ I1 r1 q1) fun _ s2 q=>q
theorem bJ {i:Nat} {x:Str} {e:cI} {te:TE} {pos':Pos} (hN:X.N.Nodup) (hi:X.N[i]?=some x) (hx:Loc X.env.scope x) (he:PE X e te) (hs:mI e (some (.Name x pos')) pos.line X.env=pure false:=by rfl) (hf:X.fn x=true\/X.env.scope.names.lookup x=some .local:=by first | exact .inl rfl | exact .inr rfl | assumption) :
  PS X (.Assign [.Name x pos'] e pos) (Bk te (uG i)):=by
 intro pins s σ H D I h;refine wpAny_Assign_Name (thn (he pins s σ H _ I h) fun v s1 ⟨y,H1,I1,r1,q1⟩=>?_) hs;exact oS I1 hN hi hx r1 (fun s2 I2=>⟨_,H1,I2,q1⟩) hf
end
section
variable {X:Cx} {pos:Pos}
def Cq (c:TT) (tb:TS):TS:=fun D σ H=>∃ W:Nat->St->Hp->Prop,(∃ m,W m σ H)/\∀ m σ H,W m σ H ->
 c σ H fun b H1=>if b=true then ∃ N:St->Hp->Prop,(∀ σ' H',N σ' H'->∃ m',m' < m/\W m' σ' H')/\tb {D with nx:=N,ct:=N,bk:=D.nx} σ H1 else D.nx σ H1
theorem Cr {c:cI} {body:List di} {tc:TT} {tb:TS} (hp:xk (aM X.prog X.w) X.A X.env X.xe) (hc:PT X c tc) (hb:PSs X body tb):PS X (.While c body [] pos) (Cq tc tb):=by
 intro pins s σ H D I h;obtain ⟨W,⟨m0,w0⟩,turn⟩:=h;refine wpAny_While (codeAny_whileLoop (fun n s'=>∃ σ' H',Inv X pins σ' H' s'/\W n σ' H') ?_ m0 ⟨σ,H,I,w0⟩);rintro n s1 ⟨σ1,H1,I1,w1⟩;refine eA hp (thn (hc pins s1 σ1 H1 _ I1 (turn n σ1 H1 w1)) fun b s2 ⟨H2,I2,q2⟩=>?_)
 cases b with
 | true =>
  obtain ⟨N,hN,q2⟩:=q2;rw [if_pos rfl];refine eA hp (thn (hb pins s2 σ1 H2 _ I2 q2) fun f s3 q3=>?_)
  cases f with
  | next =>
   obtain ⟨σ3,H3,I3,n3⟩:=q3;obtain ⟨m',hm,w3⟩:=hN σ3 H3 n3;exact ⟨m',hm,σ3,H3,I3,w3⟩
  | cont =>
   obtain ⟨σ3,H3,I3,n3⟩:=q3;obtain ⟨m',hm,w3⟩:=hN σ3 H3 n3;exact ⟨m',hm,σ3,H3,I3,w3⟩
  | brk=>exact q3
  | ret v=>exact q3
 | false =>
  rw [if_neg aX];exact fG ⟨σ1,H2,I2,q2⟩
end
structure It where
 go:Nat->Hp->Prop
 yld:Nat->Hp->V->Hp->Prop
 stop:Nat->Hp->Prop
def xm (X:Cx) (pins:List (ak×Obj)) (H:Hp) (b:ak):Prop:=
 H b=none/\b≠X.env.locals/\b∉X.fs/\(b∈X.ex\/X.s₀.heap.objs.size<=b)/\(∀ x c,X.env.cells.lookup x=some c->c≠b)/\∀ p∈X.pn++pins,p.1≠b
theorem Inv.fpOk {X:Cx} {pins:List (ak×Obj)} {σ:St} {H H':Hp} {s:ah} {b:ak} (I:Inv X pins σ H s) (hb:s.heap.objs.size<=b) (hn:H' b=none):xm X pins H' b:=by
 refine ⟨hn,nM (bc I.lt hb),I.nofs hb,.inr (bN I.sz hb),fun x c e z=>?_,fun p hp z=>?_⟩
 ·obtain ⟨v,q⟩:=I.cell x c e;exact absurd (bc q.lt (by rw [z]; exact hb)) (d8 _)
 ·exact absurd (bc (ba (I.pin p hp).1) (by rw [z]; exact hb)) (d8 _)
structure Cs (P:aQ) (w:bT) (K:ai) (tg:cI) (J:It) (fp:List ak) (it:ak) (tn:Nat->cP->Prop):Prop where
 mem:it∈fp
 obj:∀ i h,tn i h->∀ b∈fp,∃ o,h.get? b=some o/\∀ v,o.data≠.cell v
 keep:∀ i h h',tn i h->(∀ b∈fp,∀ o,h.get? b=some o->h'.get? b=some o)->tn i h'
 item:∀ (X:Cx),X.prog=P->X.w=w->X.K=K->X.calm=true->∀ (i:Nat) (pins:List (ak×Obj)) (s:ah) (σ:St) (H:Hp) (E:ag->ah->Prop),Inv X pins σ H s->(∀ b∈fp,xm X pins H b)->tn i s.heap->J.go i H ->
  aY (aM P w) X.A (Ct (.ref it)) (fun r s1=>∃ u,r=some u /\
   aY (aM P w) X.A (jm tg (.ref it) u) (fun _ s2=>∃ x H',Inv X pins σ H' s2/\RelV x u/\J.yld i H x H'/\tn (i + 1) s2.heap/\∀ b∈fp,H' b=none) E s1) E s
 done:∀ (X:Cx),X.prog=P->X.w=w->X.K=K->X.calm=true->∀ (i:Nat) (pins:List (ak×Obj)) (s:ah) (σ:St) (H:Hp) (E:ag->ah->Prop),Inv X pins σ H s->(∀ b∈fp,xm X pins H b)->tn i s.heap->J.stop i H ->
  aY (aM P w) X.A (Ct (.ref it)) (fun r s1=>r=none/\Inv X pins σ H s1) E s
 self:∀ (A:bQ) (i:Nat) (s:ah) (Q:ag->ah->Prop) (E:ag->ah->Prop),tn i s.heap->Q (.ref it) s->aY (aM P w) A (HS (.ref it)) Q E s
abbrev TI:=St->Hp->(It->Hp->Prop)->Prop
def PIE (X:Cx) (pins:List (ak×Obj)) (σ:St) (tg:cI) (R:It->Hp->Prop) (itv:ag) (s2:ah):Prop:=
 ∃ (it:ak) (fp:List ak) (tn:Nat->cP->Prop) (J:It) (H':Hp),itv=.ref it/\Inv X pins σ H' s2/\Cs X.prog X.w X.K tg J fp it tn/\tn 0 s2.heap/\(∀ b∈fp,xm X pins H' b)/\R J H'
def PI (X:Cx) (tg iter:cI) (wi:TI):Prop:=
 ∀ (pins:List (ak×Obj)) (s:ah) (σ:St) (H:Hp) (R:It->Hp->Prop),Inv X pins σ H s->wi σ H R ->
  aY (aM X.prog X.w) X.A (dE iter X.env) (fun v s1=>aY (aM X.prog X.w) X.A (HS v) (PIE X pins σ tg R) X.xe s1) X.xe s
theorem Az {M:mB} {A:bQ} {E:ag->ah->Prop} {s:ah} {tg:cI} {it:ak} {u:ag} {o:Obj} {n:String} {vs:Array ag} {Q:Unit->ah->Prop} (ho:s.heap.get? it=some o) (hc:o.cls=.type n) (hd:o.data=.fields vs)
  (hn:["enumerate","zip","dict_itemiterator","dict_reverseitemiterator","odict_iterator","itertools.zip_longest","itertools.pairwise"].contains n=false) (hQ:Q () s):aY M A (jm tg (.ref it) u) Q E s:=by
 unfold jm
 cases tg <;> first
  | exact av hQ
  |(cases u <;> first
    | exact av hQ
    |(refine ae (wpAny_load ho ?_)
      rw [hc,hd];show aY M A (if (["enumerate","zip","dict_itemiterator","dict_reverseitemiterator","odict_iterator","itertools.zip_longest","itertools.pairwise"].contains n && vs[0]? == some (mJ _))=true then _ else _) Q E s;rw [if_neg (by intro h; rw [hn,oi] at h; cases h)];exact av hQ))
def Itl (K:ai) (a:ak):It:=
 ⟨fun i H=>∃ xs x,SqL K H a xs/\xs[i]?=some x,fun i H x H'=>H'=H/\∀ xs,SqL K H a xs->xs[i]?=some x,fun i H=>∃ xs,SqL K H a xs/\xs.length<=i⟩
def Itr (lo:Int) (n:Nat):It:=⟨fun i _=>i < n,fun i H x H'=>H'=H/\x=.int (lo + i),fun i _=>n<=i⟩
theorem Bm {P:aQ} {w:bT} {K:ai} {tg:cI} (a it:ak):Cs P w K tg (Itl K a) [it] it (fun i h=>h.IsListIter it a i) where
 mem:=by simp
 obj:=fun i h st b hb=>by
  have e:b=it:=by simpa using hb
  subst e;obtain ⟨o,e,c,d⟩:=st;exact ⟨o,e,fun v z=>by rw [d] at z; cases z⟩
 keep:=fun i h h' st k=>st.at fun o e=>k it (by simp) o e
 item:=by
  intro X hP hw hK hc i pins s σ H E I hf st hg;subst hP hw hK;obtain ⟨xs,x,hq,hx⟩:=hg;obtain ⟨its,rv,p,hz⟩:=I.list hq;obtain ⟨u,hu,ru⟩:=rv.get hx;obtain ⟨f0,f1,f2,f3,f4,f5⟩:=hf it (by simp);refine Cu st p.isList (x:=u) (by simpa using hu) fun h' st' sb=>?_;have I1:Inv X pins σ H {s with heap:=h'}:=I.turned (t':=s.toks) (fun b o hb e=>(sb.2 b hb).trans e) f0 f1 f3 f4 f5;obtain ⟨o,e,c,d⟩:=id st';exact ⟨u,rfl,Az (s:={s with heap:=h'}) e c d (by decide) ⟨x,H,I1,ru,⟨rfl,fun ys hy=>by rw [I.list_inj hy hq]; exact hx⟩,st',fun b hb=>(hf b hb).1⟩⟩
 done:=by
  intro X hP hw hK hc i pins s σ H E I hf st hg;subst hP hw hK;obtain ⟨xs,hq,hx⟩:=hg;obtain ⟨its,rv,p,hz⟩:=I.list hq;obtain ⟨f0,f1,f2,f3,f4,f5⟩:=hf it (by simp);have hl:=rv.length;exact ED (I.ok.hd hc) st p.isList (by simp; omega) fun h' eb=>⟨rfl,I.turned (t':=s.toks) (fun b o hb e=>eb b o hb e) f0 f1 f3 f4 f5⟩
 self:=fun _ _ _ _ _ st h=>wpAny_pyIter_listiter st h
theorem zE {P:aQ} {w:bT} {K:ai} {tg:cI} (it:ak) (lo:Int) (n:Nat):Cs P w K tg (Itr lo n) [it] it (fun i h=>IsRangeIter h it (lo + (i:Nat) * 1) ((n:Int) - (i:Nat)) 1) where
 mem:=by simp
 obj:=fun i h st b hb=>by
  have e:b=it:=by simpa using hb
  subst e;exact ⟨_,st,fun v z=>by
   have z':Data.fields _=Data.cell v:=z
   cases z'⟩
 keep:=fun i h h' st k=>k it (by simp) _ st
 item:=by
  intro X hP hw hK hc i pins s σ H E I hf st hg;subst hP hw hK;obtain ⟨f0,f1,f2,f3,f4,f5⟩:=hf it (by simp);have W:=Walks.range (prog:=X.prog) (w:=X.w) (I.ok.hd hc) it lo 1 n;refine W.item i s _ _ hg st fun v h' tk hv st' kk=>?_;obtain ⟨t,rfl⟩:=hv;have I1:Inv X pins σ H {s with heap:=h',toks:=tk}:=I.turned (fun b o hb e=>kk b o (by simpa using hb) e) f0 f1 f3 f4 f5;refine ⟨_,rfl,Az (s:={s with heap:=h',toks:=tk}) (n:="range_iterator") st' rfl rfl (by decide) ⟨.int (lo + i),H,I1,⟨t,?_⟩,⟨rfl,rfl⟩,st',fun b hb=>(hf b hb).1⟩⟩;rw [Int.mul_one]
 done:=by
  intro X hP hw hK hc i pins s σ H E I hf st hg;subst hP hw hK;obtain ⟨f0,f1,f2,f3,f4,f5⟩:=hf it (by simp);exact wpAny_pyNext_range_end (I.ok.hd hc) st (by have:n<=i:=hg; omega) fun h' eb=>⟨rfl,I.turned (t':=s.toks) (fun b o hb e=>eb b o hb e) f0 f1 f3 f4 f5⟩
 self:=fun _ _ _ _ _ st h=>wpAny_pyIter_rangeiter st h
section
variable {X:Cx} {tg:cI}
def wm (K:ai) (tl:TE):TI:=fun σ H R=>tl σ H fun x H1=>∃ a,x=.ref a/\(∃ xs,SqL K H1 a xs)/\R (Itl K a) H1
theorem gx {l:cI} {tl:TE} (hl:PE X l tl):PI X tg l (wm X.K tl):=by
 intro pins s σ H R I h;refine thn (hl pins s σ H _ I h) fun v s1 ⟨x,H1,I1,r1,q1⟩=>?_;obtain ⟨a,e,⟨xs,hq⟩,q⟩:=q1;subst e
 cases r1;obtain ⟨its,rv,p,hz⟩:=I1.list hq;refine vQ p.isList ?_;refine ⟨s1.heap.objs.size,[s1.heap.objs.size],_,_,H1,rfl,I1.kept (t':=s1.toks) fun b o e=>aD _ e,Bm a _,⟨_,bV _ rfl,rfl,rfl⟩,fun b hb=>?_,q⟩;have e:b=s1.heap.objs.size:=by simpa using hb
 subst e;exact I1.fpOk (ay _) (I1.hok.fresh (ay _))
theorem yv {pins:List (ak×Obj)} {σ:St} {H:Hp} {s:ah} {R:It->Hp->Prop} {E:ag->ah->Prop} {lo hi:Int} {t u v:Tok} {tk:Nat} (I:Inv X pins σ H s) (h1:-(2 ^ 62)<=lo) (h2:lo < 2 ^ 62) (h3:-(2 ^ 62)<=hi) (h4:hi < 2 ^ 62)
  (q:R (Itr lo (hi - lo).toNat) H):aY (aM X.prog X.w) X.A (HS (.ref s.heap.objs.size)) (PIE X pins σ tg R) E {s with heap:=s.heap.push {cls:=.type "range",data:=.fields #[.int lo t,.int hi u,.int 1 v]},toks:=tk}:=by
 refine wpAny_pyIter_range (IsRange.new ..) (small_one h1 h2 h3 h4) ?_;have I1:Inv X pins σ H {s with heap:=s.heap.push {cls:=.type "range",data:=.fields #[.int lo t,.int hi u,.int 1 v]},toks:=tk}:=I.kept fun b o e=>aD _ e;refine ⟨(s.heap.push {cls:=.type "range",data:=.fields #[.int lo t,.int hi u,.int 1 v]}).objs.size,[(s.heap.push {cls:=.type "range",data:=.fields #[.int lo t,.int hi u,.int 1 v]}).objs.size],_,_,H,rfl,
  I1.kept (t':=tk) fun b o e=>aD _ e,zE _ lo (hi - lo).toNat,?_,fun b hb=>?_,q⟩
 ·have e1:lo + ((0:Nat):Int) * 1=lo:=by simp
  have e2:(((hi - lo).toNat:Nat):Int) - ((0:Nat):Int)=Builtin.Range.rangeSize lo hi 1:=by rw [rangeSize_one]; split <;> omega
  show IsRangeIter _ _ (lo + ((0:Nat):Int) * 1) ((((hi - lo).toNat:Nat):Int) - ((0:Nat):Int)) 1;rw [e1,e2];exact bV _ rfl
 ·have e:b=(s.heap.push {cls:=.type "range",data:=.fields #[.int lo t,.int hi u,.int 1 v]}).objs.size:=by simpa using hb
  subst e;exact I1.fpOk (ay _) (I1.hok.fresh (ay _))
def Gj (ta:TA):TI:=fun σ H R=>ta σ H fun vs H1=>∃ j:Int,vs=[.int j]/\-(2 ^ 62)<=j/\j < 2 ^ 62/\R (Itr 0 j.toNat) H1
def iRng2 (ta:TA):TI:=fun σ H R=>ta σ H fun vs H1=>∃ i j:Int,vs=[.int i,.int j]/\(-(2 ^ 62)<=i/\i < 2 ^ 62/\-(2 ^ 62)<=j/\j < 2 ^ 62)/\R (Itr i (j - i).toNat) H1
theorem kH {a:cI} {ta:TA} {p pos:Pos} (hg:Gl X "range") (hm:X.mg "range"=none) (ha:PA X [a] ta) (hs:bB [a] X.env=[(false,dE a X.env)]:=by rfl):PI X tg (.Call (.Name "range" p) [a] [] pos) (Gj ta):=by
 intro pins s σ H R I h;refine Call_ (oF I hg hm boot_range (eI (thn (ha pos pins s σ H _ I h) fun us s1 ⟨vs,H1,I1,r1,q1⟩=>?_) hs rfl));obtain ⟨j,e,q1,q2,q⟩:=q1;subst e
 cases r1 with
 | cons r rr =>
  cases rr;obtain ⟨t,rfl⟩:=r;exact call_range_1 (yv I1 (by omega) (by omega) q1 q2 (by simpa using q))
theorem Bn {a b:cI} {ta:TA} {p pos:Pos} (hg:Gl X "range") (hm:X.mg "range"=none) (ha:PA X [a,b] ta) (hs:bB [a,b] X.env=[(false,dE a X.env),(false,dE b X.env)]:=by rfl) (hs2:bB [b] X.env=[(false,dE b X.env)]:=by rfl) :
  PI X tg (.Call (.Name "range" p) [a,b] [] pos) (iRng2 ta):=by
 intro pins s σ H R I h;refine Call_ (oF I hg hm boot_range (eI (thn (ha pos pins s σ H _ I h) fun us s1 ⟨vs,H1,I1,r1,q1⟩=>?_) (by rw [hs,hs2]) (by rw [hs2]; rfl)));obtain ⟨i,j,e,⟨q1,q2,q3,q4⟩,q⟩:=q1;subst e
 cases r1 with
 | cons r rr =>
  cases rr with
  | cons r' rr =>
   cases rr;obtain ⟨t,rfl⟩:=r;obtain ⟨t',rfl⟩:=r';exact call_range_2 (yv I1 q1 q2 q3 q4 q)
def tFor (wi:TI) (g:TG) (tb:TS):TS:=fun D σ H=>wi σ H fun J H1=>∃ W:Nat->Nat->St->Hp->Prop,(∃ m,W 0 m σ H1)/\∀ i m σ H,W i m σ H ->
 (J.stop i H/\D.nx σ H)\/(J.go i H/\∃ N:St->Hp->Prop,(∀ σ' H',N σ' H'->∃ m',m' < m/\W (i + 1) m' σ' H')/\∀ x H',J.yld i H x H'->g x σ H' fun σ2 H2=>tb {D with nx:=N,ct:=N,bk:=D.nx} σ2 H2)
def pG (fp:List ak) (h:cP):List (ak×Obj):=fp.filterMap fun b=>(h.get? b).map fun o=>(b,o)
theorem i8 {fp:List ak} {h:cP} {b:ak} {o:Obj} (hb:b∈fp) (e:h.get? b=some o):(b,o)∈pG fp h:=gR.mpr ⟨b,hb,by rw [e]; rfl⟩
theorem Bo {fp:List ak} {h:cP} {p:ak×Obj} (hp:p∈pG fp h):p.1∈fp/\h.get? p.1=some p.2:=by
 obtain ⟨b,hb,e⟩:=gR.mp hp
 cases q:h.get? b with
 | none=>rw [q] at e; cases e
 | some o =>
  rw [q] at e;have e':(b,o)=p:=bC e;subst e';exact ⟨hb,q⟩
theorem Inv.pinned {pins:List (ak×Obj)} {σ:St} {H:Hp} {s:ah} {fp:List ak} (I:Inv X pins σ H s) (hf:∀ b∈fp,xm X pins H b) (ho:∀ b∈fp,∃ o,s.heap.get? b=some o/\∀ v,o.data≠.cell v):Inv X (pins++pG fp s.heap) σ H s:=
 I.pins_of fun p hp=>(aN.mp hp).elim (fun z=>I.pin p (aP _ z)) fun z=>by
  obtain ⟨hb,e⟩:=Bo z;obtain ⟨f0,f1,f2,_⟩:=hf p.1 hb;obtain ⟨o,e',d⟩:=ho p.1 hb;rw [e] at e'; cases e';exact ⟨e,f0,f1,f2,d⟩
theorem Inv.unpinned {pins pl:List (ak×Obj)} {σ:St} {H:Hp} {s:ah} (I:Inv X (pins++pl) σ H s):Inv X pins σ H s:=I.pins_of fun p hp=>I.pin p (aP _ (cS _ hp))
theorem mK {iter:cI} {body:List di} {wi:TI} {g:TG} {tb:TS} {pos:Pos} (hp:xk (aM X.prog X.w) X.A X.env X.xe) (hc:X.calm=true) (hi:PI X tg iter wi) (hg:PG X tg g) (hb:PSs X body tb)
  (hs:∀ x,gG iter X.env x=pure x:=by intro _; rfl):PS X (.For tg iter body [] pos) (tFor wi g tb):=by
 intro pins s σ H D I h;refine wpAny_For (thn (hi pins s σ H _ I h) fun v s1 h1=>thn h1 fun itv s2 h2=>?_) hs;obtain ⟨it,fp,tn,J,H2,e,I2,T,st2,f2,W,⟨m0,w0⟩,turn⟩:=h2;subst e
 have stat:∀ {H':Hp},(∀ b∈fp,H' b=none)->∀ b∈fp,xm X pins H' b:=fun hn b hb=>⟨hn b hb,(f2 b hb).2⟩;refine codeAny_forLoop_any (fun n s'=>∃ i σ' H',Inv X pins σ' H' s'/\tn i s'.heap/\(∀ b∈fp,H' b=none)/\W i n σ' H') ?_ m0 ⟨0,σ,H2,I2,st2,fun b hb=>(f2 b hb).1,w0⟩;rintro n s3 ⟨i,σ3,H3,I3,st3,fr3,w3⟩
 rcases turn i n σ3 H3 w3 with ⟨stop,qn⟩ | ⟨go,N,hN,step⟩
 ·refine eA hp (thn (T.done X rfl rfl rfl hc i pins s3 σ3 H3 X.xe I3 (stat fr3) st3 stop) fun r s4 ⟨hr,I4⟩=>?_);subst hr;exact fG ⟨σ3,H3,I4,qn⟩
 ·refine eA hp (thn (T.item X rfl rfl rfl hc i pins s3 σ3 H3 X.xe I3 (stat fr3) st3 go) fun r s4 ⟨u,hr,h4⟩=>?_);subst hr;refine eA hp (thn h4 fun _ s5 ⟨x,H5,I5,r5,y5,st5,fr5⟩=>?_);have I5':=I5.pinned (stat fr5) (T.obj _ _ st5);refine eA hp (thn (hg _ s5 σ3 H5 x u _ I5' r5 (step x H5 y5)) fun _ s6 ⟨σ6,H6,I6,q6⟩=>?_);refine eA hp (thn (hb _ s6 σ6 H6 _ I6 q6) fun f s7 q7=>?_);have again:∀ {σ7:St} {H7:Hp},Inv X (pins++pG fp s5.heap) σ7 H7 s7->N σ7 H7->∃ m,m < n/\∃ i σ' H',Inv X pins σ' H' s7/\tn i s7.heap/\(∀ b∈fp,H' b=none)/\W i m σ' H':=fun {σ7 H7} I7 n7=>by
   obtain ⟨m',hm,w7⟩:=hN σ7 H7 n7;refine ⟨m',hm,i + 1,σ7,H7,I7.unpinned,T.keep _ _ _ st5 fun b hb o e=>(I7.pin (b,o) (aP _ (aP _ (i8 hb e)))).1,fun b hb=>?_,w7⟩;obtain ⟨o,e,d⟩:=T.obj _ _ st5 b hb;exact (I7.pin (b,o) (aP _ (aP _ (i8 hb e)))).2.1
  cases f with
  | next=>obtain ⟨σ7,H7,I7,n7⟩:=q7; exact again I7 n7
  | cont=>obtain ⟨σ7,H7,I7,n7⟩:=q7; exact again I7 n7
  | brk=>obtain ⟨σ7,H7,I7,q7⟩:=q7; exact ⟨σ7,H7,I7.unpinned,q7⟩
  | ret v=>obtain ⟨x7,σ7,H7,I7,r7,q7⟩:=q7; exact ⟨x7,σ7,H7,I7.unpinned,r7,q7⟩
end
theorem kX {K:ai} {a:ak} {xs:List V} {g:TG} {tb:TS} {D:Ends} {σ:St} {H:Hp} (Pv:Nat->St->Hp->Prop) (h0:Pv 0 σ H) (hl:∀ i σ H,i<=xs.length->Pv i σ H->SqL K H a xs)
  (hs:∀ i x σ H,xs[i]?=some x->Pv i σ H->g x σ H fun σ2 H2=>tb {D with nx:=Pv (i + 1),ct:=Pv (i + 1),bk:=D.nx} σ2 H2) (hd:∀ σ H,Pv xs.length σ H->D.nx σ H) :
  ∃ W:Nat->Nat->St->Hp->Prop,(∃ m,W 0 m σ H)/\∀ i m σ H,W i m σ H ->
   ((Itl K a).stop i H/\D.nx σ H)\/((Itl K a).go i H/\∃ N:St->Hp->Prop,(∀ σ' H',N σ' H'->∃ m',m' < m/\W (i + 1) m' σ' H')/\∀ x H',(Itl K a).yld i H x H'->g x σ H' fun σ2 H2=>tb {D with nx:=N,ct:=N,bk:=D.nx} σ2 H2):=by
 refine ⟨fun i m σ H=>m=xs.length - i/\i<=xs.length/\Pv i σ H,⟨xs.length,by simp,aU _,h0⟩,?_⟩;rintro i m σ H ⟨rfl,hi,p⟩;have q:=hl i σ H hi p
 by_cases hlt:i < xs.length
 ·refine .inr ⟨⟨xs,xs[i],q,by simp [hlt]⟩,Pv (i + 1),fun σ' H' p'=>⟨xs.length - (i + 1),by omega,rfl,hlt,p'⟩,fun x H' y=>?_⟩;obtain ⟨e,y⟩:=y;subst e;exact hs i x σ _ (y xs q) p
 ·have e:i=xs.length:=by omega
  subst e;exact .inl ⟨⟨xs,q,ay _⟩,hd σ H p⟩
theorem mC {lo:Int} {n:Nat} {g:TG} {tb:TS} {D:Ends} {σ:St} {H:Hp} (Pv:Nat->St->Hp->Prop) (h0:Pv 0 σ H)
  (hs:∀ i σ H,i < n->Pv i σ H->g (.int (lo + i)) σ H fun σ2 H2=>tb {D with nx:=Pv (i + 1),ct:=Pv (i + 1),bk:=D.nx} σ2 H2) (hd:∀ σ H,Pv n σ H->D.nx σ H) :
  ∃ W:Nat->Nat->St->Hp->Prop,(∃ m,W 0 m σ H)/\∀ i m σ H,W i m σ H ->
   ((Itr lo n).stop i H/\D.nx σ H)\/((Itr lo n).go i H/\∃ N:St->Hp->Prop,(∀ σ' H',N σ' H'->∃ m',m' < m/\W (i + 1) m' σ' H')/\∀ x H',(Itr lo n).yld i H x H'->g x σ H' fun σ2 H2=>tb {D with nx:=N,ct:=N,bk:=D.nx} σ2 H2):=by
 refine ⟨fun i m σ H=>m=n - i/\i<=n/\Pv i σ H,⟨n,by simp,aU _,h0⟩,?_⟩;rintro i m σ H ⟨rfl,hi,p⟩
 by_cases hlt:i < n
 ·refine .inr ⟨hlt,Pv (i + 1),fun σ' H' p'=>⟨n - (i + 1),by omega,rfl,hlt,p'⟩,fun x H' y=>?_⟩;obtain ⟨e,y⟩:=y;subst e y;exact hs i σ _ hlt p
 ·have e:i=n:=by omega
  subst e;exact .inl ⟨ay _,hd σ H p⟩
abbrev R2:=V->V->Hp->VK->Prop
def OpR (X:Cx) (f:ag->ag->Sem ag) (r:R2):Prop:=
 ∀ (pins:List (ak×Obj)) (s:ah) (σ:St) (H:Hp) (x y:V) (v u:ag) (Q:VK),Inv X pins σ H s->RelV x v->RelV y u->r x y H Q ->
  aY (aM X.prog X.w) X.A (f v u) (EP X pins σ Q) X.xe s
def UnR (X:Cx) (f:ag->Sem ag) (r:V->Hp->VK->Prop):Prop:=
 ∀ (pins:List (ak×Obj)) (s:ah) (σ:St) (H:Hp) (x:V) (v:ag) (Q:VK),Inv X pins σ H s->RelV x v->r x H Q ->
  aY (aM X.prog X.w) X.A (f v) (EP X pins σ Q) X.xe s
def oj (X:Cx) (f:ag) (r:List V->Hp->VK->Prop):Prop:=
 ∀ (pins:List (ak×Obj)) (s:ah) (σ:St) (H:Hp) (xs:List V) (us:List ag) (Q:VK),Inv X pins σ H s->dv xs us->r xs H Q ->
  aY (aM X.prog X.w) X.A (sX f us) (EP X pins σ Q) X.xe s
def TruR (X:Cx) (r:V->Hp->(Bool->Hp->Prop)->Prop):Prop:=
 ∀ (pins:List (ak×Obj)) (s:ah) (σ:St) (H:Hp) (x:V) (v:ag) (Q:Bool->Hp->Prop),Inv X pins σ H s->RelV x v->r x H Q ->
  aY (aM X.prog X.w) X.A (HM v) (TP X pins σ Q) X.xe s
def tOp (r:R2) (ta tb:TE):TE:=fun σ H Q=>ta σ H fun x H1=>tb σ H1 fun y H2=>r x y H2 Q
def tUn (r:V->Hp->VK->Prop) (ta:TE):TE:=fun σ H Q=>ta σ H fun x H1=>r x H1 Q
inductive RI (C:Int->Int->Prop) (g:Int->Int->V) (x y:V) (H:Hp) (Q:VK):Prop where
 | mk (i j:Int) (hx:x=.int i) (hy:y=.int j) (c:C i j) (q:Q (g i j) H):RI C g x y H Q
def rI (C:Int->Int->Prop) (g:Int->Int->V):R2:=fun x y H Q=>RI C g x y H Q
inductive RI0 (g:Int->Int->V) (x y:V) (H:Hp) (Q:VK):Prop where
 | mk (i j:Int) (hx:x=.int i) (hy:y=.int j) (q:Q (g i j) H):RI0 g x y H Q
def rI0 (g:Int->Int->V):R2:=fun x y H Q=>RI0 g x y H Q
inductive RU (g:Int->V) (x:V) (H:Hp) (Q:VK):Prop where
 | mk (i:Int) (hx:x=.int i) (q:Q (g i) H):RU g x H Q
def rU (g:Int->V):V->Hp->VK->Prop:=fun x H Q=>RU g x H Q
section
variable {X:Cx} {a b c:cI} {ta tb tc:TE} {pos:Pos}
theorem HU (ha:PE X a ta) (hb:PE X b tb) {pins:List (ak×Obj)} {s:ah} {σ:St} {H:Hp} {R:V->V->Hp->Prop} (I:Inv X pins σ H s)
  (h:ta σ H fun x H1=>tb σ H1 fun y H2=>R x y H2) {Q:ag->ah->Prop} {f:ag->ag->Sem ag}
  (hf:∀ v u s2 x y H2,Inv X pins σ H2 s2->RelV x v->RelV y u->R x y H2->aY (aM X.prog X.w) X.A (f v u) Q X.xe s2) :
  aY (aM X.prog X.w) X.A (dE a X.env) (fun v s₁=>aY (aM X.prog X.w) X.A (dE b X.env) (fun u s₂=>aY (aM X.prog X.w) X.A (f v u) Q X.xe s₂) X.xe s₁) X.xe s:=by
 refine thn (ha pins s σ H _ I h) fun v s1 ⟨x,H1,I1,r1,q1⟩=>?_;refine thn (hb pins s1 σ H1 _ I1 q1) fun u s2 ⟨y,H2,I2,r2,q2⟩=>?_;exact hf v u s2 x y H2 I2 r1 r2 q2
theorem bI {op:zF} {r:R2} (ho:OpR X (jG op) r) (ha:PE X a ta) (hb:PE X b tb):PE X (.BinOp a op b pos) (tOp r ta tb):=by
 intro pins s σ H Q I h;exact wpAny_BinOp (HU ha hb I h fun v u s2 x y H2 I2 rx ry q=>ho pins s2 σ H2 x y v u Q I2 rx ry q)
theorem AA {op:UnaryOp} {r:V->Hp->VK->Prop} (ho:UnR X (unaryOp op) r) (ha:PE X a ta):PE X (.UnaryOp op a pos) (tUn r ta):=by
 intro pins s σ H Q I h;exact UnaryOp_ (thn (ha pins s σ H _ I h) fun v s1 ⟨x,H1,I1,r1,q1⟩=>ho pins s1 σ H1 x v Q I1 r1 q1)
theorem opI {f:ag->ag->Sem ag} {C:Int->Int->Prop} {g:Int->Int->Int}
  (rule:∀ (i j:Int) (t u:Tok) (s:ah) (Q:ag->ah->Prop) (E:ag->ah->Prop),C i j->Q (.int (g i j) s.toks) {s with toks:=s.toks + 1}->aY (aM X.prog X.w) X.A (f (.int i t) (.int j u)) Q E s) :
  OpR X f (rI C fun i j=>.int (g i j)):=by
 intro pins s σ H x y v u Q I rx ry h;obtain ⟨i,j,rfl,rfl,hc,q⟩:=h;obtain ⟨t,rfl⟩:=rx;obtain ⟨t',rfl⟩:=ry;exact rule i j t t' s _ _ hc ⟨.int (g i j),H,I.tok _,⟨_,rfl⟩,q⟩
theorem opI0 {f:ag->ag->Sem ag} {g:Int->Int->Int}
  (rule:∀ (i j:Int) (t u:Tok) (s:ah) (Q:ag->ah->Prop) (E:ag->ah->Prop),Q (.int (g i j) s.toks) {s with toks:=s.toks + 1}->aY (aM X.prog X.w) X.A (f (.int i t) (.int j u)) Q E s) :
  OpR X f (rI0 fun i j=>.int (g i j)):=by
 intro pins s σ H x y v u Q I rx ry h;obtain ⟨i,j,rfl,rfl,q⟩:=h;obtain ⟨t,rfl⟩:=rx;obtain ⟨t',rfl⟩:=ry;exact rule i j t t' s _ _ ⟨.int (g i j),H,I.tok _,⟨_,rfl⟩,q⟩
theorem EN {f:ag->ag->Sem ag} {g:Int->Int->Bool}
  (rule:∀ (i j:Int) (t u:Tok) (s:ah) (Q:ag->ah->Prop) (E:ag->ah->Prop),Q (.bool (g i j)) s->aY (aM X.prog X.w) X.A (f (.int i t) (.int j u)) Q E s) :
  OpR X f (rI0 fun i j=>.bl (g i j)):=by
 intro pins s σ H x y v u Q I rx ry h;obtain ⟨i,j,rfl,rfl,q⟩:=h;obtain ⟨t,rfl⟩:=rx;obtain ⟨t',rfl⟩:=ry;exact rule i j t t' s _ _ ⟨.bl (g i j),H,I,rfl,q⟩
def EO (i j:Int):Prop:=0<=j/\j<=1000000/\i.natAbs < 2 ^ 64
def HV (i j:Int):Prop:=(-(2 ^ 64) < i/\i < 2 ^ 64)\/(-(2 ^ 64) < j/\j < 2 ^ 64)
theorem HV.ok {i j:Int} (h:HV i j):IntMulOk i j:=by
 rcases h with ⟨h1,h2⟩ | ⟨h1,h2⟩
 ·exact .of_left (intBits_le_64 h1 h2)
 ·exact .of_right (intBits_le_64 h1 h2)
theorem fJ:OpR X (jG .Add) (rI0 fun i j=>.int (i + j)):=opI0 fun _ _ _ _ _ _ _ q=>add_int q
theorem kI:OpR X (jG .Sub) (rI0 fun i j=>.int (i - j)):=opI0 fun _ _ _ _ _ _ _ q=>sub_int q
theorem rE:OpR X (jG .Mult) (rI HV fun i j=>.int (i * j)):=opI fun _ _ _ _ _ _ _ hc q=>mul_int q hc.ok
theorem mL:OpR X (jG .Mod) (rI (fun _ j=>0 < j) fun i j=>.int (i % j)):=opI fun i j _ _ _ _ _ hc q=>by
 have h1:(0:Int) < j:=hc;exact mod_int' (by omega) (by rw [Int.fmod_eq_emod_of_nonneg i (by omega)]; exact q)
theorem qt:OpR X (jG .Pow) (rI EO fun i j=>.int (i ^ j.toNat)):=opI fun _ _ _ _ _ _ _ hc q=>pow_int_small hc.1 hc.2.1 hc.2.2 q
theorem unI {f:ag->Sem ag} {g:Int->Int}
  (rule:∀ (i:Int) (t:Tok) (s:ah) (Q:ag->ah->Prop) (E:ag->ah->Prop),Q (.int (g i) s.toks) {s with toks:=s.toks + 1}->aY (aM X.prog X.w) X.A (f (.int i t)) Q E s) :
  UnR X f (rU fun i=>.int (g i)):=by
 intro pins s σ H x v Q I rx h;obtain ⟨i,rfl,q⟩:=h;obtain ⟨t,rfl⟩:=rx;exact rule i t s _ _ ⟨.int (g i),H,I.tok _,⟨_,rfl⟩,q⟩
theorem xo:UnR X (unaryOp .USub) (rU fun i=>.int (-i)):=unI fun _ _ _ _ _ q=>neg_int q
end
def HW:V->V->Bool
 | .non,.non=>true | .non,.int _=>true | .int _,.non=>true | .non,.bl _=>true | .bl _,.non=>true | .non,.str _=>true | .str _,.non=>true
 | .int _,.int _=>true | .bl _,.bl _=>true | .str _,.str _=>true | .byt _,.byt _=>true
 | .int _,.str _=>true | .str _,.int _=>true | .bl _,.str _=>true | .str _,.bl _=>true
 | _,_=>false
def rEq:R2:=fun x y H Q=>HW x y=true/\Q (.bl (decide (x=y))) H
def rNe:R2:=fun x y H Q=>HW x y=true/\Q (.bl (!decide (x=y))) H
theorem AB {i j:Int}:decide (V.int i=V.int j)=(i == j):=by
 rw [qv];simp
theorem Cv {i j:Bool}:decide (V.bl i=V.bl j)=(i == j):=by
 rw [qv];simp
theorem AC {i j:Str}:decide (V.str i=V.str j)=(i == j):=by
 rw [qv];simp
theorem AD {i j:Array UInt8}:decide (V.byt i=V.byt j)=(i.toList == j.toList):=by
 rw [qv]
 cases i
 cases j;simp
section
variable {X:Cx} {a b c:cI} {ta tb tc:TE} {pos:Pos}
theorem ej {pins:List (ak×Obj)} {σ:St} {H:Hp} {s:ah} {Q:VK} {k k':Bool} (I:Inv X pins σ H s) (q:Q (.bl k) H) (e:k=k'):EP X pins σ Q (.bool k') s:=by
 subst e;exact ⟨.bl k,H,I,rfl,q⟩
theorem eD:OpR X (dA .Eq) rEq:=by
 intro pins s σ H x y v u Q I rx ry h;obtain ⟨hs,q⟩:=h
 cases x with
 | non =>
  cases rx
  cases y with
  | non=>cases ry; exact PySem.EqNone.eq_none_none (ej I q (by simp))
  | bl j=>cases ry; exact PySem.EqNone.eq_none_bool (ej I q (by simp))
  | int j=>obtain ⟨t',rfl⟩:=ry; exact PySem.EqNone.eq_none_int (ej I q (by simp))
  | str j=>obtain ⟨t',rfl⟩:=ry; exact PySem.EqNone.eq_none_str (ej I q (by simp))
  | _=>exact absurd (show false=true from hs) aX
 | bl i =>
  cases rx
  cases y with
  | non=>cases ry; exact PySem.EqNone.eq_bool_none (ej I q (by simp))
  | bl j=>cases ry; exact eq_bool (ej I q Cv)
  | str j=>obtain ⟨t',rfl⟩:=ry; exact PySem.EqMixed.eq_bool_str (ej I q (by simp))
  | _=>exact absurd (show false=true from hs) aX
 | int i =>
  obtain ⟨t,rfl⟩:=rx
  cases y with
  | non=>cases ry; exact PySem.EqNone.eq_int_none (ej I q (by simp))
  | int j=>obtain ⟨t',rfl⟩:=ry; exact eq_int (ej I q AB)
  | str j=>obtain ⟨t',rfl⟩:=ry; exact PySem.EqMixed.eq_int_str (ej I q (by simp))
  | _=>exact absurd (show false=true from hs) aX
 | str i =>
  obtain ⟨t,rfl⟩:=rx
  cases y with
  | non=>cases ry; exact PySem.EqNone.eq_str_none (ej I q (by simp))
  | bl j=>cases ry; exact PySem.EqMixed.eq_str_bool (ej I q (by simp))
  | int j=>obtain ⟨t',rfl⟩:=ry; exact PySem.EqMixed.eq_str_int (ej I q (by simp))
  | str j=>obtain ⟨t',rfl⟩:=ry; exact eq_str (ej I q AC)
  | _=>exact absurd (show false=true from hs) aX
 | byt i =>
  obtain ⟨t,rfl⟩:=rx
  cases y with
  | byt j=>obtain ⟨t',rfl⟩:=ry; exact PySem.W.eq_bytes (ej I q AD)
  | _=>exact absurd (show false=true from hs) aX
 | _=>cases y <;> exact absurd (show false=true from hs) aX
theorem wo:OpR X (dA .NotEq) rNe:=by
 intro pins s σ H x y v u Q I rx ry h;obtain ⟨hs,q⟩:=h
 cases x with
 | non =>
  cases rx
  cases y with
  | non=>cases ry; exact PySem.EqNone.ne_none_none (ej I q (by simp))
  | bl j=>cases ry; exact PySem.EqNone.ne_none_bool (ej I q (by simp))
  | int j=>obtain ⟨t',rfl⟩:=ry; exact PySem.EqNone.ne_none_int (ej I q (by simp))
  | str j=>obtain ⟨t',rfl⟩:=ry; exact PySem.EqNone.ne_none_str (ej I q (by simp))
  | _=>exact absurd (show false=true from hs) aX
 | bl i =>
  cases rx
  cases y with
  | non=>cases ry; exact PySem.EqNone.ne_bool_none (ej I q (by simp))
  | bl j=>cases ry; exact ne_bool (ej I q (congrArg not Cv))
  | str j=>obtain ⟨t',rfl⟩:=ry; exact PySem.EqMixed.ne_bool_str (ej I q (by simp))
  | _=>exact absurd (show false=true from hs) aX
 | int i =>
  obtain ⟨t,rfl⟩:=rx
  cases y with
  | non=>cases ry; exact PySem.EqNone.ne_int_none (ej I q (by simp))
  | int j=>obtain ⟨t',rfl⟩:=ry; exact ne_int (ej I q (congrArg not AB))
  | str j=>obtain ⟨t',rfl⟩:=ry; exact PySem.EqMixed.ne_int_str (ej I q (by simp))
  | _=>exact absurd (show false=true from hs) aX
 | str i =>
  obtain ⟨t,rfl⟩:=rx
  cases y with
  | non=>cases ry; exact PySem.EqNone.ne_str_none (ej I q (by simp))
  | bl j=>cases ry; exact PySem.EqMixed.ne_str_bool (ej I q (by simp))
  | int j=>obtain ⟨t',rfl⟩:=ry; exact PySem.EqMixed.ne_str_int (ej I q (by simp))
  | str j=>obtain ⟨t',rfl⟩:=ry; exact ne_str (ej I q (congrArg not AC))
  | _=>exact absurd (show false=true from hs) aX
 | byt i =>
  obtain ⟨t,rfl⟩:=rx
  cases y with
  | byt j=>obtain ⟨t',rfl⟩:=ry; exact PySem.W.ne_bytes (ej I q (congrArg not AD))
  | _=>exact absurd (show false=true from hs) aX
 | _=>cases y <;> exact absurd (show false=true from hs) aX
theorem om:OpR X (dA .Lt) (rI0 fun i j=>.bl (decide (i < j))):=EN fun _ _ _ _ _ _ _ q=>lt_int q
theorem AE:OpR X (dA .LtE) (rI0 fun i j=>.bl (decide (i<=j))):=EN fun _ _ _ _ _ _ _ q=>le_int q
theorem tK:OpR X (dA .Gt) (rI0 fun i j=>.bl (decide (j < i))):=EN fun _ _ _ _ _ _ _ q=>gt_int q
theorem Gm:OpR X (dA .GtE) (rI0 fun i j=>.bl (decide (j<=i))):=EN fun _ _ _ _ _ _ _ q=>ge_int q
theorem j3:OpR X (dA .Is) (fun x y H Q=>y=.non/\Q (.bl (decide (x=.non))) H):=by
 intro pins s σ H x y v u Q I rx ry h;obtain ⟨rfl,q⟩:=h
 cases ry;refine is_none_gen (ej I q ?_)
 cases x <;> first
  |(cases rx; rfl)
  |(obtain ⟨t,rfl⟩:=rx; rfl)
theorem ER:OpR X (dA .IsNot) (fun x y H Q=>y=.non/\Q (.bl (!decide (x=.non))) H):=by
 intro pins s σ H x y v u Q I rx ry h;obtain ⟨rfl,q⟩:=h
 cases ry;refine isnot_none_gen (ej I q ?_)
 cases x <;> first
  |(cases rx; rfl)
  |(obtain ⟨t,rfl⟩:=rx; rfl)
theorem bR (b:cI) {op:Ca} (h:op≠.In:=by decide) (h2:op≠.NotIn:=by decide):nF op b=false:=by
 have e1:(op == CmpOp.In)=false:=by cases op <;> first | rfl | exact absurd rfl h
 have e2:(op == CmpOp.NotIn)=false:=by cases op <;> first | rfl | exact absurd rfl h2
 cases b <;> simp [nF,e1,e2]
theorem qM {op:Ca} {r:R2} (ho:OpR X (dA op) r) (ha:PE X a ta) (hb:PE X b tb) (hm:nF op b=false):PE X (.Compare a [op] [b] pos) (tOp r ta tb):=by
 intro pins s σ H Q I h;exact wpAny_Compare1 (HU ha hb I h fun v u s2 x y H2 I2 rx ry q=>ho pins s2 σ H2 x y v u Q I2 rx ry q) hm
def sf (t:TE):TT:=fun σ H Q=>t σ H fun x H'=>BlI x H' Q
theorem bh {op:Ca} {r:R2} (ho:OpR X (dA op) r) (ha:PE X a ta) (hb:PE X b tb) (hm:nF op b=false):PT X (.Compare a [op] [b] pos) (sf (tOp r ta tb)):=by
 intro pins s σ H Q I h;refine EC (thn (ha pins s σ H _ I h) fun v s1 ⟨x,H1,I1,r1,q1⟩=>thn (hb pins s1 σ H1 _ I1 q1) fun u s2 ⟨y,H2,I2,r2,q2⟩ =>
  thn (ho pins s2 σ H2 x y v u _ I2 r1 r2 q2) fun c s3 ⟨z,H3,I3,r3,k,e,q3⟩=>?_) hm
 subst e
 cases r3;exact dO ⟨H3,I3,q3⟩
def Cw (r r':R2) (ta tb tc:TE):TE:=fun σ H Q=>ta σ H fun x H1=>tb σ H1 fun y H2=>r x y H2 fun z H3=>∃ k,z=.bl k /\
 (if k=true then tc σ H3 fun w' H4=>r' y w' H4 Q else Q (.bl false) H3)
theorem yw {op op':Ca} {r r':R2} (ho:OpR X (dA op) r) (ho':OpR X (dA op') r') (ha:PE X a ta) (hb:PE X b tb) (hc:PE X c tc)
  (hm:lastMarks [op,op'] [b,c]=false:=by with_unfolding_all rfl):PE X (.Compare a [op,op'] [b,c] pos) (Cw r r' ta tb tc):=by
 intro pins s σ H Q I h;refine Compare_chain (thn (ha pins s σ H _ I h) fun v s1 ⟨x,H1,I1,r1,q1⟩=>chain_link (thn (hb pins s1 σ H1 _ I1 q1) fun u s2 ⟨y,H2,I2,r2,q2⟩ =>
  thn (ho pins s2 σ H2 x y v u _ I2 r1 r2 q2) fun d s3 ⟨z,H3,I3,r3,k,e,q3⟩=>?_)) hm
 subst e
 cases r3;refine dO ?_
 cases k with
 | false=>exact ite_ff ⟨.bl false,H3,I3,rfl,q3⟩
 | true=>exact ite_tt (chain_last (thn (hc pins s3 σ H3 _ I3 q3) fun w' s4 ⟨z',H4,I4,r4,q4⟩=>ho' pins s4 σ H4 y z' u w' Q I4 r2 r4 q4))
theorem Cy {op op':Ca} {r r':R2} (ho:OpR X (dA op) r) (ho':OpR X (dA op') r') (ha:PE X a ta) (hb:PE X b tb) (hc:PE X c tc)
  (hm:lastMarks [op,op'] [b,c]=false:=by with_unfolding_all rfl):PT X (.Compare a [op,op'] [b,c] pos) (sf (Cw r r' ta tb tc)):=by
 intro pins s σ H Q I h;refine isTrue_chain (thn (ha pins s σ H _ I h) fun v s1 ⟨x,H1,I1,r1,q1⟩=>test_link (thn (hb pins s1 σ H1 _ I1 q1) fun u s2 ⟨y,H2,I2,r2,q2⟩ =>
  thn (ho pins s2 σ H2 x y v u _ I2 r1 r2 q2) fun d s3 ⟨z,H3,I3,r3,k,e,q3⟩=>?_)) hm
 subst e
 cases r3;refine dO ?_
 cases k with
 | false =>
  obtain ⟨k',e',q'⟩:=q3
  cases e';exact ite_ff ⟨H3,I3,q'⟩
 | true =>
  refine ite_tt (test_last (thn (hc pins s3 σ H3 _ I3 q3) fun w' s4 ⟨z',H4,I4,r4,q4⟩=>thn (ho' pins s4 σ H4 y z' u w' _ I4 r2 r4 q4) fun d' s5 ⟨z2,H5,I5,r5,k2,e2,q5⟩=>?_));subst e2
  cases r5;exact dO ⟨H5,I5,q5⟩
def HX (K:ai) (x:V) (H:Hp) (k:Bool):Prop:=
 match x with
 | .non=>k=false
 | .bl b=>k=b
 | .int i=>k=(i != 0)
 | .str y=>y.length<=aw/\k=((y.length:Int) != 0)
 | .byt y=>y.size<=aw/\k=((y.size:Int) != 0)
 | .ref p=>(∃ xs,SqL K H p xs/\k=!xs.isEmpty)\/(∃ xs,SqT K H p xs/\k=!xs.isEmpty)\/∃ kvs,H p=some (.dK kvs)/\k=!kvs.isEmpty
 | _=>False
theorem zG {κ:Type} {kvs:List (κ×V)} {vs:List (κ×ag)} (r:KV kvs vs):(!vs.isEmpty)=!kvs.isEmpty:=by
 cases r <;> rfl
theorem uH {xs:List V} {its:List ag} (r:dv xs its):(!its.toArray.isEmpty)=!xs.isEmpty:=by
 cases r <;> simp
theorem rF:(aw:Nat) < 2 ^ 63:=by rw [qf]; decide
theorem HY:TruR X (fun x H Q=>∃ k,HX X.K x H k/\Q k H):=by
 intro pins s σ H x v Q I rx h;obtain ⟨k,e,q⟩:=h;have hl:=rF;have hs:aw=16777216:=qf
 cases x with
 | non =>
  cases rx;have e':k=false:=e;subst e';exact truthy_none ⟨H,I,q⟩
 | bl b =>
  cases rx;have e':k=b:=e;subst e';exact dO ⟨H,I,q⟩
 | int i =>
  obtain ⟨t,rfl⟩:=rx;have e':k=(i != 0):=e;subst e';exact PySem.P.truthy_int ⟨H,I,q⟩
 | str y =>
  obtain ⟨t,rfl⟩:=rx;obtain ⟨hy,e'⟩:y.length<=aw/\k=((y.length:Int) != 0):=e;subst e';exact PySem.P.truthy_str (by omega) ⟨H,I.tok _,q⟩
 | byt y =>
  obtain ⟨t,rfl⟩:=rx;obtain ⟨hy,e'⟩:y.size<=aw/\k=((y.size:Int) != 0):=e;subst e';exact PySem.W.truthy_bytes (by omega) ⟨H,I.tok _,q⟩
 | ref p =>
  cases rx;have e':(∃ xs,SqL X.K H p xs/\k=!xs.isEmpty)\/(∃ xs,SqT X.K H p xs/\k=!xs.isEmpty)\/∃ kvs,H p=some (.dK kvs)/\k=!kvs.isEmpty:=e
  rcases e' with ⟨xs,hx,e'⟩ | ⟨xs,hx,e'⟩ | ⟨kvs,hx,e'⟩
  ·subst e';obtain ⟨its,r,pl,hz⟩:=I.list hx;have hlen:=r.length;exact wpAny_truthy_list pl.isList (by simp only [aI]; omega) ⟨H,I.tok _,by rw [uH r]; exact q⟩
  ·subst e';obtain ⟨its,r,pl,hz⟩:=I.tuple hx;have hlen:=r.length;exact truthy_tuple pl (by simp only [aI]; omega) ⟨H,I.tok _,by rw [uH r]; exact q⟩
  ·subst e';obtain ⟨hz,hS,vs,r,m⟩:kvs.length<=aw/\(p == gk)=false/\∃ vs,KV kvs vs/\s.heap.DictOf (iE X.prog X.w) p vs:=I.hok p _ hx;have hlen:kvs.length=vs.length:=kW r;exact wpAny_truthy_dict hS m (by omega) ⟨H,I.tok _,by rw [zG r]; exact q⟩
 | _=>exact (show False from e).elim
theorem uI (ha:PE X a ta) (he:∀ whole,oE a X.env whole=(do let v <- whole; qc a.pos; nG [v] (HM v))) :
  PT X a (fun σ H Q=>ta σ H fun x H'=>∃ k,HX X.K x H' k/\Q k H'):=by
 intro pins s σ H Q I h;exact isTrue_plain (thn (ha pins s σ H _ I h) fun v s1 ⟨x,H1,I1,r1,q1⟩=>HY pins s1 σ H1 x v Q I1 r1 q1) (he _)
theorem cV:OpR X (jG .Add) (fun x y H Q=>∃ i j,x=.str i/\y=.str j/\i.length + j.length<=aw/\Q (.str (i++j)) H):=by
 intro pins s σ H x y v u Q I rx ry h;obtain ⟨i,j,rfl,rfl,hz,q⟩:=h;obtain ⟨t,rfl⟩:=rx;obtain ⟨t',rfl⟩:=ry;exact add_str (fun t' tk=>⟨.str (i++j),H,I.tok _,⟨_,rfl⟩,q⟩) hz
theorem vals1 {x:V} {us:List ag} (r:dv [x] us):∃ u,us=[u]/\RelV x u:=by
 cases r with
 | cons r1 r2=>cases r2; exact ⟨_,rfl,r1⟩
theorem vals2 {x y:V} {us:List ag} (r:dv [x,y] us):∃ u w',us=[u,w']/\RelV x u/\RelV y w':=by
 cases r with
 | cons r1 r2 =>
  cases r2 with
  | cons r3 r4=>cases r4; exact ⟨_,_,rfl,r1,r3⟩
theorem yx:oj X (.builtin "abs") (fun xs H Q=>∃ i,xs=[.int i]/\Q (.int (if i < 0 then -i else i)) H):=by
 intro pins s σ H xs us Q I r h;obtain ⟨i,rfl,q⟩:=h;obtain ⟨u,rfl,t,rfl⟩:=vals1 r;exact call_abs_int fun u tk=>⟨.int (if i < 0 then -i else i),H,I.tok _,⟨_,rfl⟩,q⟩
theorem wq:oj X (.type "int") (fun xs H Q=>(∃ i,xs=[.int i]/\Q (.int i) H)\/∃ k,xs=[.bl k]/\Q (.int (if k then 1 else 0)) H):=by
 intro pins s σ H xs us Q I r h
 rcases h with ⟨i,rfl,q⟩ | ⟨k,rfl,q⟩
 ·obtain ⟨u,rfl,t,rfl⟩:=vals1 r;exact call_int_int ⟨.int i,H,I,⟨_,rfl⟩,q⟩
 ·obtain ⟨u,rfl,r1⟩:=vals1 r
  cases r1;exact call_int_bool ⟨.int (if k then 1 else 0),H,I.tok _,⟨_,rfl⟩,q⟩
theorem jo:oj X (.type "str") (fun xs H Q=>∃ i,xs=[.int i]/\i.natAbs.log2 < 1920/\Q (.str (toString i)) H):=by
 intro pins s σ H xs us Q I r h;obtain ⟨i,rfl,hz,q⟩:=h;obtain ⟨u,rfl,t,rfl⟩:=vals1 r;exact PySem.P.str_of_int hz ⟨.str _,H,I.tok _,⟨_,rfl⟩,q⟩
end
structure zH (h:cP) (x dx C:ak) (mA:Str->Option ag):Prop where
 obj:h.get? x=some (gX C dx)
 ns:h.Ns1 dx mA
 ne:dx≠x
theorem wt {h:cP} {dx:ak} {mA:Str->Option ag} (n:h.Ns1 dx mA):∃ od,h.get? dx=some od/\∀ name,j4 name od=some (mA name):=by
 obtain ⟨o,es,ep,ho,hd,hk,_,hm⟩:=n;refine ⟨o,ho,fun name=>?_⟩;have e:=hm name;unfold nsFind findBy at e;rw [<- Array.find?_toList] at e;unfold j4;rw [hd];dsimp only
 split
 ·rename_i y q
  rw [q] at e;exact congrArg some e
 ·rename_i q
  rw [q] at e;have a:es.toList.any (·.refKey)=false:=by
   rw [List.any_eq_false];intro y hy;obtain ⟨z,t,hkey⟩:=hk y (Array.mem_toList_iff.mp hy);simp [DictEntry.refKey,hkey]
  have a':¬ es.toList.any (·.refKey)=true:=by rw [a]; exact aX
  rw [if_neg a'];exact congrArg some e
theorem zH.look {h:cP} {x dx C:ak} {mA:Str->Option ag} (I:zH h x dx C mA):∃ od,eE h x (gX C dx) C (some od)/\∀ name,j4 name od=some (mA name):=
 let ⟨od,ho,hl⟩:=wt I.ns
 ⟨od,⟨I.obj,rfl,rfl,ho⟩,hl⟩
section
variable {prog:aQ} {w:bT} {A:bQ} {E:ag->ah->Prop} {s:ah} {K:ai} {x dx C f:ak} {mA:Str->Option ag} {name:Str} {v:ag}
theorem ES {expr:Bool} {Q:ag->ah->Prop} (X:K.In s.heap) (I:zH s.heap x dx C mA) (hg:oV K C name=true) (hh:j5 K C=true)
  (ha:cf K (.ref C) name=some none) (hv:mA name=some v) (hv':sY v=true) (h:Q v {s with toks:=s.toks + 1}) :
  aY (aM prog w) A (Cz (.ref x) name expr) Q E s:=by
 obtain ⟨od,J,hl⟩:=I.look;exact PySem.W.get_value X J (q0 hg).1 (zr hh ha rfl (by rw [hl,hv])) hv' h
theorem CA {pl:Sem Bool} {Q:ag×List ag->ah->Prop} (X:K.In s.heap) (I:zH s.heap x dx C mA) (hg:oV K C name=true)
  (hf:cf K (.ref C) name=some (some (.ref f))) (ht:j6 K (.ref f)=true) (hv:mA name=none) (h:Q (.ref f,[.ref x]) s) :
  aY (aM prog w) A (xp (.ref x) name pl) Q E s:=by
 obtain ⟨od,J,hl⟩:=I.look;exact PySem.W.method_fn X J (q0 hg).1 (q0 hg).2 hf (beq_iff_eq.mp ht) (by show (j4 name od).map (·.isSome)=some false; rw [hl,hv]; rfl) h
theorem ET {ns:List Str} {Q:Unit->ah->Prop} (X:K.In s.heap) (I:zH s.heap x dx C mA)
  (hs:cf K (.ref C) "__setattr__"=some (some (.builtin "object.__setattr__"))) (hp:AF K C=true) (ht:tX K C name=some none) (hh:j5 K C=true)
  (hw:yt mA ns) (hsz:ns.length<=aw)
  (h:∀ h',zH h' x dx C (fun y=>if y=name then some v else mA y)->nC dx s.heap h'->Q () {s with heap:=h',toks:=s.toks + 2}) :
  aY (aM prog w) A (setAttr (.ref x) name v) Q E s:=by
 obtain ⟨od,J,hl⟩:=I.look;refine AG X J hs (PySem.W.osa_open (s:={s with toks:=s.toks + 1}) (r:=none) X J hp ht fun b=>?_);obtain ⟨cd,hc,hd'⟩:=sZ hh;have hx:s.heap.get? x=some ⟨.ref C,some dx,.plain,#[]⟩:=I.obj;refine ae (av (ae (ae (tf hx (ae (kY (s:={s with toks:=s.toks + 1}) (q8 X hc) ?_))))));rw [hd'];refine av (a:=some dx) (ae (av (ae ?_)));refine wpAny_nsSet1 (s:={s with toks:=s.toks + 1}) I.ns fun h' hn2 hs2=>?_;obtain ⟨oD,esD,epD,hoD,hdD,hcD⟩:=hn2.count (PySem.Within.cons name v hw);refine ae (wpAny_lookBehind hoD (by rw [hdD]; exact pastItsLine_dict (bN hcD (by rw [aG]; omega))) ?_);exact av (h _ ⟨(hs2.2 _ (eW I.ne)).trans I.obj,hn2,I.ne⟩ hs2)
theorem CB {R:mO->ah->Prop} {vs:List ag} {kw:List (Str×ag)} (X:K.In s.heap) (hm:tY K C=true)
  (hi:cf K (.ref C) "__init__"=some (some (.ref f))) (hf:PySem.W.typeIn K (.ref f)=some (.type "function"))
  (h:qg (aM prog w) (A.under (.builtin "type.__call__" ⟨.ref C :: vs,kw⟩)) (.call (.ref f) ⟨.ref (s.heap.objs.size + 1) :: vs,kw⟩) (PySem.W.InitBack (s.heap.objs.size + 1) R)
   {s with heap:=(s.heap.push eY).push (gX C s.heap.objs.size)}) :
  qg (aM prog w) A (.call (.ref C) ⟨vs,kw⟩) R s:=by
 obtain ⟨hh,g,d,t,os⟩:=s;exact PySem.W.make_core (PySem.W.makes_of X hm) (eP X hi) (fun self=>PySem.W.bind_fn X self hf) (.inl rfl) h
end
def lP (f:Str) (v:V):List (Str×V)->List (Str×V)
 | []=>[(f,v)]
 |(g,x) :: r=>if g=f then (g,v) :: r else (g,x) :: lP f v r
theorem tL (f g:Str) (v:V):∀ fs:List (Str×V),(lP f v fs).lookup g=if g=f then some v else fs.lookup g
 | []=>by
  show dU g [(f,v)]=_
  by_cases h:g=f
  ·have hb:(g == f)=true:=beq_iff_eq.mpr h;simp only [dU,hb,if_pos h]
  ·have hb:(g == f)=false:=beq_eq_false_iff_ne.mpr h;simp only [dU,hb,if_neg h]
 |(k,x) :: r=>by
  have ih:=tL f g v r;rw [show lP f v ((k,x) :: r)=(if k=f then (k,v) :: r else (k,x) :: lP f v r) from rfl]
  by_cases hk:k=f
  ·rw [if_pos hk]
   by_cases h:g=k
   ·have hb:(g == k)=true:=beq_iff_eq.mpr h;simp only [dU,hb,if_pos (h.trans hk)]
   ·have hb:(g == k)=false:=beq_eq_false_iff_ne.mpr h;simp only [dU,hb,if_neg (fun e:g=f=>h (e.trans hk.symm))]
  ·rw [if_neg hk]
   by_cases h:g=k
   ·have hb:(g == k)=true:=beq_iff_eq.mpr h;simp only [dU,hb,if_neg (fun e:g=f=>hk (h.symm.trans e))]
   ·have hb:(g == k)=false:=beq_eq_false_iff_ne.mpr h;simp only [dU,hb];exact ih
theorem tm (f:Str) (v:V):∀ fs:List (Str×V),f∈(lP f v fs).map (·.1)/\∀ g,g∈fs.map (·.1)->g∈(lP f v fs).map (·.1)
 | []=>⟨by simp [lP],fun g h=>by simp at h⟩
 |(k,x) :: r=>by
  obtain ⟨i1,i2⟩:=tm f v r;rw [show lP f v ((k,x) :: r)=(if k=f then (k,v) :: r else (k,x) :: lP f v r) from rfl]
  by_cases hk:k=f
  ·rw [if_pos hk];subst hk;exact ⟨by simp,fun g h=>by simpa using h⟩
  ·rw [if_neg hk];refine ⟨?_,fun g h=>?_⟩
   ·rw [bY];exact az _ i1
   ·rw [bY] at h |-
    rcases ar.mp h with e | e
    ·exact ar.mpr (.inl e)
    ·exact az _ (i2 g e)
theorem tM (f:Str) (v:V):∀ fs:List (Str×V),(lP f v fs).length<=fs.length + 1
 | []=>by simp [lP]
 |(k,x) :: r=>by
  have ih:=tM f v r;rw [show lP f v ((k,x) :: r)=(if k=f then (k,v) :: r else (k,x) :: lP f v r) from rfl]
  by_cases hk:k=f
  ·rw [if_pos hk,aG,aG]; omega
  ·rw [if_neg hk,aG,aG]; omega
theorem rY.some_of {v:V} {o:Option ag} (r:rY (some v) o):∃ u,o=some u/\RelV v u:=by
 cases o with
 | none=>exact (show False from r).elim
 | some u=>exact ⟨u,rfl,r⟩
theorem rY.none_of {o:Option ag} (r:rY none o):o=none:=by
 cases o with
 | none=>rfl
 | some u=>exact (show False from r).elim
theorem wu {v:V} {u:ag} (r:RelV v u):sY u=true:=by
 cases v with
 | non=>cases (show u=Value.none from r); rfl
 | bl b=>cases (show u=Value.bool b from r); rfl
 | int i=>obtain ⟨t,e⟩:=(show ∃ t,u=Value.int i t from r); cases e; rfl
 | str x=>obtain ⟨t,e⟩:=(show ∃ t,u=Value.str x t from r); cases e; rfl
 | byt b=>obtain ⟨t,e⟩:=(show ∃ t,u=Value.bytes b t from r); cases e; rfl
 | flt b=>obtain ⟨t,e⟩:=(show ∃ t,u=Value.float b t from r); cases e; rfl
 | ref a=>cases (show u=Value.ref a from r); rfl
 | ty n=>cases (show u=Value.type n from r); rfl
section
variable {P:aQ} {w:bT} {H H':Hp} {h h':cP} {a C dx:ak} {fs fs':List (Str×V)}
theorem xq (hok:HOk P w H h) (e:H a=some (.ins C dx fs)):∃ mA,zH h a dx C mA/\(∀ f,rY (fs.lookup f) (mA f))/\yt mA (fs.map (·.1))/\fs.length<=1000/\H dx=some (.own a):=by
 obtain ⟨d,z,ne,ob,mA,n,r,q⟩:=(show gB P w H h a (.ins C dx fs) from hok a _ e);exact ⟨mA,⟨ob,n,ne⟩,r,q,z,d⟩
end
structure Cls (K:ai) (C:ak):Prop where
 pg:oV K C zu=true
 hd:j5 K C=true
 po:AF K C=true
 sa:cf K (.ref C) "__setattr__"=some (some (.builtin "object.__setattr__"))
theorem Cls.get {K:ai} {C:ak} (c:Cls K C) (f:Str):oV K C f=true:=c.pg
def oG (K:ai) (C:ak) (f:Str):Prop:=cf K (.ref C) f=some none
theorem oG.taker {K:ai} {C:ak} {f:Str} (n:oG K C f):tX K C f=some none:=by
 unfold tX;rw [show cf K (.ref C) f=some none from n];rfl
structure Bp (K:ai) (C:ak) (m:Str) (f:ak):Prop where
 at_:cf K (.ref C) m=some (some (.ref f))
 fn:j6 K (.ref f)=true
 kp:dY K (.ref f)=true
section
variable {X:Cx} {pins:List (ak×Obj)} {σ:St} {H:Hp} {s:ah} {a C dx:ak} {fs:List (Str×V)} {f:Str} {v:V} {A:bQ} {E:ag->ah->Prop}
theorem uJ {b:Bool} {Q:ag->ah->Prop} (I:Inv X pins σ H s) (e:H a=some (.ins C dx fs)) (c:Cls X.K C) (n:oG X.K C f) (l:fs.lookup f=some v)
  (h:∀ u s',Inv X pins σ H s'->RelV v u->Q u s'):aY (aM X.prog X.w) A (Cz (.ref a) f b) Q E s:=by
 obtain ⟨mA,O,r,_,_,_⟩:=xq I.hok e;obtain ⟨u,hu,ru⟩:=rY.some_of (v:=v) (o:=mA f) (by rw [<- l]; exact r f);exact ES I.kIn O (c.get f) c.hd n hu (wu ru) (h u _ (I.tok _) ru)
theorem rG {m:Str} {g:ak} {pl:Sem Bool} {Q:ag×List ag->ah->Prop} (I:Inv X pins σ H s) (e:H a=some (.ins C dx fs)) (c:Cls X.K C) (k:Bp X.K C m g) (l:fs.lookup m=none)
  (h:Q (.ref g,[.ref a]) s):aY (aM X.prog X.w) A (xp (.ref a) m pl) Q E s:=by
 obtain ⟨mA,O,r,_,_,_⟩:=xq I.hok e;have hn:mA m=none:=rY.none_of (by rw [<- l]; exact r m);exact CA I.kIn O (c.get m) k.at_ k.fn hn h
theorem uK {y:V} {u:ag} {Q:Unit->ah->Prop} (I:Inv X pins σ H s) (e:H a=some (.ins C dx fs)) (c:Cls X.K C) (n:oG X.K C f) (hl:fs.length < 1000) (ry:RelV y u)
  (h:∀ s',Inv X pins σ (upd H a (.ins C dx (lP f y fs))) s'->Q () s'):aY (aM X.prog X.w) A (setAttr (.ref a) f u) Q E s:=by
 obtain ⟨mA,O,r,wi,_,ho⟩:=xq I.hok e;have hz:(fs.map (·.1)).length<=aw:=by rw [aa,qf]; omega
 refine ET I.kIn O c.sa c.po n.taker c.hd wi hz fun h' O' sb=>h _ ?_;have hd:∃ o,h'.get? dx=some o:=let ⟨o,_,_,e',_⟩:=O'.ns; ⟨o,e'⟩;refine I.write (x:=a) (e:=dx) (by rw [e]; exact True.intro) (.inr ho) (fun b q hb z=>(sb.2 b hb).trans z) hd ?_;refine ⟨by rw [aT O.ne]; exact ho,?_,O.ne,O'.obj,_,O'.ns,fun g=>?_,fun g hg=>?_⟩
 ·have:=tM f y fs; omega
 ·show rY ((lP f y fs).lookup g) (if g=f then some u else mA g);rw [tL]
  by_cases q:g=f
  ·rw [if_pos q,if_pos q]; exact ry
  ·rw [if_neg q,if_neg q]; exact r g
 ·by_cases q:g=f
  ·rw [q]; exact (tm f y fs).1
  ·refine (tm f y fs).2 g (wi g fun z=>hg ?_);show (if g=f then some u else mA g)=none;rw [if_neg q]; exact z
theorem Inv.made (I:Inv X pins σ H s):Inv X pins σ (upd (upd H s.heap.objs.size (.own (s.heap.objs.size + 1))) (s.heap.objs.size + 1) (.ins C s.heap.objs.size []))
  {s with heap:=(s.heap.push eY).push (gX C s.heap.objs.size)}:=by
 have e1:(s.heap.push eY).get? s.heap.objs.size=some eY:=bV s.heap rfl;have e2:((s.heap.push eY).push (gX C s.heap.objs.size)).get? (s.heap.objs.size + 1)=some (gX C s.heap.objs.size):=by
  have:=bV (s.heap.push eY) (o:=gX C s.heap.objs.size) rfl
  rwa [kC] at this
 have e3:(s.heap.push eY).Ns s.heap.objs.size (fun _=>none):=⟨eY,#[],_,e1,rfl,(fun e he=>absurd he (by simp)),fun _=>rfl⟩;have I1:=I.laid (a:=s.heap.objs.size) (o:=.own (s.heap.objs.size + 1)) (h':=s.heap.push eY) (t':=s.toks) (fun b u q=>aD _ q) (ay _) ⟨_,e1⟩;refine I1.laid (a:=s.heap.objs.size + 1) (o:=.ins C s.heap.objs.size []) (t':=s.toks) (fun b u q=>aD _ q) (zI (kC _ _)) ?_;have ne:s.heap.objs.size≠s.heap.objs.size + 1:=bz (lE _);refine ⟨by rw [aT ne,ao],aU _,ne,e2,fun _=>none,(zJ e3).at fun o q=>aD _ q,fun _=>True.intro,fun y hy=>absurd rfl hy⟩
theorem AH {prog:aQ} {w:bT} {env:Env} {e:cI} {f:Str} {pos:Pos} {s:ah} {Q:ag->ah->Prop} (hb:iF e f env (dE e env)=dE e env)
  (h:aY (aM prog w) A (dE e env) (fun o s₁=>aY (aM prog w) A (Cz o f true) Q E s₁) E s):aY (aM prog w) A (dE (.Attribute e f pos) env) Q E s:=
 Attribute_any_ h (by rw [arm_eval_Attribute,hb])
end
inductive FldI (K:ai) (f:Str) (x:V) (H:Hp) (Q:VK):Prop where
 | mk (a C dx:ak) (fs:List (Str×V)) (v:V) (hx:x=.ref a) (h:H a=some (.ins C dx fs)) (c:Cls K C) (n:oG K C f) (e:fs.lookup f=some v) (q:Q v H):FldI K f x H Q
def EU (K:ai) (ta:TE) (f:Str):TE:=fun σ H Q=>ta σ H fun x H1=>FldI K f x H1 Q
def sFld (K:ai) (ta tv:TE) (f:Str):TS:=fun D σ H=>tv σ H fun y H1=>ta σ H1 fun x H2=>∃ a C dx fs,x=.ref a/\H2 a=some (.ins C dx fs)/\Cls K C/\oG K C f/\fs.length < 1000 /\
 D.nx σ (upd H2 a (.ins C dx (lP f y fs)))
def InOp (X:Cx) (op:zF) (rd:V->V->Hp->VK->Prop):Prop:=
 ∀ (pins:List (ak×Obj)) (s:ah) (σ:St) (H:Hp) (x y:V) (u v:ag) (Q:VK),Inv X pins σ H s->RelV x u->RelV y v->rd x y H Q->aY (aM X.prog X.w) X.A (inplaceOp op u v) (EP X pins σ Q) X.xe s
def EV (K:ai) (ta tv:TE) (rd:V->V->Hp->VK->Prop) (f:Str):TS:=fun D σ H=>ta σ H fun x H1=>∃ a C dx fs v,x=.ref a/\H1 a=some (.ins C dx fs)/\Cls K C/\oG K C f/\fs.lookup f=some v /\
 tv σ H1 fun y H2=>rd v y H2 fun z H3=>∃ dx' fs',H3 a=some (.ins C dx' fs')/\fs'.length < 1000/\D.nx σ (upd H3 a (.ins C dx' (lP f z fs')))
section
variable {X:Cx} {o e value:cI} {f:Str} {pos pos' tpos:Pos} {ta tv:TE}
theorem HZ (he:PE X e ta) (hb:iF e f X.env (dE e X.env)=dE e X.env):PE X (.Attribute e f pos) (EU X.K ta f):=by
 intro pins s σ H Q I h;refine AH hb (thn (he pins s σ H _ I h) fun u s1 ⟨x,H1,I1,rx,a,C,dx,fs,v,ex,ea,c,n,l,q⟩=>?_);subst ex;obtain rfl:u=Value.ref a:=rx;exact uJ I1 ea c n l fun u' s2 I2 ru=>⟨v,H1,I2,ru,q⟩
theorem xt (ha:PE X o ta) (hv:PE X value tv) (hs:mI value (some (.Attribute o f pos')) pos.line X.env=pure false):PS X (.Assign [.Attribute o f pos'] value pos) (sFld X.K ta tv f):=by
 intro pins s σ H D I h;refine wy (thn (hv pins s σ H _ I h) fun u s1 ⟨y,H1,I1,ry,q⟩=>thn (ha pins s1 σ H1 _ I1 q) fun ov s2 ⟨x,H2,I2,rx,a,C,dx,fs,ex,ea,c,n,l,q2⟩=>?_) hs;subst ex;obtain rfl:ov=Value.ref a:=rx;exact uK I2 ea c n l ry fun s3 I3=>⟨σ,_,I3,q2⟩
theorem wz {op:zF} {rd:V->V->Hp->VK->Prop} (ha:PE X o ta) (hv:PE X value tv) (hop:InOp X op rd):PS X (.AugAssign (.Attribute o f tpos) op value pos) (EV X.K ta tv rd f):=by
 intro pins s σ H D I h;refine wpAny_AugAssign_AttributeAny (thn (ha pins s σ H _ I h) fun ov s1 ⟨x,H1,I1,rx,a,C,dx,fs,v,ex,ea,c,n,l,q⟩=>?_);subst ex;obtain rfl:ov=Value.ref a:=rx;refine uJ I1 ea c n l fun u s2 I2 ru=>thn (hv pins s2 σ H1 _ I2 q) fun w3 s3 ⟨y,H2,I3,ry,q3⟩=>thn (hop pins s3 σ H2 v y u w3 _ I3 ru ry q3) fun w4 s4 ⟨z,H3,I4,rz,dx',fs',ea',l',q4⟩=>?_;exact uK I4 ea' c n l' rz fun s5 I5=>⟨σ,_,I5,q4⟩
def rAdd:V->V->Hp->VK->Prop:=fun x y H Q=>∃ i j,x=.int i/\y=.int j/\Q (.int (i + j)) H
theorem CC:InOp X .Add rAdd:=by
 rintro pins s σ H x y u v Q I rx ry ⟨i,j,rfl,rfl,q⟩;obtain ⟨t,rfl⟩:=(show ∃ t,u=Value.int i t from rx);obtain ⟨t',rfl⟩:=(show ∃ t',v=Value.int j t' from ry);exact PyProof.Rows.iadd_int ⟨.int (i + j),H,I.tok _,⟨_,rfl⟩,q⟩
theorem methcall_of {pl:Sem Bool} {m:Str} {apos:Pos} {args:List cI} {pins:List (ak×Obj)} {s:ah} {σ:St} {H:Hp} {Q:ag->ah->Prop} {te:TE} (he:PE X e te) (I:Inv X pins σ H s)
  (h:te σ H fun x H1=>∃ a C dx fs g,x=.ref a/\H1 a=some (.ins C dx fs)/\Cls X.K C/\Bp X.K C m g/\fs.lookup m=none /\
   ∀ s1,Inv X pins σ H1 s1->aY (aM X.prog X.w) X.A (ky pos (.ref g) [.ref a] (eR pos (bB args X.env)) (pI pos (jH [] X.env))) Q X.xe s1)
  (ht:dE (.Call (.Attribute e m apos) args [] pos) X.env=(do
   let ov <- dE e X.env
   qc apos.atName
   let (f,first) <- nG [ov] (xp ov m pl)
   ky pos f first (eR pos (bB args X.env)) (pI pos (jH [] X.env)))) :
  aY (aM X.prog X.w) X.A (dE (.Call (.Attribute e m apos) args [] pos) X.env) Q X.xe s:=by
 refine qb (pl:=pl) (thn (he pins s σ H _ I h) fun u s1 ⟨x,H1,I1,rx,a,C,dx,fs,g,ex,ea,c,k,l,q⟩=>?_) ht;subst ex;obtain rfl:u=Value.ref a:=rx;exact rG I1 ea c k l (q s1 I1)
end
section
variable {X:Cx} {pins:List (ak×Obj)} {σ:St} {H:Hp} {s:ah} {A:bQ} {E:ag->ah->Prop} {Q:ag->ah->Prop} {c:ag} {b:Bool}
inductive uL (K:ai) (H:Hp):V->ag->Prop where
 | non:uL K H .non (.type "NoneType")
 | bl (x:Bool):uL K H (.bl x) (.type "bool")
 | int (i:Int):uL K H (.int i) (.type "int")
 | str (x:Str):uL K H (.str x) (.type "str")
 | flt (x:UInt64):uL K H (.flt x) (.type "float")
 | lst {a:ak} {xs:List V} (e:H a=some (.lst xs)):uL K H (.ref a) (.type "list")
 | frz {a:ak} {o:Obj} {xs:List V} (e:H a=some (.frz o (.lst xs))):uL K H (.ref a) (.type "list")
 | tup {a:ak} {xs:List V} (e:H a=some (.tup xs)):uL K H (.ref a) (.type "tuple")
 | dK {a:ak} {kvs:List (Key×V)} (e:H a=some (.dK kvs)):uL K H (.ref a) (.type "dict")
 | dT {a:ak} {kvs:List (List Key×V)} (e:H a=some (.dT kvs)):uL K H (.ref a) (.type "dict")
 | ins {a C dx:ak} {fs:List (Str×V)} (e:H a=some (.ins C dx fs)) (cl:Cls K C) (ha:cf K (.ref C) "__class__"=some (some (.builtin "object.__class__")))
   (hn:si K (.builtin "object.__class__") "__get__"=some (some (.builtin "getset_descriptor.__get__"))) (htk:tZ K (.builtin "object.__class__")=some true)
   (hm:oH K C (.type "object")=some true):uL K H (.ref a) (.ref C)
end
structure dj (k:Nat) (A:bQ):Prop where
 hd:A.handled=none
 dp:A.depth + 3 * k + 5 < zK
 un:A.units + 16 * k + 200 < ic
theorem dj.mono {j k:Nat} {A:bQ} (r:dj k A) (h:j<=k):dj j A:=⟨r.hd,by have:=r.dp; omega,by have:=r.un; omega⟩
theorem dj.deeper {k:Nat} {A:bQ} (r:dj (k + 1) A) (env:Env):dj k (A.deeper env):=
 ⟨r.hd,by have:=r.dp; show A.depth + 1 + 3 * k + 5 < _; omega,by have:=r.un; show A.units + 3 + 16 * k + 200 < _; omega⟩
theorem zL {A:bQ} {C:ak} {us:List ag} {kw:List (Str×ag)}:(A.under (.builtin "type.__call__" ⟨.ref C :: us,kw⟩)).depth=A.depth + 1:=by
 first | rfl | simp [yk,Code.weight,Code.isCreation,Code.isGuard,Code.isCaller,Code.frames,zv,guardIds]
theorem zM {A:bQ} {C:ak} {us:List ag} {kw:List (Str×ag)}:(A.under (.builtin "type.__call__" ⟨.ref C :: us,kw⟩)).units=A.units + 1:=by
 first | rfl | simp [yk,Code.cUnits,Code.frames,zv]
theorem dj.make {k:Nat} {A:bQ} (r:dj (k + 1) A) (C:ak) (us:List ag) (kw:List (Str×ag)):dj k (A.under (.builtin "type.__call__" ⟨.ref C :: us,kw⟩)):=
 ⟨r.hd,by have:=r.dp; rw [zL]; omega,by have:=r.un; rw [zM]; omega⟩
theorem dj.depth {k:Nat} {A:bQ} (r:dj k A):A.depth < zK:=by have:=r.dp; omega
theorem dj.units {k:Nat} {A:bQ} (r:dj k A):A.units + 64 < ic:=by have:=r.un; omega
def q9:TA:=fun _ H Q=>Q [] H
def gS (ta:TE) (tr:TA):TA:=fun σ H Q=>ta σ H fun x H1=>tr σ H1 fun xs H2=>Q (x :: xs) H2
section
variable {X:Cx} {e:cI} {es:List cI} {te:TE} {t:TA} {pos:Pos}
theorem aj:PA X [] q9:=fun _ _ _ _ H Q I h=>oQ ⟨[],H,I,.nil,h⟩
theorem ft (ha:PE X e te) (hr:PA X es t) (hs:bB (e :: es) X.env=(false,dE e X.env) :: bB es X.env:=by rfl):PA X (e :: es) (gS te t):=by
 intro pos pins s σ H Q I h;rw [hs];show aY _ _ (zq ((false,dE e X.env) :: eR pos (bB es X.env))) _ _ s;refine nO (thn (ha pins s σ H _ I h) fun u s1 ⟨x,H1,I1,r1,q1⟩=>?_);exact thn (hr pos pins s1 σ H1 _ I1 q1) fun us s2 ⟨xs,H2,I2,r2,q2⟩=>⟨x :: xs,H2,I2,.cons r1 r2,q2⟩
def tTup (t:TA):TE:=fun σ H Q=>t σ H fun xs H1=>xs.length<=aw/\∀ p,H1 p=none->Q (.ref p) (upd H1 p (.tup xs))
def zN (t:TA):TE:=fun σ H Q=>t σ H fun xs H1=>xs.length<=aw/\∀ p,H1 p=none->Q (.ref p) (upd H1 p (.lst xs))
theorem fK {x1} (h:PA X es t):PE X (.Tuple es x1 pos) (tTup t):=by
 intro pins s σ H Q I hq;refine wpAny_Tuple_spliced (thn (h pos pins s σ H _ I hq) fun us s1 ⟨xs,H1,I1,r,z,q⟩=>⟨by rw [<- r.length]; exact z,?_⟩);have hf:H1 s1.heap.objs.size=none:=I1.hok.fresh (ay _);refine ⟨.ref s1.heap.objs.size,upd H1 s1.heap.objs.size (.tup xs),I1.laid (t':=s1.toks) (fun b u e=>aD _ e) (ay _) ?_,rfl,q _ hf⟩;exact ⟨z,us,r,⟨_,bV _ rfl,rfl,_,rfl⟩⟩
theorem cA (h:PA X es t):PE X (.List es pos) (zN t):=by
 intro pins s σ H Q I hq;refine wpAny_List_spliced (thn (h pos pins s σ H _ I hq) fun us s1 ⟨xs,H1,I1,r,z,q⟩=>⟨by rw [<- r.length]; exact z,?_⟩);have hf:H1 s1.heap.objs.size=none:=I1.hok.fresh (ay _);refine ⟨.ref s1.heap.objs.size,upd H1 s1.heap.objs.size (.lst xs),I1.laid (t':=s1.toks) (fun b u e=>aD _ e) (ay _) ?_,rfl,q _ hf⟩;exact ⟨z,us,0,r,bV _ rfl⟩
end
abbrev Sp:=List V->Hp->VK->XK->Prop
abbrev CXT:=List Env->Hp->ah->XK->ag->ah->Prop
structure yy (P:aQ) (w:bT) (K:ai) (mg:Str->Option ag) (base:cP) (A:bQ) (outer:List Env) (s:ah) (H:Hp):Prop where
 frames:A.frames=some outer
 mod:Mod K mg base
 bs:∀ b o,base.get? b=some o->s.heap.get? b=some o/\H b=none
 bsz:base.objs.size<=s.heap.objs.size
 funs:s.heap.FunFrames base outer
 frf:∀ b∈frs outer,H b=none
 hok:HOk P w H s.heap
 bare:rD s.gens
def CE (outer:List Env) (P:aQ) (w:bT) (H:Hp) (s:ah) (Q:VK) (u:ag) (s':ah):Prop:=
 ∃ v H',s'.os=s.os/\rD s'.gens/\Un (frs outer) [] H H' s.heap s'.heap/\HOk P w H' s'.heap/\RelV v u/\Q v H'
def CR (CX:CXT) (outer:List Env) (P:aQ) (w:bT) (H:Hp) (s:ah) (Q:VK) (E:XK) (r:mO) (s':ah):Prop:=
 match r with
 | .ok (.ret u)=>CE outer P w H s Q u s'
 | .ok _=>False
 | .error e=>CX outer H s E e s'
structure cW (P:aQ) (w:bT) (K:ai) (mg:Str->Option ag) (base:cP) (CX:CXT) (k:Nat) (f:ak) (fd:cF) (ps:List Str) (sp:Sp):Prop where
 len:∀ vs H Q E,sp vs H Q E->vs.length=ps.length
 run:∀ (A:bQ) (outer:List Env) (s:ah) (H:Hp) (args:Args) (us:List ag) (vs:List V) (Q:VK) (E:XK),dj k A->yy P w K mg base A outer s H->tN s fd args (ps.zip us)->dv vs us->sp vs H Q E ->
  qg (aM P w) A (.call (.ref f) args) (CR CX outer P w H s Q E) s
theorem cW.mono {P:aQ} {w:bT} {K:ai} {mg:Str->Option ag} {base:cP} {CX:CXT} {j k:Nat} {f:ak} {fd:cF} {ps:List Str} {sp:Sp} (F:cW P w K mg base CX j f fd ps sp) (h:j<=k) :
  cW P w K mg base CX k f fd ps sp:=⟨F.len,fun A outer s H args us vs Q E hr=>F.run A outer s H args us vs Q E (hr.mono h)⟩
theorem yy.make {P:aQ} {w:bT} {K:ai} {mg:Str->Option ag} {base:cP} {A:bQ} {outer:List Env} {s:ah} {H:Hp} (e:yy P w K mg base A outer s H) (C:ak) (us:List ag) (kw:List (Str×ag)) :
  yy P w K mg base (A.under (.builtin "type.__call__" ⟨.ref C :: us,kw⟩)) outer s H:=⟨by first | exact e.frames | (simpa [yk,Code.envs,zv,pushEnvs] using e.frames),e.mod,e.bs,e.bsz,e.funs,e.frf,e.hok,e.bare⟩
section
variable {X:Cx} {pins:List (ak×Obj)} {σ:St} {H:Hp} {s s':ah}
theorem Inv.env0 (I:Inv X pins σ H s):yy X.prog X.w X.K X.mg X.base X.A X.stack s H:=
 ⟨I.ok.frames,I.ok.mod,I.bs,bN I.ok.bsz I.sz,I.stack,I.stkFree,I.hok,I.bare⟩
theorem Inv.after {Q:VK} {u:ag} (I:Inv X pins σ H s) (h:CE X.stack X.prog X.w H s Q u s'):EP X pins σ Q u s':=by
 obtain ⟨v,H',os,bare,un,hok,r,q⟩:=h;obtain ⟨hh,g,d,t,os'⟩:=s';obtain rfl:os'=s.os:=os;exact ⟨v,H',I.call (h':=hh) (g':=g) (d':=d) (t':=t) (ch:=[]) un hok bare (fun b z=>absurd z (by simp)),r,q⟩
end
def AI (sp:Sp) (dvs:List V) (E:XK) (t:TA):TE:=fun σ H Q=>t σ H fun vs H1=>sp (vs++dvs) H1 Q E
def CD (C:ak) (m:Str) (sp:Sp) (dvs:List V) (E:XK) (ta:TE) (t:TA):TE:=fun σ H Q=>ta σ H fun x H1=>∃ a dx fs,x=.ref a/\H1 a=some (.ins C dx fs)/\fs.lookup m=none /\
 t σ H1 fun vs H2=>sp (x :: (vs++dvs)) H2 Q E
def tMake (C:ak) (sp:Sp) (dvs:List V) (E:XK) (t:TA):TE:=fun σ H Q=>t σ H fun vs H1=>∀ x dx,H1 x=none->H1 dx=none->dx≠x ->
 sp (.ref x :: (vs++dvs)) (upd (upd H1 dx (.own x)) x (.ins C dx [])) (fun v H2=>v=.non/\Q (.ref x) H2) E
def Binds (K:ai) (fd:cF) (ps:List Str) (ds:List ag):Prop:=
 ∀ (s:ah) (us:List ag),K.In s.heap->(us++ds).length=ps.length->tN s fd ⟨us,[]⟩ (ps.zip (us++ds))
theorem Binds.all {K:ai} {fd:cF} {ps:List Str} (h:∀ us:List ag,us.length=ps.length->vR fd ⟨us,[]⟩=pure (ps.zip us)):Binds K fd ps []:=fun s us _ hl=>by
 rw [bq] at hl |-;exact .of_eq (h us hl)
def oI (CX:CXT) (X:Cx) (E:XK):Prop:=∀ (pins:List (ak×Obj)) (σ:St) (H:Hp) (s:ah) (e:ag) (s':ah),Inv X pins σ H s->CX X.stack H s E e s'->X.xe e s'
section
variable {X:Cx} {CX:CXT} {k:Nat} {f C:ak} {fd:cF} {ps:List Str} {sp:Sp} {dvs:List V} {ds:List ag} {E:XK} {x m:Str} {p pos apos:Pos} {e o:cI} {es:List cI} {ta:TE} {t:TA}
theorem zO {pins:List (ak×Obj)} {σ:St} {H:Hp} {s:ah} {Q:VK} {us:List ag} {vs:List V} (F:cW X.prog X.w X.K X.mg X.base CX k f fd ps sp) (hr:dj k X.A) (hb:Binds X.K fd ps ds) (hd:dv dvs ds) (hx:oI CX X E)
  (I:Inv X pins σ H s) (r:dv vs us) (h:sp (vs++dvs) H Q E):aY (aM X.prog X.w) X.A (sX (.ref f) us) (EP X pins σ Q) X.xe s:=by
 have r2:dv (vs++dvs) (us++ds):=r.append hd;have hl:(us++ds).length=ps.length:=by rw [<- r2.length]; exact F.len _ _ _ _ h
 refine kJ (CF (F.run X.A X.stack s H ⟨us,[]⟩ (us++ds) (vs++dvs) Q E hr I.env0 (hb s us I.kIn hl) r2 h) fun r s' hq=>?_)
 cases r with
 | error e=>exact hx pins σ H s e s' I hq
 | ok fl =>
  cases fl with
  | ret u=>exact I.after hq
  | next=>exact cQ hq
  | brk=>exact cQ hq
  | cont=>exact cQ hq
theorem br (F:cW X.prog X.w X.K X.mg X.base CX k f fd ps sp) (hr:dj k X.A) (hg:Gl X x) (hm:X.mg x=some (.ref f)) (hk:dY X.K (.ref f)=true) (hb:Binds X.K fd ps ds) (hd:dv dvs ds) (hx:oI CX X E)
  (ha:PA X (e :: es) t) (hdb:(x == ("__debug__":Str))=false:=by decide) (he:bB (e :: es) X.env=(false,dE e X.env) :: bB es X.env:=by rfl) (hpl:(eR pos (bB es X.env)).any (·.1)=false:=by rfl) :
  PE X (.Call (.Name x p) (e :: es) [] pos) (AI sp dvs E t):=by
 intro pins s σ H Q I h;refine kK (pA I hg hm ?_ hdb);refine mP (h₀:=X.base) I.ok.mod.kin hk (thn (ha pos pins s σ H _ I h) fun us s1 ⟨vs,H1,I1,r,q⟩=>⟨I1.kIn,?_⟩) he hpl;exact zO F hr hb hd hx I1 r q
theorem oo {pl:Sem Bool} (he:PE X o ta) (c:Cls X.K C) (hm:Bp X.K C m f) (F:cW X.prog X.w X.K X.mg X.base CX k f fd ps sp) (hr:dj k X.A) (hb:Binds X.K fd ps ds) (hd:dv dvs ds) (hx:oI CX X E) (ha:PA X (e :: es) t)
  (hst:bB (e :: es) X.env=(false,dE e X.env) :: bB es X.env:=by rfl) (hpl:(eR pos (bB es X.env)).any (·.1)=false:=by rfl)
  (ht:dE (.Call (.Attribute o m apos) (e :: es) [] pos) X.env=(do
   let ov <- dE o X.env
   qc apos.atName
   let (f,first) <- nG [ov] (xp ov m pl)
   ky pos f first (eR pos (bB (e :: es) X.env)) (pI pos (jH [] X.env))):=by rfl) :
  PE X (.Call (.Attribute o m apos) (e :: es) [] pos) (CD C m sp dvs E ta t):=by
 intro pins s σ H Q I h;refine qb (pl:=pl) (thn (he pins s σ H _ I h) fun u s1 ⟨x,H1,I1,rx,a,dx,fs,ex,ea,l,q⟩=>?_) ht;subst ex;obtain rfl:u=Value.ref a:=rx;refine rG I1 ea c hm l ?_;refine mP (first:=[.ref a]) (h₀:=X.base) I.ok.mod.kin hm.kp (thn (ha pos pins s1 σ H1 _ I1 q) fun us s2 ⟨vs,H2,I2,r,q2⟩=>⟨I2.kIn,?_⟩) hst hpl;exact zO (us:=.ref a :: us) (vs:=.ref a :: vs) F hr hb hd hx I2 (.cons rfl r) q2
theorem j7 {pl:Sem Bool} (he:PE X o ta) (c:Cls X.K C) (hm:Bp X.K C m f) (F:cW X.prog X.w X.K X.mg X.base CX k f fd ps sp) (hr:dj k X.A) (hb:Binds X.K fd ps ds) (hd:dv dvs ds) (hx:oI CX X E)
  (ht:dE (.Call (.Attribute o m apos) [] [] pos) X.env=(do
   let ov <- dE o X.env
   qc apos.atName
   let (f,first) <- nG [ov] (xp ov m pl)
   ky pos f first (eR pos (bB [] X.env)) (pI pos (jH [] X.env))):=by rfl) :
  PE X (.Call (.Attribute o m apos) [] [] pos) (CD C m sp dvs E ta q9):=by
 intro pins s σ H Q I h;refine qb (pl:=pl) (thn (he pins s σ H _ I h) fun u s1 ⟨x,H1,I1,rx,a,dx,fs,ex,ea,l,q⟩=>?_) ht;subst ex;obtain rfl:u=Value.ref a:=rx;refine rG I1 ea c hm l ?_;exact PySem.W.callWith_K0 (first:=[.ref a]) I1.kIn hm.kp (zO (us:=[.ref a]) (vs:=[.ref a]) F hr hb hd hx I1 (.cons rfl .nil) q)
structure Mk (K:ai) (C f:ak):Prop where
 makes:tY K C=true
 init:cf K (.ref C) "__init__"=some (some (.ref f))
 fn:j6 K (.ref f)=true
 kp:dY K (.ref C)=true
theorem CG {pins:List (ak×Obj)} {σ:St} {H:Hp} {s:ah} {Q:VK} {us:List ag} {vs:List V} (M:Mk X.K C f) (F:cW X.prog X.w X.K X.mg X.base CX k f fd ps sp) (hr:dj (k + 1) X.A) (hb:Binds X.K fd ps ds) (hd:dv dvs ds)
  (hx:oI CX X E) (I:Inv X pins σ H s) (r:dv vs us)
  (h:∀ x dx,H x=none->H dx=none->dx≠x->sp (.ref x :: (vs++dvs)) (upd (upd H dx (.own x)) x (.ins C dx [])) (fun v H2=>v=.non/\Q (.ref x) H2) E) :
  aY (aM X.prog X.w) X.A (sX (.ref C) us) (EP X pins σ Q) X.xe s:=by
 have hq:=h (s.heap.objs.size + 1) s.heap.objs.size (I.hok.fresh (ib _)) (I.hok.fresh (ay _)) (bz (lE _));have I2:=Inv.made (C:=C) I;have r2:dv (V.ref (s.heap.objs.size + 1) :: (vs++dvs)) (Value.ref (s.heap.objs.size + 1) :: (us++ds)):=.cons rfl (r.append hd);have hl:(Value.ref (s.heap.objs.size + 1) :: us++ds).length=ps.length:=by
  have e:=r2.length;rw [F.len _ _ _ _ hq] at e;exact e.symm
 refine kJ (CB (f:=f) I.kIn M.makes M.init (beq_iff_eq.mp M.fn) (CF (F.run _ X.stack _ _ ⟨Value.ref (s.heap.objs.size + 1) :: us,[]⟩ (Value.ref (s.heap.objs.size + 1) :: (us++ds)) _ _ E (hr.make C us [])
  (I2.env0.make C us []) (hb _ (Value.ref (s.heap.objs.size + 1) :: us) I2.kIn hl) r2 hq) fun r s' hq'=>?_))
 cases r with
 | error e=>exact hx pins σ _ _ e s' I2 hq'
 | ok fl =>
  cases fl with
  | ret u =>
   obtain ⟨v,H',I3,rv,ev,q3⟩:=I2.after hq';subst ev;exact ⟨rv,⟨V.ref (s.heap.objs.size + 1),H',I3,rfl,q3⟩⟩
  | next=>exact cQ hq'
  | brk=>exact cQ hq'
  | cont=>exact cQ hq'
theorem EW (M:Mk X.K C f) (F:cW X.prog X.w X.K X.mg X.base CX k f fd ps sp) (hr:dj (k + 1) X.A) (hg:Gl X x) (hm:X.mg x=some (.ref C)) (hb:Binds X.K fd ps ds) (hd:dv dvs ds) (hx:oI CX X E)
  (ha:PA X (e :: es) t) (hdb:(x == ("__debug__":Str))=false:=by decide) (he:bB (e :: es) X.env=(false,dE e X.env) :: bB es X.env:=by rfl) (hpl:(eR pos (bB es X.env)).any (·.1)=false:=by rfl) :
  PE X (.Call (.Name x p) (e :: es) [] pos) (tMake C sp dvs E t):=by
 intro pins s σ H Q I h;refine kK (pA I hg hm ?_ hdb);refine mP (h₀:=X.base) I.ok.mod.kin M.kp (thn (ha pos pins s σ H _ I h) fun us s1 ⟨vs,H1,I1,r,q⟩=>⟨I1.kIn,?_⟩) he hpl;exact CG M F hr hb hd hx I1 r q
end
section
variable {X:Cx} {CX:CXT} {k:Nat} {f C:ak} {fd:cF} {ps ks:List Str} {sp:Sp} {E:XK} {x m:Str} {p pos apos kpos:Pos} {e o:cI} {es:List cI} {kws:List oW} {te ta:TE} {t tk:TA} {nm:Option Str}
variable {g:List ag->List ag->List ag} {gV:List V->List V->List V}
end
structure cK (N P:List Str) (sc:kO):Prop where
 kind:sc.kind=.function:=by rfl
 co:sc.isCoroutine=false:=by rfl
 gen:sc.isGenerator=false:=by rfl
 nd:N.Nodup:=by decide +kernel
 pre:N.take P.length=P:=by rfl
 par:∀ x∈P,sc.names.lookup x=some .local\/sc.names.lookup x=some .cell:=by decide +kernel
 nofree:∀ y∈sc.names,y.2≠.free:=by decide +kernel
theorem wA {kindOf:Str->Option lF} {x:Str}:∀ {binds:List (Str×ag)} {m:Str->Option ag},(∀ v,(x,v)∉binds)->Cb kindOf binds m x=m x
 | [],_,_=>rfl
 |(n,v) :: r,m,h=>by
  unfold Cb;rw [wA fun w hw=>h w (az _ hw)]
  split
  ·have:x≠n:=by rintro rfl; exact h v aA
   simp [this]
  ·rfl
theorem wB {kindOf:Str->Option lF} {x:Str}:∀ {binds:List (Str×ag)} {m:Str->Option ag},(∀ v,(x,v)∉binds)->Cc kindOf binds m x=m x
 | [],_,_=>rfl
 |(n,v) :: r,m,h=>by
  unfold Cc;rw [wB fun w hw=>h w (az _ hw)]
  split
  ·rfl
  ·have:x≠n:=by rintro rfl; exact h v aA
   simp [this]
theorem wC {kindOf:Str->Option lF} {x:Str} {v:ag}:∀ {P:List Str} {vs:List ag} {i:Nat} {m:Str->Option ag},P.Nodup->P[i]?=some x->vs[i]?=some v->kindOf x=some .local ->
  Cb kindOf (P.zip vs) m x=some v
 | [],_,_,_,_,h,_,_=>by simp at h
 | _ :: _,[],_,_,_,_,h,_=>by simp at h
 | p :: P,w :: vs,0,m,nd,h1,h2,hk=>by
  simp at h1 h2; subst h1; subst h2;show Cb kindOf ((p,w) :: P.zip vs) m p=_;unfold Cb;rw [wA fun v hv=>(eM.mp nd).1 (qw hv).1,if_pos hk];simp
 | p :: P,w :: vs,i + 1,m,nd,h1,h2,hk=>by
  show Cb kindOf ((p,w) :: P.zip vs) m x=_;unfold Cb;exact wC (i:=i) (eM.mp nd).2 (by simpa using h1) (by simpa using h2) hk
theorem wD {kindOf:Str->Option lF} {x:Str} {v:ag}:∀ {P:List Str} {vs:List ag} {i:Nat} {m:Str->Option ag},P.Nodup->P[i]?=some x->vs[i]?=some v->kindOf x≠some .local ->
  Cc kindOf (P.zip vs) m x=some v
 | [],_,_,_,_,h,_,_=>by simp at h
 | _ :: _,[],_,_,_,_,h,_=>by simp at h
 | p :: P,w :: vs,0,m,nd,h1,h2,hk=>by
  simp at h1 h2; subst h1; subst h2;show Cc kindOf ((p,w) :: P.zip vs) m p=_;unfold Cc;rw [wB fun v hv=>(eM.mp nd).1 (qw hv).1,if_neg hk];simp
 | p :: P,w :: vs,i + 1,m,nd,h1,h2,hk=>by
  show Cc kindOf ((p,w) :: P.zip vs) m x=_;unfold Cc;exact wD (i:=i) (eM.mp nd).2 (by simpa using h1) (by simpa using h2) hk
def start (N:List Str) (vs:List V):St:=vs.map some++aJ (N.length - vs.length) none
def t4 (CX:CXT) (P:aQ) (w:bT) (K:ai) (mg:Str->Option ag) (base:cP) (N:List Str) (qual:Str) (scope:kO) (f:ak) (cd:ag) (A:bQ) (outer:List Env) (s:ah) (H:Hp) (E:XK):Cx where
 prog:=P
 w:=w
 K:=K
 mg:=mg
 base:=base
 A:=A.deeper (qx qual scope s.heap.objs.size f cd)
 N:=N
 s₀:=s
 H₀:=H
 env:=qx qual scope s.heap.objs.size f cd
 outer:=outer
 stack:=qx qual scope s.heap.objs.size f cd :: outer
 ex:=[]
 calm:=true
 fn:=fun _=>true
 pn:=[]
 xe:=fun e s'=>aY (aM P w) (A.deeper (qx qual scope s.heap.objs.size f cd)) (tO (qx qual scope s.heap.objs.size f cd) e) (fun _ s''=>CX outer H s E e s'') (fun e' s''=>CX outer H s E e' s'') s'
theorem yz {sc:kO} {n:Nat} {x:Str} (h:sc.names.lookup x=some .cell):∃ c,(Cd n sc.names []).lookup x=some c:=by
 have q:=pJ sc.names n [] (.inl h);exact oR.mp q
theorem wF {CX:CXT} {P:aQ} {w:bT} {K:ai} {mg:Str->Option ag} {base:cP} {N ps:List Str} {qual:Str} {scope:kO} {f:ak} {cd:ag} {A:bQ} {outer:List Env} {s s1:ah} {H:Hp} {E:XK} {us:List ag} {vs:List V}
  (S:cK N ps scope) (hd:A.handled=none) (e0:yy P w K mg base A outer s H) (hl:vs.length=ps.length) (r:dv vs us)
  (x:InCallC s s.heap.objs.size (Cb (qx qual scope s.heap.objs.size f cd).kindOf (ps.zip us) fun _=>none) (Cd (s.heap.objs.size + 1) scope.names []) (Cc (qx qual scope s.heap.objs.size f cd).kindOf (ps.zip us) fun _=>none) s1) :
  Inv (t4 CX P w K mg base N qual scope f cd A outer s H E) [] (start N vs) H s1:=by
 have hpl:ps.length<=N.length:=by have:=congrArg iK S.pre; rw [bP] at this; omega
 obtain ⟨h1,tk,rfl,hk⟩:=x.done;have noA:∀ b:ak,b∉(t4 CX P w K mg base N qual scope f cd A outer s H E).ex:=fun b z=>absurd (show b∈([]:List ak) from z) (by simp);refine ⟨⟨e0.mod,S.kind,rfl,rfl,ay _,fun y z c h1 h2=>?_,fun y hy=>?_,fun y c _ h=>?_,fun _=>hd,Around.frames_deeper e0.frames,.inr ⟨rfl,rfl⟩,fun b z=>absurd z (noA b),e0.bs,e0.bsz,fun b _ _=>noA b,fun b z=>absurd z (noA b),e0.funs,e0.frf⟩,
  rfl,e0.bare,Un.kept hk,⟨_,x.toInCall.ns,fun i y v h1 h2 h3=>?_⟩,fun y c h=>⟨_,x.cell y c h⟩,e0.hok.fresh (ay _),fun y c h=>?_,fun p hp=>absurd (show p∈([]:List (ak×Obj)) from hp) (by simp),e0.hok.kept hk,?_⟩
 ·exact name_of_addr x.apart (eB h1) (eB h2)
 ·have hy:scope.names.lookup y=some .cell\/scope.names.lookup y=some .free:=hy
  rcases hy with hy | hy
  ·exact yz hy
  ·exact absurd rfl (S.nofree _ (eB hy))
 ·exact kE (x.above y c (eB h))
 ·have hi:i < vs.length:=by
   unfold start at h2
   by_cases hi:i < vs.length
   ·exact hi
   ·rw [cG (by simpa using hi)] at h2;rw [gq] at h2
    split at h2 <;> cases h2
  have ha:vs[i]?=some v:=by
   unfold start at h2;rw [dw (by simpa using hi),cb] at h2
   cases e:vs[i]? with
   | none=>rw [e] at h2; cases h2
   | some a=>rw [e] at h2; cases h2; rfl
  obtain ⟨u,hu,rv⟩:=r.get ha;have hp:ps[i]?=some y:=by
   rw [<- S.pre,eK (by omega)]; exact h1
  have ndP:ps.Nodup:=by rw [<- S.pre]; exact S.nd.sublist (jc _ _)
  refine ⟨u,rv,?_⟩
  rcases S.par y (bw hp) with k | k
  ·exact .inl ⟨k,wC ndP hp hu k⟩
  ·obtain ⟨c,e⟩:=yz (n:=s.heap.objs.size + 1) k;refine .inr ⟨.inl k,c,e,?_⟩;have q:=x.cell y c e;rw [wD ndP hp hu (by show scope.names.lookup y≠_; rw [k]; decide)] at q;exact q
 ·exact e0.hok.fresh (kE (x.above y c (eB h)))
 ·unfold start;show _=N.length;rw [af,aa,cU];omega
theorem fn_of {CX:CXT} {P:aQ} {w:bT} {K:ai} {mg:Str->Option ag} {base:cP} {k:Nat} {f:ak} {name qual:Str} {params:Arguments} {body:List di} {scope:kO} {dV kV doc pm cdv ct oc:ag} {an od:Option ak}
  {osl:Array (Option ag)} {N ps:List Str} {sp:Sp} (lk:K.lookup f=some ⟨oc,od,.func (eZ name qual params body scope dV kV doc pm an cdv ct),osl⟩) (hcd:j8 K cdv qual=true) (S:cK N ps scope)
  (len:∀ vs H Q E,sp vs H Q E->vs.length=ps.length)
  (hbody:∀ (A:bQ) (outer:List Env) (s:ah) (H:Hp) (vs:List V) (Q:VK) (E:XK),dj k (A.deeper (qx qual scope s.heap.objs.size f cdv))->sp vs H Q E ->
   ∃ t,PSs (t4 CX P w K mg base N qual scope f cdv A outer s H E) body t/\t {nx:=fun _ H'=>Q .non H',rt:=Q} (start N vs) H) :
  cW P w K mg base CX (k + 1) f (eZ name qual params body scope dV kV doc pm an cdv ct) ps sp:=by
 refine ⟨len,fun A outer s H args us vs Q E hr e0 hb r hsp=>?_⟩;have hl:=len _ _ _ _ hsp;have KX:K.In s.heap:=e0.mod.kin.keeps fun b o e=>(e0.bs b o e).1;have lim:s.heap.NoLimit:=e0.mod.nolimit.keeps fun b o e=>(e0.bs b o e).1;have hkind:∀ y∈ps.zip us,scope.names.lookup y.1=some .local\/(scope.names.lookup y.1=some .cell/\((Cd (s.heap.objs.size + 1) scope.names []).lookup y.1).isSome=true):=fun ⟨n,v⟩ hy=>by
  rcases S.par n (qw hy).1 with q | q
  ·exact .inl q
  ·exact .inr ⟨q,pJ _ _ _ (.inl q)⟩
 refine codeAny_call_function hr.depth (KX _ _ lk) rfl S.co S.gen rfl (zP KX hcd) (hb _ _ _ _ ?_);refine zQ S.kind hkind fun env he s1 x=>?_;subst he;refine ⟨lim.keeps x.toInCall.keep,codeAny_func ?_⟩;obtain ⟨t,ht,hq⟩:=hbody A outer s H vs Q E (hr.deeper _) hsp;have I:Inv (t4 CX P w K mg base N qual scope f cdv A outer s H E) [] (start N vs) H s1:=wF S hr.hd e0 hl r x;refine cE (ht [] s1 (start N vs) H _ I hq) (fun fl s' hs=>?_) fun e s' hs=>hs;have fin:∀ {σ':St} {H':Hp} {v:V} {u:ag},Inv (t4 CX P w K mg base N qual scope f cdv A outer s H E) [] σ' H' s'->RelV v u->Q v H'->CE outer P w H s Q u s':=
  fun {σ' H' v u} J rv q=>⟨v,H',J.os,J.bare,J.base,J.hok,rv,q⟩
 cases fl with
 | ret u =>
  obtain ⟨v,σ',H',J,rv,q⟩:=hs;exact fin J rv q
 | next =>
  obtain ⟨σ',H',J,q⟩:=hs;exact fin (v:=V.non) (u:=Value.none) J rfl q
 | brk =>
  obtain ⟨_,_,_,q⟩:=hs;exact cQ q
 | cont =>
  obtain ⟨_,_,_,q⟩:=hs;exact cQ q
section
variable {X:Cx} {x:Str} {p pos:Pos} {e:cI} {es:List cI} {t:TA} {id T:String} {r:List V->Hp->VK->Prop}
def tCB (r:List V->Hp->VK->Prop) (t:TA):TE:=fun σ H Q=>t σ H fun vs H1=>r vs H1 Q
theorem cR (hc:oj X (.builtin id) r) (hg:Gl X x) (hm:X.mg x=none) (hv:eC x=some (.builtin id)) (ha:PA X (e :: es) t) (hn:x≠"__name__":=by decide) (hdb:(x == ("__debug__":Str))=false:=by decide)
  (he:bB (e :: es) X.env=(false,dE e X.env) :: bB es X.env:=by rfl) (hpl:(eR pos (bB es X.env)).any (·.1)=false:=by rfl):PE X (.Call (.Name x p) (e :: es) [] pos) (tCB r t):=by
 intro pins s σ H Q I h;refine kK (oF I hg hm hv ?_ hn hdb);exact PyProof.Rows.callWith_builtin1 (thn (ha pos pins s σ H _ I h) fun us s1 ⟨vs,H1,I1,r1,q1⟩=>hc pins s1 σ H1 vs us Q I1 r1 q1) he hpl
theorem iO (hc:oj X (.type T) r) (hg:Gl X x) (hm:X.mg x=none) (hv:eC x=some (.type T)) (ha:PA X (e :: es) t) (hn:x≠"__name__":=by decide) (hdb:(x == ("__debug__":Str))=false:=by decide)
  (he:bB (e :: es) X.env=(false,dE e X.env) :: bB es X.env:=by rfl) (hpl:(eR pos (bB es X.env)).any (·.1)=false:=by rfl):PE X (.Call (.Name x p) (e :: es) [] pos) (tCB r t):=by
 intro pins s σ H Q I h;refine kK (oF I hg hm hv ?_ hn hdb);exact eI (thn (ha pos pins s σ H _ I h) fun us s1 ⟨vs,H1,I1,r1,q1⟩=>hc pins s1 σ H1 vs us Q I1 r1 q1) he hpl
end
end L2
namespace HT
open PySem PyProof.Rows
section
open PySem.SeqAt
open PySem.AutoSeq1 (wpAny_loadPart')
open PySem.MeetsSeq PySem.MeetsSeq2 PySem.MeetsSeq3
end
section
variable {prog:aQ} {w:bT} {A:bQ} {E:ag->ah->Prop} {s:ah}
theorem cat_tup {t b:ak} {vs ws:List ag} {Q:ag->ah->Prop} (ht:IsTup s.heap t vs.toArray) (hb:IsTup s.heap b ws.toArray) (hv:vs≠[])
  (h1:ws=[]->Q (.ref t) s) (h2:ws≠[]->Q (.ref s.heap.objs.size) {s with heap:=s.heap.push {cls:=.type "tuple",data:=.seq (vs++ws).toArray}})
  (hsz:vs.length + ws.length<=aw):aY (aM prog w) A (jG .Add (.ref t) (.ref b)) Q E s:=by
 obtain ⟨⟨cls,dd,data,sl⟩,ho,hc,n,hd⟩:=id ht;obtain ⟨⟨cls2,dd2,data2,sl2⟩,ho2,hc2,n2,hd2⟩:=id hb;simp only at hc hd hc2 hd2;subst hc hd hc2 hd2;have e:vs.toArray++ws.toArray=(vs++ws).toArray:=by simp
 by_cases hw:ws=[]
 ·exact concat_meets ⟨_,ho,rfl⟩ ⟨_,ho2,rfl⟩ noFill_tuple_add seq_tuple_add xu wG (vS _ _)
   (tuple_addW1 t b vs.toArray ws.toArray n n2 dd dd2 sl sl2 (by simpa using hv) (by simp [hw])) ⟨ho,ho2,h1 hw⟩
 ·refine concat_meets ⟨_,ho,rfl⟩ ⟨_,ho2,rfl⟩ noFill_tuple_add seq_tuple_add xu wG (vS _ _)
   (tuple_addW2 t b vs.toArray ws.toArray n n2 dd dd2 sl sl2 (by simpa using hv) (by simpa using hw) (by rw [aI,aI]; exact hsz)) ⟨ho,ho2,?_⟩
  rw [e];exact h2 hw
def sIx (n d:Nat):Option Int->Nat
 | none=>d
 | some v=>if v < 0 then (v + (n:Int)).toNat else min v.toNat n
theorem sIx_none (n d:Nat):sIx n d none=d:=rfl
theorem sIx_nat (n d k:Nat):sIx n d (some (k:Int))=min k n:=by
 show (if (k:Int) < 0 then ((k:Int) + (n:Int)).toNat else min (k:Int).toNat n)=min k n;rw [if_neg (by omega),eH]
theorem H9 (n d:Nat) (hd:d<=n) (o:Option Int):sIx n d o<=n:=by
 cases o with
 | none=>exact hd
 | some v =>
  show (if v < 0 then (v + (n:Int)).toNat else min v.toNat n)<=n
  by_cases hv:v < 0
  ·rw [if_pos hv]; omega
  ·rw [if_neg hv]; exact Nat.min_le_right _ _
theorem AJ (v:Int) (n d:Nat):(if v < 0 then max (v + (n:Int)) 0 else min v (n:Int))=((sIx n d (some v):Nat):Int):=by
 show (if v < 0 then max (v + (n:Int)) 0 else min v (n:Int))=(((if v < 0 then (v + (n:Int)).toNat else min v.toNat n):Nat):Int)
 by_cases hv:v < 0
 ·simp only [if_pos hv]; omega
 ·simp only [if_neg hv]; omega
theorem zR (lo hi:Option Int) (n:Nat):lG lo hi 1 (n:Int)=(((sIx n 0 lo:Nat):Int),((sIx n n hi:Nat):Int)):=by
 have h1:¬ ((1:Int) < 0):=by omega
 unfold lG;simp only [h1,if_false];refine Prod.ext ?_ ?_
 ·cases lo with
  | none=>rfl
  | some v=>exact AJ v n 0
 ·cases hi with
  | none=>rfl
  | some v=>exact AJ v n n
theorem zS (i j:Nat):iX (i:Int) (j:Int) 1=j - i:=by
 unfold iX;have h1:(1:Int) > 0:=by omega
 simp only [h1,if_true,Int.ediv_one]
 split <;> omega
theorem uM {v:ag} {o:Option Int} {Q:Option Int->ah->Prop} (p:xx v o) (h:Q o s):aY (aM prog w) A (Builtin.Slice.slicePartIndex v) Q E s:=by
 cases p with
 | none=>exact slicePart_none h
 | int i t=>exact slicePart_int h
theorem tu {sl:ak} {vl vu:ag} {lo hi:Option Int} {n:Nat} {Q:Int×Int×Nat->ah->Prop} (hs:s.heap.IsSliceOf sl vl vu .none) (pl:xx vl lo) (pu:xx vu hi)
  (h:Q (((sIx n 0 lo:Nat):Int),1,sIx n n hi - sIx n 0 lo) s):aY (aM prog w) A (sk (.ref sl) (pure (n:Int))) Q E s:=by
 obtain ⟨os,hos,hcs,hds⟩:=id hs;unfold sk Builtin.Slice.sliceFields;refine ae (ae (i5 hos hds (x:=vl) rfl (ae (i5 hos hds (x:=vu) rfl (ae (i5 hos hds (x:=.none) rfl (av ?_)))))));refine ae (slicePart_none ?_);show aY _ _ (if ((1:Int) == 0)=true then _ else _) _ _ s;rw [if_neg (by decide)];refine ae (uM pl (ae (uM pu (ae (av ?_)))));show aY _ _ (match lG lo hi 1 (n:Int) with | (lo,hi)=>pure (lo,(1:Int),iX lo hi 1)) _ _ s;rw [zR lo hi n];show aY _ _ (pure (((sIx n 0 lo:Nat):Int),(1:Int),iX ((sIx n 0 lo:Nat):Int) ((sIx n n hi:Nat):Int) 1)) _ _ s;rw [zS];exact av h
theorem CH (xs:Array ag) (i k:Nat):((jZ k).filterMap fun (m:Nat)=>xs[((i:Int) + (m:Int) * 1).toNat]?).toArray=((xs.toList.drop i).take k).toArray:=by
 have e:(fun (m:Nat)=>xs[((i:Int) + (m:Int) * 1).toNat]?)=fun m=>xs[i + m]?:=by
  funext m
  have:((i:Int) + (m:Int) * 1).toNat=i + m:=by omega
  rw [this]
 rw [e];have:=pick_run xs i k;rw [List.filterMap_map] at this;have e2:((fun x=>xs[x]?) ∘ fun x=>i + x)=fun m=>xs[i + m]?:=rfl;rw [e2] at this;rw [this]
theorem getItem_tuple_cut {t sl:ak} {items:Array ag} {vl vu:ag} {lo hi:Option Int} {Q:ag->ah->Prop} (ht:IsTup s.heap t items) (hs:s.heap.IsSliceOf sl vl vu .none) (pl:xx vl lo) (pu:xx vu hi)
  (hw:¬ (sIx items.size 0 lo=0/\sIx items.size items.size hi=items.size))
  (h:Q (.ref s.heap.objs.size) {s with heap:=s.heap.push {cls:=.type "tuple",data:=.seq ((items.toList.drop (sIx items.size 0 lo)).take (sIx items.size items.size hi - sIx items.size 0 lo)).toArray}})
  (hsz:items.size<=aw):aY (aM prog w) A (rH (.ref t) (.ref sl)) Q E s:=by
 have htake:sizeOk (.seq ((items.toList.drop (sIx items.size 0 lo)).take (sIx items.size items.size hi - sIx items.size 0 lo)).toArray):=by
  show ((items.toList.drop (sIx items.size 0 lo)).take (sIx items.size items.size hi - sIx items.size 0 lo)).toArray.size<=aw;rw [aI,bP,ee,cJ];omega
 have hj:sIx items.size items.size hi<=items.size:=H9 _ _ (ay _) hi;obtain ⟨os,hos,hcs,hds⟩:=id hs;have hTs:s.TypeIs (.ref sl) "slice":=⟨os,hos,hcs⟩;unfold rH
 try with_reducible refine bH ?_
 first | refine ae (av ?_) | skip
 refine ae (wpAny_sequenceKey ht.typeIs (by decide) ?_);refine ae (wpAny_callSpecial?_slot (name:=bj "__getitem__") ht.typeIs jK
  (wpAny_call_entry jK ht.typeIs entry_tuple_getitem ?_ (args_tuple_getitem _ _)))
 show aY _ _ (Builtin.Tuple.tupleItemsOf (.ref t) >>= _) _ _ s;refine ae (tupleItemsOf_ ht ?_);refine ae (wpAny_typeOf hTs ?_);rw [if_pos (by decide)];refine ae (tu hs pl pu ?_);have hno:¬ ((((sIx items.size 0 lo:Nat):Int) == 0 && (1:Int) == 1 && (sIx items.size items.size hi - sIx items.size 0 lo) == items.size)=true):=by
  intro q;rw [cY,cY] at q;have q1:((sIx items.size 0 lo:Nat):Int)=0:=eq_of_beq q.1.1;have q2:sIx items.size items.size hi - sIx items.size 0 lo=items.size:=eq_of_beq q.2;exact hw ⟨by omega,by omega⟩
 show aY _ _ (if (((sIx items.size 0 lo:Nat):Int) == 0 && (1:Int) == 1 && (sIx items.size items.size hi - sIx items.size 0 lo) == items.size)=true then _ else _) _ _ s;rw [if_neg hno,CH]
 first
  | exact ae (m:=jd _) (gH (av ⟨_,rfl,av h⟩) htake)
  | exact ae (m:=jd _) (gH (ae (av (av ⟨_,rfl,av h⟩))) htake)
  | exact ae (ae (m:=jd _) (gH (av (av ⟨_,rfl,av h⟩)) htake))
  | exact ae (ae (m:=jd _) (gH (av ⟨_,rfl,av h⟩) htake))
end
end HT
namespace L2
open PySem PySem.Spec PyProof.Rows
abbrev TO:=St->Hp->(Option Int->Hp->Prop)->Prop
def PO (X:Cx) (e:Option cI) (t:TO):Prop:=
 ∀ (pins:List (ak×Obj)) (s:ah) (σ:St) (H:Hp) (Q:Option Int->Hp->Prop),Inv X pins σ H s->t σ H Q ->
  aY (aM X.prog X.w) X.A (evalPart e X.env) (fun u s'=>∃ o H',Inv X pins σ H' s'/\xx u o/\Q o H') X.xe s
def xy:TO:=fun _ H Q=>Q none H
def CI (t:TE):TO:=fun σ H Q=>t σ H fun x H1=>∃ i,x=.int i/\Q (some i) H1
section
variable {X:Cx} {e:cI} {te:TE} {lo hi:Option cI} {tl th:TO} {pos p2:Pos}
theorem iY:PO X none xy:=by
 intro pins s σ H Q I h;rw [evalPart_none];exact av ⟨none,H,I,.none,h⟩
theorem gM (h:PE X e te):PO X (some e) (CI te):=by
 intro pins s σ H Q I hw;rw [evalPart_some];refine thn (h pins s σ H _ I hw) fun u s1 ⟨x,H1,I1,r1,q1⟩=>?_;obtain ⟨i,rfl,q⟩:=q1;obtain ⟨t,rfl⟩:=r1;exact ⟨some i,H1,I1,.int i t,q⟩
def SlR (X:Cx) (r:V->Option Int->Option Int->Hp->VK->Prop):Prop:=
 ∀ (pins:List (ak×Obj)) (s:ah) (σ:St) (H:Hp) (x:V) (v vl vu:ag) (lo hi:Option Int) (sl:ak) (Q:VK),Inv X pins σ H s->RelV x v->s.heap.IsSliceOf sl vl vu .none->xx vl lo->xx vu hi->r x lo hi H Q ->
  ∃ T id,uN (.type T) "__getitem__"=pure (some (.builtin id))/\s.TypeIs v T/\aY (aM X.prog X.w) X.A (rH v (.ref sl)) (EP X pins σ Q) X.xe s
def tSl (r:V->Option Int->Option Int->Hp->VK->Prop) (te:TE) (tl th:TO):TE:=fun σ H Q=>te σ H fun x H1=>tl σ H1 fun l H2=>th σ H2 fun u H3=>r x l u H3 Q
theorem gu {r:V->Option Int->Option Int->Hp->VK->Prop} (hr:SlR X r) (he:PE X e te) (hl:PO X lo tl) (hu:PO X hi th):PE X (.Subscript e (.Slice lo hi none p2) pos) (tSl r te tl th):=by
 intro pins s σ H Q I h;refine Ia (thn (he pins s σ H _ I h) fun v s1 ⟨x,H1,I1,r1,q1⟩=>?_);refine wpAny_Slice (thn (hl pins s1 σ H1 _ I1 q1) fun vl s2 ⟨l,H2,I2,pl,q2⟩=>thn (hu pins s2 σ H2 _ I2 q2) fun vu s3 ⟨u,H3,I3,pu,q3⟩=>?_);rw [evalPart_none];refine av ?_;have I4:Inv X pins σ H3 {s3 with heap:=s3.heap.push {cls:=.type "slice",data:=.fields #[vl,vu,.none]}}:=I3.kept (t':=s3.toks) fun b ob q=>aD _ q;obtain ⟨T,id,hT,ht,hg⟩:=hr pins {s3 with heap:=s3.heap.push {cls:=.type "slice",data:=.fields #[vl,vu,.none]}} σ H3 x v vl vu l u s3.heap.objs.size Q I4 r1 (Jb ..) pl pu q3;show aY (aM X.prog X.w) X.A (Bq e (.Slice lo hi none p2) v (.ref s3.heap.objs.size)) (EP X pins σ Q) X.xe {s3 with heap:=s3.heap.push {cls:=.type "slice",data:=.fields #[vl,vu,.none]}};exact tail_any (ops:=[.ref s3.heap.objs.size,v]) ht hT hg (by with_unfolding_all rfl)
def gU (xs:List V) (lo hi:Option Int):List V:=(xs.drop (HT.sIx xs.length 0 lo)).take (HT.sIx xs.length xs.length hi - HT.sIx xs.length 0 lo)
theorem qy (xs:List V) (lo hi:Option Int):(gU xs lo hi).length<=xs.length:=by
 unfold gU;rw [bP,ee];omega
def rSlT (K:ai):V->Option Int->Option Int->Hp->VK->Prop:=fun x lo hi H Q=>∃ a xs,x=.ref a/\SqT K H a xs /\
 ¬ (HT.sIx xs.length 0 lo=0/\HT.sIx xs.length xs.length hi=xs.length)/\∀ p,H p=none->Q (.ref p) (upd H p (.tup (gU xs lo hi)))
theorem Ib:SlR X (rSlT X.K):=by
 intro pins s σ H x v vl vu lo hi sl Q I rx hs pl pu h;obtain ⟨a,xs,rfl,hx,hw,q⟩:=h
 cases rx;obtain ⟨its,r,ht,hz⟩:=I.tuple hx;have hlen:its.toArray.size=xs.length:=by rw [aI]; exact r.length.symm
 refine ⟨"tuple",_,jK.lookup,ht.typeIs,?_⟩;refine HT.getItem_tuple_cut ht hs pl pu (by rw [hlen]; exact hw) ?_ (by rw [hlen]; exact hz);rw [hlen];refine ⟨.ref s.heap.objs.size,_,I.laid (t':=s.toks) (o:=.tup (gU xs lo hi)) (fun b ob q=>aD _ q) (ay _) ?_,rfl,q _ (I.hok.fresh (ay _))⟩;exact ⟨bN (qy xs lo hi) hz,_,(r.drop (HT.sIx xs.length 0 lo)).take (HT.sIx xs.length xs.length hi - HT.sIx xs.length 0 lo),CJ _ _⟩
def rCatT (K:ai):R2:=fun x y H Q=>∃ a b xs ys,x=.ref a/\y=.ref b/\SqT K H a xs/\SqT K H b ys/\xs≠[]/\xs.length + ys.length<=aw /\
 (ys=[]->Q (.ref a) H)/\(ys≠[]->∀ p,H p=none->Q (.ref p) (upd H p (.tup (xs++ys))))
theorem dv.nil_iff {xs:List V} {us:List ag} (r:dv xs us):us=[]↔xs=[]:=by
 cases r with
 | nil=>simp
 | cons _ _=>simp
theorem AK:OpR X (jG .Add) (rCatT X.K):=by
 intro pins s σ H x y v u Q I rx ry h;obtain ⟨a,b,xs,ys,rfl,rfl,ha,hb,hx,hz,q1,q2⟩:=h
 cases rx
 cases ry;obtain ⟨its,r1,p1,_⟩:=I.tuple ha;obtain ⟨its2,r2,p2,_⟩:=I.tuple hb;refine HT.cat_tup p1 p2 (fun z=>hx (r1.nil_iff.mp z)) (fun z=>⟨.ref a,H,I,rfl,q1 (r2.nil_iff.mp z)⟩) (fun z=>?_) (by rw [<- r1.length,<- r2.length]; exact hz);refine ⟨.ref s.heap.objs.size,_,I.laid (t':=s.toks) (o:=.tup (xs++ys)) (fun b ob q=>aD _ q) (ay _) ?_,rfl,q2 (fun w=>z (r2.nil_iff.mpr w)) _ (I.hok.fresh (ay _))⟩;exact ⟨by rw [af]; exact hz,_,r1.append r2,CJ _ _⟩
end
def ixN (n:Nat) (i:Int):Option Nat:=if 0<=i then (if i < n then some i.toNat else none) else if -(n:Int)<=i then some (i + n).toNat else none
def atI {α:Type} (xs:List α) (i:Int):Option α:=(ixN xs.length i).bind fun j=>xs[j]?
theorem AL {n:Nat} {i:Int} {j:Nat} (h:ixN n i=some j):seqIndex? i n=some j/\j < n/\-(n:Int)<=i/\i < n:=by
 unfold ixN at h
 by_cases h0:0<=i
 ·rw [if_pos h0] at h
  by_cases h1:i < n
  ·rw [if_pos h1] at h;have e:i.toNat=j:=bC h;exact ⟨by rw [EX h0 h1,e],by omega,by omega,h1⟩
  ·rw [if_neg h1] at h; cases h
 ·rw [if_neg h0] at h
  by_cases h1:-(n:Int)<=i
  ·rw [if_pos h1] at h;have e:(i + n).toNat=j:=bC h;exact ⟨by rw [CK (by omega) h1,e],by omega,h1,by omega⟩
  ·rw [if_neg h1] at h; cases h
theorem xA {α:Type} {xs:List α} {i:Int} {v:α} (h:atI xs i=some v):∃ j,seqIndex? i xs.length=some j/\xs[j]?=some v/\j < xs.length/\-(xs.length:Int)<=i/\i < xs.length:=by
 unfold atI at h
 cases e:ixN xs.length i with
 | none=>rw [e] at h; cases h
 | some j =>
  rw [e] at h;obtain ⟨h1,h2,h3,h4⟩:=AL e;exact ⟨j,h1,h,h2,h3,h4⟩
theorem dg {α:Type} {xs:List α} {j:Nat} {v:α} (h:xs[j]?=some v):atI xs (j:Int)=some v:=by
 have hj:j < xs.length:=(bg.mp h).1;have e:ixN xs.length (j:Int)=some j:=by
  unfold ixN;rw [if_pos (by omega),if_pos (by omega)]; simp
 unfold atI; rw [e]; exact h
def EY (b:cI):Prop:=∀ o i,ym b false o i=Jc [o,i] (rH o i)
def IxR (X:Cx) (r:R2):Prop:=
 ∀ (value slice:cI) (pins:List (ak×Obj)) (s:ah) (σ:St) (H:Hp) (x y:V) (v u:ag) (Q:VK),Inv X pins σ H s->RelV x v->RelV y u->r x y H Q ->
  ym slice false v u=Jc [v,u] (rH v u)->aY (aM X.prog X.w) X.A (Bq value slice v u) (EP X pins σ Q) X.xe s
def MtR (X:Cx) (id:String) (r:V->List V->Hp->VK->Prop):Prop:=
 ∀ (pins:List (ak×Obj)) (s:ah) (σ:St) (H:Hp) (x:V) (xs:List V) (v:ag) (us:List ag) (Q:VK),Inv X pins σ H s->RelV x v->dv xs us->r x xs H Q ->
  aY (aM X.prog X.w) X.A (sX (.builtin id) (v :: us)) (EP X pins σ Q) X.xe s
section
variable {X:Cx} {a b:cI} {ta tb:TE} {pos:Pos}
theorem cg {r:R2} (hr:IxR X r) (ha:PE X a ta) (hb:PE X b tb) (hs:EY b):PE X (.Subscript a b pos) (tOp r ta tb):=by
 intro pins s σ H Q I h;exact Ia (HU ha hb I h fun v u s2 x y H2 I2 rx ry q=>hr a b pins s2 σ H2 x y v u Q I2 rx ry q (hs _ _))
inductive RIxL (K:ai) (x y:V) (H:Hp) (Q:VK):Prop where
 | mk (p:ak) (xs:List V) (i:Int) (v:V) (hx:x=.ref p) (hy:y=.int i) (s:SqL K H p xs) (e:atI xs i=some v) (q:Q v H):RIxL K x y H Q
def EZ (K:ai):R2:=fun x y H Q=>RIxL K x y H Q
inductive RIxT (K:ai) (x y:V) (H:Hp) (Q:VK):Prop where
 | mk (p:ak) (xs:List V) (i:Int) (v:V) (hx:x=.ref p) (hy:y=.int i) (s:SqT K H p xs) (e:atI xs i=some v) (q:Q v H):RIxT K x y H Q
def rIxT (K:ai):R2:=fun x y H Q=>RIxT K x y H Q
def rIxS:R2:=fun x y H Q=>∃ z i c,x=.str z/\y=.int i/\z.length<=aw/\atI z.cps.toList i=some c/\Q (.str ⟨#[c]⟩) H
theorem cw:IxR X (EZ X.K):=by
 intro value slice pins s σ H x y v u Q I rx ry h hs;obtain ⟨p,xs,i,z,rfl,rfl,hq,he,q⟩:=h
 cases rx;obtain ⟨t,rfl⟩:=ry;obtain ⟨its,r,pl,hz⟩:=I.list hq;obtain ⟨j,h1,h2,h3,h4,h5⟩:=xA he;obtain ⟨w,ew,rw'⟩:=r.get h2;have hl:=r.length;have hn:=rF;have fin:EP X pins σ Q w s:=⟨z,H,I,rw',q⟩
 by_cases h0:0<=i
 ·have hj:i.toNat=j:=by
   rw [EX h0 h5] at h1;exact bC h1
  exact item_listR pl.isList h0 (by omega) (by rw [hj]; simpa using ew) fin hs
 ·have hj:(i + (its.toArray.size:Int)).toNat=j:=by
   rw [CK (by omega) h4] at h1;rw [aI,<- hl];exact bC h1
  exact CL (x:=w) pl.isList.typeIs Jd.lookup
   (wpAny_getItem_list_neg (Q:=fun r s'=>r=w/\EP X pins σ Q r s') pl.isList (by omega) (by rw [aI] <;> omega) (by omega) (by rw [hj]; simpa using ew) ⟨rfl,fin⟩) hs
theorem d6:IxR X (rIxT X.K):=by
 intro value slice pins s σ H x y v u Q I rx ry h hs;obtain ⟨p,xs,i,z,rfl,rfl,hq,he,q⟩:=h
 cases rx;obtain ⟨t,rfl⟩:=ry;obtain ⟨its,r,pl,hz⟩:=I.tuple hq;obtain ⟨j,h1,h2,h3,h4,h5⟩:=xA he;obtain ⟨w,ew,rw'⟩:=r.get h2;have hl:=r.length;have hn:=rF;have fin:EP X pins σ Q w s:=⟨z,H,I,rw',q⟩;exact CL (x:=w) pl.typeIs slot_tuple_getitem.lookup
  (getItem_tuple (j:=j) (Q:=fun r s'=>r=w/\EP X pins σ Q r s') pl (by omega) (by omega) (by rw [aI,<- hl]; exact h1) (by simpa using ew) ⟨rfl,fin⟩) hs
theorem CM:IxR X rIxS:=by
 intro value slice pins s σ H x y v u Q I rx ry h hs;obtain ⟨z,i,c,rfl,rfl,hz,he,q⟩:=h;obtain ⟨t,rfl⟩:=rx;obtain ⟨t',rfl⟩:=ry;obtain ⟨j,h1,h2,h3,h4,h5⟩:=xA he;have hl:z.cps.toList.length=z.length:=by simp [Str.length]
 rw [hl] at h1 h4 h5;have hn:=rF;exact tail_any (mQ s z t) slot_str_getitem.lookup (getItem_str (c:=c) (by
  have e1:decide (i < -(2 ^ 63:Int))=false:=decide_eq_false (by omega);have e2:decide (i ≥ 2 ^ 63)=false:=decide_eq_false (by omega);rw [e1,e2,Ic]) (by rw [h1]; simpa using h2) ⟨.str ⟨#[c]⟩,H,I.tok _,⟨_,rfl⟩,q⟩) hs
theorem zT (its:List ag) (n j:Nat) (u:ag):oJ (·.setIfInBounds j u) {cls:=.type "list",data:=.seq its.toArray n}={cls:=.type "list",data:=.seq (its.set j u).toArray n}:=by
 simp [oJ]
theorem Inv.lst {pins:List (ak×Obj)} {σ:St} {H:Hp} {s:ah} {p:ak} {xs:List V} (I:Inv X pins σ H s) (h:H p=some (.lst xs)) :
  ∃ (its:List ag) (n:Nat),dv xs its/\s.heap.get? p=some {cls:=.type "list",data:=.seq its.toArray n}/\xs.length<=aw:=by
 obtain ⟨z,its,n,r,e⟩:=I.hok p _ h;exact ⟨its,n,r,e,z⟩
theorem Inv.lstUpd {pins:List (ak×Obj)} {σ:St} {H:Hp} {s:ah} {p:ak} {xs ys:List V} {its its':List ag} {n n':Nat} {f:Obj->Obj} (I:Inv X pins σ H s) (h:H p=some (.lst xs))
  (ho:s.heap.get? p=some {cls:=.type "list",data:=.seq its.toArray n}) (hf:f {cls:=.type "list",data:=.seq its.toArray n}={cls:=.type "list",data:=.seq its'.toArray n'}) (r:dv ys its') (hz:ys.length<=aw) (t:Nat) :
  Inv X pins σ (upd H p (.lst ys)) {s with heap:=s.heap.update p f,toks:=t}:=by
 have e:(s.heap.update p f).get? p=some {cls:=.type "list",data:=.seq its'.toArray n'}:=by
  rw [fz f ho (by rw [hf] <;> rfl),hf]
 refine I.write (x:=p) (e:=p) (by rw [h]; trivial) (.inl rfl) (fun b u hb q=>(cZ _ _ (eW hb)).trans q) ⟨_,e⟩ ?_;exact ⟨hz,its',n',r,e⟩
def rSetL:V->V->V->Hp->(Hp->Prop)->Prop:=fun o i v H Q=>∃ p xs k j,o=.ref p/\i=.int k/\H p=some (.lst xs)/\ixN xs.length k=some j/\Q (upd H p (.lst (xs.set j v)))
theorem yA:PSet X rSetL:=by
 intro pins s σ H o i v ov iv u Q I ro ri rv h;obtain ⟨p,xs,k,j,rfl,rfl,hp,hj,q⟩:=h
 cases ro;obtain ⟨t,rfl⟩:=ri;obtain ⟨its,n,r,ho,hz⟩:=I.lst hp;obtain ⟨h1,h2,h3,h4⟩:=AL hj;have hl:=r.length;have hn:=rF;have I':Inv X pins σ (upd H p (.lst (xs.set j v))) {s with heap:=s.heap.update p (oJ (·.setIfInBounds j u))}:=
  I.lstUpd hp ho (zT its n j u) (r.set rv j) (by rw [List.length_set]; exact hz) s.toks
 by_cases h0:0<=k
 ·have hk:k.toNat=j:=by
   rw [EX h0 h4] at h1;exact bC h1
  exact PySem.W.ki_setAt ho h0 (by omega) (by rw [aI,<- hl]; exact h4) (by rw [hk]; exact ⟨_,I',q⟩)
 ·have hk:(k + (its.toArray.size:Int)).toNat=j:=by
   rw [CK (by omega) h3] at h1;rw [aI,<- hl];exact bC h1
  exact PySem.W.ki_setBack ho (by omega) (by rw [aI,<- hl]; exact h3) (by omega) (by rw [hk]; exact ⟨_,I',q⟩)
theorem xB (lo hi:Option Int) (n:Nat):(nR lo hi none n).1=((HT.sIx n 0 lo:Nat):Int)/\(nR lo hi none n).2.1=((HT.sIx n n hi:Nat):Int)/\(nR lo hi none n).2.2=1:=by
 refine ⟨?_,?_,rfl⟩
 ·cases lo with
  | none=>simp [nR,HT.sIx]
  | some i =>
   simp only [nR,HT.sIx,Ce,show (1:Int) > 0 by decide,if_true]
   by_cases h:i < 0
   ·simp only [h,if_true] <;> omega
   ·simp only [h,if_false] <;> omega
 ·cases hi with
  | none=>simp [nR,HT.sIx]
  | some i =>
   simp only [nR,HT.sIx,Ce,show (1:Int) > 0 by decide,if_true]
   by_cases h:i < 0
   ·simp only [h,if_true] <;> omega
   ·simp only [h,if_false] <;> omega
theorem vT (its:List ag) (lo hi:Option Int):slicePick its.toArray lo hi none=((its.drop (HT.sIx its.length 0 lo)).take (HT.sIx its.length its.length hi - HT.sIx its.length 0 lo)).toArray:=by
 obtain ⟨h1,h2,h3⟩:=xB lo hi its.toArray.size;unfold slicePick;rw [h1,h2,h3];simp only [sliceRange_one,pick_run,aI] <;> rfl
def Ie (K:ai):V->Option Int->Option Int->Hp->VK->Prop:=fun x lo hi H Q=>∃ a xs,x=.ref a/\SqL K H a xs/\∀ p,H p=none->Q (.ref p) (upd H p (.lst (gU xs lo hi)))
theorem jq:SlR X (Ie X.K):=by
 intro pins s σ H x v vl vu lo hi sl Q I rx hs pl pu h;obtain ⟨a,xs,rfl,hx,q⟩:=h
 cases rx;obtain ⟨its,r,ht,hz⟩:=I.list hx;have hlen:=r.length;refine ⟨"list",_,Jd.lookup,ht.isList.typeIs,?_⟩;refine wpAny_getItem_list_slice ht.isList hs pl pu .none (by simp) ?_ (by rw [aI] <;> omega);rw [vT,<- hlen];refine ⟨.ref s.heap.objs.size,_,I.laid (t':=s.toks) (o:=.lst (gU xs lo hi)) (fun b ob q=>aD _ q) (ay _) ?_,rfl,q _ (I.hok.fresh (ay _))⟩;exact ⟨bN (qy xs lo hi) hz,_,0,(r.drop (HT.sIx xs.length 0 lo)).take (HT.sIx xs.length xs.length hi - HT.sIx xs.length 0 lo),bV _ rfl⟩
def oY:V->Bool
 | .non=>true
 | .bl _=>true
 | .int _=>true
 | .str _=>true
 | _=>false
def eqV:V->V->Bool
 | .non,.non=>true
 | .bl a,.bl b=>a == b
 | .bl a,.int b=>(if a then 1 else 0) == b
 | .int a,.bl b=>a == (if b then 1 else 0)
 | .int a,.int b=>a == b
 | .str a,.str b=>a == b
 | _,_=>false
theorem Ig {A:bQ} {s:ah} {y x:V} {u v:ag} (ry:RelV y u) (rx:RelV x v) (fy:oY y=true) (fx:oY x=true):SeqAt.EqAt A s u v (eqV y x):=by
 cases y with
 | non =>
  cases ry
  cases x with
  | non=>cases rx; exact SeqAt.EqAt.same _
  | bl b=>cases rx; exact SeqAt.EqAt.none_bool b
  | int b=>obtain ⟨t,rfl⟩:=rx; exact SeqAt.EqAt.none_int b t
  | str b=>obtain ⟨t,rfl⟩:=rx; exact SeqAt.EqAt.none_str b t
  | _=>exact absurd (show false=true from fx) aX
 | bl a =>
  cases ry
  cases x with
  | non=>cases rx; exact SeqAt.EqAt.bool_none a
  | bl b=>cases rx; exact SeqAt.EqAt.bool_bool a b
  | int b=>obtain ⟨t,rfl⟩:=rx; exact SeqAt.EqAt.bool_int a b t
  | str b=>obtain ⟨t,rfl⟩:=rx; exact SeqAt.EqAt.bool_str a b t
  | _=>exact absurd (show false=true from fx) aX
 | int a =>
  obtain ⟨t',rfl⟩:=ry
  cases x with
  | non=>cases rx; exact SeqAt.EqAt.int_none a t'
  | bl b=>cases rx; exact SeqAt.EqAt.int_bool a t' b
  | int b=>obtain ⟨t,rfl⟩:=rx; exact SeqAt.EqAt.int_int a t' b t
  | str b=>obtain ⟨t,rfl⟩:=rx; exact yi a t' b t
  | _=>exact absurd (show false=true from fx) aX
 | str a =>
  obtain ⟨t',rfl⟩:=ry
  cases x with
  | non=>cases rx; exact SeqAt.EqAt.str_none a t'
  | bl b=>cases rx; exact SeqAt.EqAt.str_bool a t' b
  | int b=>obtain ⟨t,rfl⟩:=rx; exact yj a t' b t
  | str b=>obtain ⟨t,rfl⟩:=rx; exact SeqAt.EqAt.str_str a t' b t
  | _=>exact absurd (show false=true from fx) aX
 | _=>exact absurd (show false=true from fy) aX
def eqU (x:V) (u:ag):Bool:=match u with
 | .none=>eqV .non x
 | .bool b=>eqV (.bl b) x
 | .int i _=>eqV (.int i) x
 | .str z _=>eqV (.str z) x
 | _=>false
theorem CO {x y:V} {u:ag} (r:RelV y u) (f:oY y=true):eqU x u=eqV y x:=by
 cases y with
 | non=>cases r; rfl
 | bl b=>cases r; rfl
 | int i=>obtain ⟨t,rfl⟩:=r; rfl
 | str z=>obtain ⟨t,rfl⟩:=r; rfl
 | _=>exact absurd (show false=true from f) aX
theorem xC {x:V}:∀ {xs:List V} {us:List ag},dv xs us->xs.all oY=true->us.any (eqU x)=xs.any fun y=>eqV y x
 | _,_,.nil,_=>rfl
 | y :: xs,u :: us,.cons r t,f=>by
  rw [Ih,cY] at f;rw [jL,jL,CO r f.1,xC t f.2]
theorem uO {A:bQ} {s:ah} {x:V} {v:ag} (rx:RelV x v) (fx:oY x=true):∀ {xs:List V} {us:List ag},dv xs us->xs.all oY=true->∀ u∈us,SeqAt.EqAt A s u v (eqU x u)
 | _,_,.nil,_=>fun u hu=>by cases hu
 | y :: xs,u :: us,.cons r t,f=>fun u' hu=>by
  rw [Ih,cY] at f
  rcases ar.mp hu with rfl | hu
  ·rw [CO r f.1]; exact Ig r rx f.1 fx
  ·exact uO rx fx t f.2 u' hu
def inV (x:V) (xs:List V):Bool:=xs.any fun y=>eqV y x
def rIn (K:ai) (neg:Bool):R2:=fun x y H Q=>∃ p xs,y=.ref p/\(SqL K H p xs\/SqT K H p xs)/\oY x=true/\xs.all oY=true/\Q (.bl (if neg then !inV x xs else inV x xs)) H
theorem qN:OpR X (dA .In) (rIn X.K false):=by
 intro pins s σ H x y v u Q I rx ry h;obtain ⟨p,xs,rfl,hq,fx,fs,q⟩:=h
 cases ry
 rcases hq with hq | hq
 ·obtain ⟨its,r,pl,hz⟩:=I.list hq;refine SeqAt.in_listAt (eqU x) pl.isList (fun w hw=>uO rx fx r fs w (by simpa using hw)) ⟨.bl _,H,I,rfl,?_⟩;rw [show its.toArray.any (eqU x)=its.any (eqU x) by simp,xC r fs];exact q
 ·obtain ⟨its,r,pl,hz⟩:=I.tuple hq;refine SeqAt.in_tupleAt (eqU x) pl (fun w hw=>uO rx fx r fs w (by simpa using hw)) ⟨.bl _,H,I,rfl,?_⟩;rw [show its.toArray.any (eqU x)=its.any (eqU x) by simp,xC r fs];exact q
theorem xD:oj X (.builtin "len") (fun xs H Q=>∃ p ys,xs=[.ref p]/\(SqL X.K H p ys\/SqT X.K H p ys)/\Q (.int ys.length) H):=by
 intro pins s σ H xs us Q I r h;obtain ⟨p,ys,rfl,hq,q⟩:=h;obtain ⟨u,rfl,rx⟩:=vals1 r
 cases rx;have hn:=rF
 rcases hq with hq | hq
 ·obtain ⟨its,r',pl,hz⟩:=I.list hq;have hlen:=r'.length;exact Calls.call_len_list pl.isList (by simp only [aI] <;> omega) ⟨.int ys.length,H,I.tok _,⟨s.toks + 1,by rw [aI,hlen]⟩,q⟩
 ·obtain ⟨its,r',pl,hz⟩:=I.tuple hq;have hlen:=r'.length;exact len_tuple pl (by simp only [aI] <;> omega) ⟨.int ys.length,H,I.tok _,⟨s.toks + 1,by rw [aI,hlen]⟩,q⟩
theorem fA:oj X (.builtin "len") (fun xs H Q=>∃ z,xs=[.str z]/\z.length<=aw/\Q (.int z.length) H):=by
 intro pins s σ H xs us Q I r h;obtain ⟨z,rfl,hz,q⟩:=h;obtain ⟨u,rfl,t,rfl⟩:=vals1 r;have hn:=rF;exact len_str (by omega) ⟨.int z.length,H,I.tok _,⟨_,rfl⟩,q⟩
theorem vU:oj X (.type "tuple") (fun xs H Q=>∃ p ys,xs=[.ref p]/\((SqL X.K H p ys/\∀ l,H l=none->Q (.ref l) (upd H l (.tup ys)))\/(SqT X.K H p ys/\Q (.ref p) H))):=by
 intro pins s σ H xs us Q I r h;obtain ⟨p,ys,rfl,h⟩:=h;obtain ⟨u,rfl,rx⟩:=vals1 r
 cases rx
 rcases h with ⟨hq,q⟩ | ⟨hq,q⟩
 ·obtain ⟨its,r',pl,hz⟩:=I.list hq;have hlen:=r'.length;refine call_tuple_list pl.isList (fun h' kp=>?_) (by simp only [aI] <;> omega);have I1:Inv X pins σ H {s with heap:=h'}:=I.kept (t':=s.toks) kp;have I2:Inv X pins σ (upd H h'.objs.size (.tup ys)) {s with heap:=h'.push {cls:=.type "tuple",data:=.seq its.toArray}}:=
   I1.laid (t':=s.toks) (fun b o e=>aD _ e) (ay _) (show gB X.prog X.w _ _ _ (.tup ys) from ⟨hz,its,r',CJ _ _⟩)
  exact ⟨.ref h'.objs.size,_,I2,rfl,q _ (I1.hok.fresh (ay _))⟩
 ·obtain ⟨its,r',pl,hz⟩:=I.tuple hq;exact call_tuple_same pl ⟨.ref p,H,I,rfl,q⟩
def tyV (K:ai) (T:String) (x:V) (H:Hp):Prop:=match x with
 | .str _=>T="str"
 | .int _=>T="int"
 | .ref p=>(T="list"/\∃ xs,SqL K H p xs)\/(T="tuple"/\∃ o,K.lookup p=some o/\o.cls=.type "tuple"/\o.dict=none) \/
   (T="dict"/\((∃ kvs,H p=some (.dK kvs))\/∃ kvs,H p=some (.dT kvs)))\/(T="set"/\∃ S n,H p=some (.set S n))
 | _=>False
theorem zU {pins:List (ak×Obj)} {σ:St} {H:Hp} {s:ah} {T:String} {x:V} {v:ag} (I:Inv X pins σ H s) (r:RelV x v) (ty:tyV X.K T x H) :
  s.TypeIs v T/\∀ a,v=.ref a->∃ ob,s.heap.get? a=some ob/\ob.dict=none:=by
 cases x with
 | str z =>
  obtain ⟨t,rfl⟩:=r
  cases (show T="str" from ty);exact ⟨mQ s z t,fun _ e=>nomatch e⟩
 | int i =>
  obtain ⟨t,rfl⟩:=r
  cases (show T="int" from ty);exact ⟨typeIs_int s i t,fun _ e=>nomatch e⟩
 | ref p =>
  cases r
  rcases ty with ⟨rfl,xs,hq⟩ | ⟨rfl,o,hk,hc,hd⟩ | ⟨rfl,hk⟩ | ⟨rfl,S,n,hk⟩
  ·obtain ⟨its,_,pl,_⟩:=I.list hq;refine ⟨pl.isList.typeIs,fun a e=>?_⟩
   cases e;obtain ⟨o,n,e,c,hd,_⟩:=pl;exact ⟨o,e,hd⟩
  ·refine ⟨⟨o,I.kIn p o hk,hc⟩,fun a e=>?_⟩
   cases e;exact ⟨o,I.kIn _ o hk,hd⟩
  ·have z:∃ o,s.heap.get? p=some o/\o.ExactDict:=by
    rcases hk with ⟨kvs,hk⟩ | ⟨kvs,hk⟩
    ·obtain ⟨_,_,_,_,o,_,_,e,ex,_⟩:=I.hok p _ hk;exact ⟨o,e,ex⟩
    ·obtain ⟨_,_,_,_,o,_,_,e,ex,_⟩:=I.hok p _ hk;exact ⟨o,e,ex⟩
   obtain ⟨o,e,ex⟩:=z;refine ⟨⟨o,e,ex.1⟩,fun a e2=>?_⟩
   cases e2;exact ⟨o,e,ex.2.1⟩
  ·obtain ⟨o,_,_,_,e,ex,_⟩:=I.hok p _ hk;refine ⟨⟨o,e,ex.1⟩,fun a e2=>?_⟩
   cases e2;exact ⟨o,e,ex.2.1⟩
 | _=>exact cQ ty
def tBM0 (K:ai) (T:String) (r:V->List V->Hp->VK->Prop) (to:TE):TE:=fun σ H Q=>to σ H fun x H1=>tyV K T x H1/\r x [] H1 Q
def tBM (K:ai) (T:String) (r:V->List V->Hp->VK->Prop) (to:TE) (t:TA):TE:=fun σ H Q=>to σ H fun x H1=>tyV K T x H1/\t σ H1 fun xs H2=>r x xs H2 Q
variable {o e:cI} {es:List cI} {to:TE} {t:TA} {name:Str} {apos cpos:Pos} {T id:String} {r:V->List V->Hp->VK->Prop}
theorem CP (pa:zV T) (slot:Slot T name id) (hty:CQ (.builtin id)=pure (.type "method_descriptor")) (hm:MtR X id r) (ho:PE X o to)
  (hbase:iF o name X.env (dE o X.env)=dE o X.env:=by rfl) (hline:(apos.endLine == cpos.line)=true:=by rfl):PE X (.Call (.Attribute o name apos) [] [] cpos) (tBM0 X.K T r to):=by
 intro pins s σ H Q I h;refine wpAny_Call_method0_late hbase hline (thn (ho pins s σ H _ I h) fun v s1 ⟨x,H1,I1,r1,ty,q1⟩=>?_);obtain ⟨h1,h2⟩:=zU I1 r1 ty;exact ⟨T,id,pa,slot,hty,h1,h2,yB rfl (PySem.evalArgs_none (hm pins s1 σ H1 x [] v [] Q I1 r1 .nil q1))⟩
theorem gJ (pa:zV T) (slot:Slot T name id) (hty:CQ (.builtin id)=pure (.type "method_descriptor")) (hm:MtR X id r) (ho:PE X o to) (ha:PA X (e :: es) t)
  (hbase:iF o name X.env (dE o X.env)=dE o X.env:=by rfl)
  (hfew:((eR cpos (bB (e :: es) X.env)).all (fun x=>!x.1) && (pI cpos (jH [] X.env)).all (fun x=>x.1.isSome)
   && decide ((e :: es).length + ([]:List oW).length + (if ([]:List oW).isEmpty then 0 else 1) < 30))=true:=by rfl)
  (hline:(apos.endLine == cpos.line)=true:=by rfl) (hs:bB (e :: es) X.env=(false,dE e X.env) :: bB es X.env:=by rfl) (hplain:(eR cpos (bB es X.env)).any (·.1)=false:=by rfl) :
  PE X (.Call (.Attribute o name apos) (e :: es) [] cpos) (tBM X.K T r to t):=by
 intro pins s σ H Q I h;refine wpAny_Call_method_late hbase hfew hline rfl (thn (ho pins s σ H _ I h) fun v s1 ⟨x,H1,I1,r1,ty,q1⟩=>?_);obtain ⟨h1,h2⟩:=zU I1 r1 ty;refine ⟨T,id,pa,slot,hty,h1,h2,?_⟩;have hA:=ha cpos pins s1 σ H1 _ I1 q1;rw [hs] at hA |-;refine yB (by show (false || (eR cpos (bB es X.env)).any (·.1))=false; rw [hplain] <;> rfl) (lH ?_);exact thn hA fun us s2 ⟨vs,H2,I2,r2,q2⟩=>hm pins s2 σ H2 x vs v us Q I2 r1 r2 q2
end
def MtM (X:Cx) (id:String) (r:V->List V->Hp->VK->Prop):Prop:=
 ∀ (pins:List (ak×Obj)) (s:ah) (σ:St) (H:Hp) (x:V) (xs:List V) (v:ag) (us:List ag) (Q:VK),Inv X pins σ H s->RelV x v->dv xs us->r x xs H Q ->
  aY (aM X.prog X.w) X.A (sX (.builtin id) (v :: us)) (EP X pins σ Q) X.xe s
theorem dv.one:∀ {x:V} {us:List ag},dv [x] us->∃ u,us=[u]/\RelV x u
 | _,_,.cons r .nil=>⟨_,rfl,r⟩
theorem dv.zero:∀ {us:List ag},dv [] us->us=[]
 | _,.nil=>rfl
theorem dv.dropLast {xs:List V} {us:List ag} (h:dv xs us):dv xs.dropLast us.dropLast:=by
 induction h with
 | nil=>exact .nil
 | cons r t ih =>
  cases t with
  | nil=>exact .nil
  | cons q t'=>exact .cons r ih
theorem dv.reverse {xs:List V} {us:List ag} (h:dv xs us):dv xs.reverse us.reverse:=by
 induction h with
 | nil=>exact .nil
 | cons r t ih=>rw [gv,gv]; exact dv.append ih (.cons r .nil)
theorem zW {α:Type} (l:List α):l.eraseIdx (l.length - 1)=l.dropLast:=by
 induction l with
 | nil=>rfl
 | cons a r ih =>
  cases r with
  | nil=>rfl
  | cons b r =>
   have e:(a :: b :: r).length - 1=((b :: r).length - 1) + 1:=by
    have h1:(a :: b :: r).length=r.length + 2:=rfl;have h2:(b :: r).length=r.length + 1:=rfl;omega
   rw [e,List.eraseIdx_cons_succ,ih]
   all_goals rfl
section
variable {X:Cx} {pins:List (ak×Obj)} {σ:St} {H:Hp} {s:ah} {l b:ak} {xs ys zs:List V}
theorem Inv.lset {its its':List ag} {n:Nat} {f:Array ag->Array ag} {t':Nat} (I:Inv X pins σ H s) (hH:H l=some (.lst xs))
  (e:s.heap.get? l=some {cls:=.type "list",data:=.seq its.toArray n}) (hf:f its.toArray=its'.toArray) (hv:dv ys its') (hz:ys.length<=aw) :
  Inv X pins σ (upd H l (.lst ys)) {s with heap:=s.heap.update l (oJ f),toks:=t'}:=by
 have q:=PySem.IsL.update e f;rw [hf] at q;refine I.write (x:=l) (e:=l) (by rw [hH]; exact trivial) (.inl rfl) (fun b' u hb hu=>(cZ s.heap (oJ f) (eW hb)).trans hu) ⟨_,q⟩ ?_;exact ⟨hz,its',_,hv,q⟩
theorem Inv.lnew {its:List ag} {t':Nat} (I:Inv X pins σ H s) (hv:dv ys its) (hz:ys.length<=aw) :
  Inv X pins σ (upd H s.heap.objs.size (.lst ys)) {s with heap:=s.heap.push {cls:=.type "list",data:=.seq its.toArray},toks:=t'}:=
 I.laid (fun _ _ q=>aD _ q) (ay _) ⟨hz,its,0,hv,bV _ rfl⟩
theorem Inv.fresh (I:Inv X pins σ H s):H s.heap.objs.size=none:=I.hok.fresh (ay _)
theorem Inv.lstM (I:Inv X pins σ H s) (hH:H l=some (.lst xs)):xs.length<=aw/\∃ (its:List ag) (n:Nat),dv xs its/\xs.length=its.length/\s.heap.get? l=some {cls:=.type "list",data:=.seq its.toArray n}:=by
 obtain ⟨z,its,n,r,e⟩:=I.hok l _ hH;exact ⟨z,its,n,r,r.length,e⟩
theorem CS {n:Nat} (h:n<=aw):mD n=false:=by
 unfold mD;exact decide_eq_false (by omega)
end
section
variable {X:Cx}
inductive AppI (x:V) (vs:List V) (H:Hp) (Q:VK):Prop where
 | mk (l:ak) (xs:List V) (y:V) (hx:x=.ref l) (hv:vs=[y]) (h:H l=some (.lst xs)) (n:xs.length < aw) (q:Q .non (upd H l (.lst (xs++[y])))):AppI x vs H Q
def E1:V->List V->Hp->VK->Prop:=fun x vs H Q=>AppI x vs H Q
theorem fw:MtM X "list.append" E1:=by
 intro pins s σ H x vs v us Q I rx rv h;obtain ⟨l,xs,y,rfl,rfl,hH,hz,q⟩:=h
 cases rx;obtain ⟨u,rfl,ru⟩:=rv.one;obtain ⟨z,its,n,r,hl,e⟩:=I.lstM hH;refine rJ F.slot_list_append ⟨_,e,rfl⟩ F.entry_list_append (F.args_list_append_2 _ _) (PySem.list_append l its.toArray n u (by rw [aI]; omega)) ⟨e,?_⟩;refine ⟨.non,_,I.lset (its':=its++[u]) hH e (by simp) (r.append (.cons ru .nil)) ?_,rfl,q⟩;rw [af,kZ];omega
def E2:V->List V->Hp->VK->Prop:=fun x vs H Q=>∃ l b xs zs,x=.ref l/\vs=[.ref b]/\H l=some (.lst xs)/\H b=some (.lst zs)/\xs.length + zs.length<=aw/\Q .non (upd H l (.lst (xs++zs)))
theorem mt_extend:MtM X "list.extend" E2:=by
 intro pins s σ H x vs v us Q I rx rv h;obtain ⟨l,b,xs,zs,rfl,rfl,hH,hB,hz,q⟩:=h
 cases rx;obtain ⟨u,rfl,ru⟩:=rv.one
 cases ru;obtain ⟨z,its,n,r,hl,e⟩:=I.lstM hH;obtain ⟨z2,its2,n2,r2,hl2,e2⟩:=I.lstM hB;have hsz:its.toArray.size + its2.toArray.size<=aw:=by rw [aI,aI]; omega
 have hlong:¬ (!its.toArray.isEmpty && mD (its.toArray.size + its2.toArray.size))=true:=by
  rw [CS hsz,gT];exact aX
 refine rJ F.slot_list_extend ⟨_,e,rfl⟩ F.entry_list_extend (F.args_list_extend_2 _ _)
  (AutoSeq1.list_extend_list_list_0 l its.toArray n b its2.toArray n2 hlong (by rw [aI]; omega) (by omega)) ⟨e,e2,?_⟩
 refine ⟨.non,_,I.lset (its':=its++its2) hH e (by simp) (r.append r2) ?_,rfl,q⟩;rw [af];omega
def rPop:V->List V->Hp->VK->Prop:=fun x vs H Q=>∃ l xs y,x=.ref l/\vs=[]/\H l=some (.lst xs)/\xs[xs.length - 1]?=some y/\Q y (upd H l (.lst xs.dropLast))
theorem CT:MtM X "list.pop" rPop:=by
 intro pins s σ H x vs v us Q I rx rv h;obtain ⟨l,xs,y,rfl,rfl,hH,hy,q⟩:=h
 cases rx;have hus:=rv.zero;subst hus;obtain ⟨z,its,n,r,hl,e⟩:=I.lstM hH;obtain ⟨u,hu,ru⟩:=r.get hy;have hy':its.toArray[its.toArray.size - 1]?=some u:=by
  show its.toArray[its.length - 1]?=some u;rw [<- qz,<- hl];exact hu
 refine rJ F.slot_list_pop ⟨_,e,rfl⟩ F.entry_list_pop (F.args_list_pop_1 _) (MeetsSeq.list_pop_last l its.toArray n u hy' (by rw [aI]; omega)) ⟨e,?_⟩;refine ⟨y,_,I.lset (its':=its.dropLast) hH e ?_ r.dropLast ?_,ru,q⟩
 ·show its.toArray.eraseIdxIfInBounds (its.toArray.size - 1)=its.dropLast.toArray;rw [aI,List.eraseIdxIfInBounds_toArray,zW]
 ·rw [List.length_dropLast];omega
def CU:R2:=fun x y H Q=>∃ l b xs zs,x=.ref l/\y=.ref b/\H l=some (.lst xs)/\H b=some (.lst zs)/\xs.length + zs.length<=aw/\∀ p,H p=none->Q (.ref p) (upd H p (.lst (xs++zs)))
theorem e9:OpR X (jG .Add) CU:=by
 intro pins s σ H x y v u Q I rx ry h;obtain ⟨l,b,xs,zs,rfl,rfl,hH,hB,hz,q⟩:=h
 cases rx
 cases ry;obtain ⟨z,its,n,r,hl,e⟩:=I.lstM hH;obtain ⟨z2,its2,n2,r2,hl2,e2⟩:=I.lstM hB;refine PySem.P.add_list e e2 ?_ (by rw [aI,aI]; omega);have ea:its.toArray++its2.toArray=(its++its2).toArray:=by simp
 rw [ea];exact ⟨.ref _,_,I.lnew (t':=s.toks) (r.append r2) (by rw [af]; omega),rfl,q _ I.fresh⟩
end
section
variable {prog:aQ} {w:bT} {A:bQ} {E:ag->ah->Prop} {s:ah}
end
section
variable {X:Cx}
end
end L2
namespace Att
open PySem PySem.W PySem.Calls PyProof.Rows
theorem ints_of_wellAll {P:Params} {h:cP}:∀ (ns:List Int) (vs:List ag),WellAll P h vs (ns.map WData.int)->CV vs ns:=by
 intro ns
 induction ns with
 | nil =>
  intro vs w;rw [zw] at w
  cases w;exact .nil
 | cons n ns ih =>
  intro vs w;rw [bY] at w
  cases w with
  | cons a b =>
   cases a;exact .cons _ _ (ih _ b)
theorem script_of {l:OpenLaw} {n:Nat} (hn:l.most=some n) {P:Params} {h:cP} {args:List WData} {vals:List ag}
  (hpre:l.row.toRowW.claim.pre args=true) (hwl:WellAll P h vals args) :
  ∃ a vs ns,vals=[Value.ref a]/\args=[WData.list (ns.map WData.int)]/\h.get? a=some {cls:=.type "list",data:=.seq vs.toArray}/\CV vs ns/\ns.length<=n:=by
 have hsh:WShape.hasAll [] args [.list .int]=true:=(Ii hpre).1;have hc:l.pre.holds [] {args:=args}=true:=(Ii hpre).2;obtain ⟨d,r,rfl,h1,h2⟩:=hasAllW_cons hsh;obtain rfl:=hasAllW_nil h2;obtain ⟨xs,rfl,h3⟩:=hasW_list h1;obtain ⟨ns,rfl⟩:=items_int h3;have hlen:ns.length<=n:=by
  unfold OpenLaw.pre at hc;have h4:(WTm.not (.lt (.lit (.int (n:Int))) (.len (.arg 0)))).holds [] {args:=[.list (ns.map .int)]}=true:=by
   have h4:=(holds_andW hc).1;rw [hn] at h4;exact h4
  have h5:=condW_of h4 (w_not (w_lt w_lit (w_len_list (w_arg rfl))));rw [aa] at h5;refine Nat.le_of_not_lt fun q=>?_;have q':(n:Int) < ((ns.length:Nat):Int):=by omega
  first
   |(rw [decide_eq_true q'] at h5; exact absurd h5 (by decide))
   |(simp at h5; omega)
 cases hwl with
 | cons w1 w2 =>
  cases w2
  cases w1 with
  | list ho hall=>exact ⟨_,_,ns,rfl,rfl,ho,ints_of_wellAll ns _ hall,hlen⟩
theorem post_true (l:OpenLaw) (args:List WData):l.row.toRowW.claim.post args (.bool true) args=true:=
 postW_of (r:=l.row.toRowW) (X:=(true == true))
  (show Je [] (.bool true) .bool=true by first | rfl | decide | simp [Je,WShape.arms,WShape.armsAll])
  (show (WTm.eq .res (.lit (.bool true))).value [] {args:=args,res:=some (.bool true),after:=args}=some (.bool (true == true)) from w_eq_bool (w_res rfl) w_lit) rfl
section
variable {prog:aQ} {w:bT} {A:bQ} {E:ag->ah->Prop} {s:ah} {K:Frag}
end
end Att
namespace L2
open PySem PySem.Spec PyProof.Rows
theorem wH:∀ {vs:List ag} {ns:List Int},CV vs ns->dv (ns.map V.int) vs
 | _,_,.nil=>.nil
 | _,_,.cons n t h=>.cons ⟨t,rfl⟩ (wH h)
def Only (H:Hp):Prop:=∀ b,H b=none\/∃ o xs,H b=some (.frz o (.lst xs))
def qO (s:di) (j:Nat):di:=match s with
 | .ClassDef _ _ _ body _ _ _ _ _ _ _=>body.getD j (.Pass ⟨0,0,0,0⟩)
 | _=>.Pass ⟨0,0,0,0⟩
def lQ (s:di):Arguments:=match s with
 | .FunctionDef _ a _ _ _ _ _ _ _ _=>a
 | _=>{posonlyargs:=[],args:=[],vararg:=none,kwonlyargs:=[],kw_defaults:=[],kwarg:=none,defaults:=[]}
def jB (s:di):List di:=match s with
 | .FunctionDef _ _ b _ _ _ _ _ _ _=>b
 | _=>[]
def aZ (s:di):kO:=match s with
 | .FunctionDef _ _ _ _ _ _ sc _ _ _=>sc
 | _=>{kind:=.function,names:=[],isGenerator:=false,isCoroutine:=false}
abbrev CX0:CXT:=fun _ _ _ _ _ _=>False
abbrev E0:XK:=fun _ _ _=>False
theorem bM {X:Cx}:oI CX0 X E0:=fun _ _ _ _ _ _ _ h=>h.elim
structure Fun (K:ai) (x qual:Str) (st:di) (f:ak) (fd:cF):Prop where
 ex:∃ (oc:ag) (od:Option ak) (kV doc pm:ag) (an:Option ak) (cdv ct:ag) (osl:Array (Option ag)),
  fd=eZ x qual (lQ st) (jB st) (aZ st) .none kV doc pm an cdv ct/\K.lookup f=some ⟨oc,od,.func fd,osl⟩/\j8 K cdv qual=true
 kp:dY K (.ref f)=true
section
variable {P:aQ} {w:bT} {K:ai} {mg:Str->Option ag} {base:cP}
theorem Fun.ok {x qual:Str} {st:di} {f:ak} {fd:cF} {N ps:List Str} {k:Nat} {sp:Sp} (F:Fun K x qual st f fd) (S:cK N ps (aZ st)) (len:∀ vs H Q E,sp vs H Q E->vs.length=ps.length)
  (hbody:∀ (cdv:ag) (A:bQ) (outer:List Env) (s:ah) (H:Hp) (vs:List V) (Q:VK) (E:XK),dj k (A.deeper (qx qual (aZ st) s.heap.objs.size f cdv))->sp vs H Q E ->
   ∃ t,PSs (t4 CX0 P w K mg base N qual (aZ st) f cdv A outer s H E).nox (jB st) t/\t {nx:=fun _ H'=>Q .non H',rt:=Q} (start N vs) H):cW P w K mg base CX0 (k + 1) f fd ps sp:=by
 obtain ⟨oc,od,kV,doc,pm,an,cdv,ct,osl,rfl,lk,hcd⟩:=F.ex;refine fn_of lk hcd S len fun A outer s H vs Q E hr hsp=>?_;obtain ⟨t,h,q⟩:=hbody cdv A outer s H vs Q E hr hsp;exact ⟨t,h.nox,q⟩
theorem Fun.binds {x qual:Str} {st:di} {f:ak} {fd:cF} {ps:List Str} (F:Fun K x qual st f fd)
  (h:∀ (kV doc pm:ag) (an:Option ak) (cdv ct:ag) (us:List ag),us.length=ps.length->vR (eZ x qual (lQ st) (jB st) (aZ st) .none kV doc pm an cdv ct) ⟨us,[]⟩=pure (ps.zip us)):Binds K fd ps []:=by
 obtain ⟨oc,od,kV,doc,pm,an,cdv,ct,osl,rfl,lk,hcd⟩:=F.ex;exact .all (h kV doc pm an cdv ct)
theorem CW {x qual:Str} {st:di} {f:ak} {oc:ag} {od an:Option ak} {osl:Array (Option ag)} {kV doc pm cdv ct:ag} (l:K.lookup f=some ⟨oc,od,.func (eZ x qual (lQ st) (jB st) (aZ st) .none kV doc pm an cdv ct),osl⟩)
  (c:j8 K cdv qual=true) (k:dY K (.ref f)=true):Fun K x qual st f (eZ x qual (lQ st) (jB st) (aZ st) .none kV doc pm an cdv ct):=⟨⟨oc,od,kV,doc,pm,an,cdv,ct,osl,rfl,l,c⟩,k⟩
end
theorem hu_of {A:bQ} {k:Nat} (hr:dj k A):A.units + 1 < ic:=Nat.lt_of_le_of_lt (Nat.add_le_add_left (by decide:1<=64) _) hr.units
section
variable {X:Cx}
theorem pv (i:Nat) {x:Str} {pos:Pos} (hN:X.N[i]?=some x:=by rfl) (hv:Vis X.env.scope x:=by first | exact Or.inl rfl | exact Or.inr (Or.inl rfl) | exact Or.inr (Or.inr rfl)) (hd:(x == ("__debug__":Str))=false:=by decide)
  (hcd:(x == ("__classdict__":Str))=false:=by decide):PE X (.Name x pos) (kF i):=HK hN hv hd hcd
end
theorem c9 {A B:Prop} (h:B):if false=true then A else B:=by
 rw [if_neg aX];exact h
theorem cT {A B:Prop} (h:A):if true=true then A else B:=by
 rw [if_pos rfl];exact h
theorem E3 {c A B:Prop} [Decidable c] (h1:c->A) (h2:¬ c->B):if c then A else B:=by
 by_cases h:c
 ·rw [if_pos h];exact h1 h
 ·rw [if_neg h];exact h2 h
def cO (H H':Hp):Prop:=∀ b o,H b=some o->H' b=some o
theorem cO.refl (H:Hp):cO H H:=fun _ _ h=>h
theorem cO.trans {H H1 H2:Hp} (a:cO H H1) (b:cO H1 H2):cO H H2:=fun c o h=>b c o (a c o h)
theorem cO.free {H H':Hp} (e:cO H H') {l:ak} (h:H' l=Option.none):H l=Option.none:=by
 cases q:H l with
 | none=>rfl
 | some o =>
  rw [e l o q] at h
  cases h
section
variable {κ:Type} [DecidableEq κ]
def vV (kvs:List (κ×V)) (k:κ):Option V:=(kvs.find? fun kv=>decide (kv.1=k)).map (·.2)
def yC (kvs:List (κ×V)) (k:κ) (v:V):List (κ×V):=
 if (kvs.any fun kv=>decide (kv.1=k))=true then kvs.map (fun kv=>if kv.1=k then (kv.1,v) else kv) else kvs++[(k,v)]
theorem yD {p:κ×V} {r:List (κ×V)} {k:κ} (e:p.1=k):vV (p :: r) k=some p.2:=by simp [vV,jV,e]
theorem yE {p:κ×V} {r:List (κ×V)} {k:κ} (e:¬ p.1=k):vV (p :: r) k=vV r k:=by simp [vV,jV,e]
theorem yF (kvs:List (κ×V)) (k:κ) (v:V):(yC kvs k v).length<=kvs.length + 1:=by
 unfold yC
 split
 ·rw [aa]; omega
 ·rw [af,aG,jW]; omega
theorem KV.val {kvs:List (κ×V)} {vs:List (κ×ag)} (r:KV kvs vs) (k:κ):rY (vV kvs k) (qh vs k):=by
 unfold KV at r
 induction r with
 | nil=>exact True.intro
 | @cons p q ps qs h t ih =>
  obtain ⟨h1,h2⟩:=h
  by_cases e:p.1=k
  ·have e':q.1=k:=h1.symm.trans e;have b:qh (q :: qs) k=some q.2:=by simp [qh,jV,e']
   rw [yD e,b]; exact h2
  ·have e':¬ q.1=k:=fun z=>e (h1.trans z);have b:qh (q :: qs) k=qh qs k:=by simp [qh,jV,e']
   rw [yE e,b]; exact ih
theorem KV.any {kvs:List (κ×V)} {vs:List (κ×ag)} (r:KV kvs vs) (k:κ):(kvs.any fun kv=>decide (kv.1=k))=vs.any fun kv=>decide (kv.1=k):=by
 unfold KV at r
 induction r with
 | nil=>rfl
 | cons h t ih=>rw [jL,jL,ih,h.1]
theorem KV.repl {kvs:List (κ×V)} {vs:List (κ×ag)} (r:KV kvs vs) (k:κ) {y:V} {u:ag} (ry:RelV y u) :
  KV (kvs.map fun kv=>if kv.1=k then (kv.1,y) else kv) (vs.map fun kv=>if kv.1=k then (kv.1,u) else kv):=by
 unfold KV at r |-
 induction r with
 | nil=>exact .nil
 | @cons p q ps qs h t ih =>
  rw [bY,bY];refine .cons ?_ ih;obtain ⟨h1,h2⟩:=h
  by_cases e:p.1=k
  ·rw [if_pos e,if_pos (h1.symm.trans e)]; exact ⟨h1,ry⟩
  ·rw [if_neg e,if_neg (fun z=>e (h1.trans z))]; exact ⟨h1,h2⟩
theorem KV.put {kvs:List (κ×V)} {vs:List (κ×ag)} (r:KV kvs vs) (k:κ) {y:V} {u:ag} (ry:RelV y u):KV (yC kvs k y) (stored vs k u):=by
 unfold yC stored;rw [r.any k]
 by_cases e:(vs.any fun kv=>decide (kv.1=k))=true
 ·rw [if_pos e,if_pos e]; exact r.repl k ry
 ·rw [if_neg e,if_neg e]; exact Paired.snoc r ⟨rfl,ry⟩
end
theorem CY {P:aQ} {w:bT} {k:Key} {u:ag} (r:RelV (kV k) u):(iE P w).is k u=true:=by
 cases k with
 | inl i=>obtain ⟨t,e⟩:=(show ∃ t,u=Value.int i t from r); subst e; exact yq P w i t
 | inr x=>obtain ⟨t,e⟩:=(show ∃ t,u=Value.str x t from r); subst e; exact yr P w x t
theorem wI {P:aQ} {w:bT}:∀ {ks:List Key} {us:List ag},dv (ks.map kV) us->ItemsAre (iE P w) ks us
 | [],_,r=>by rw [zw] at r; cases r; exact .nil
 | k :: ks,_,r=>by
  rw [bY] at r
  cases r with
  | cons h t=>exact .cons (CY h) (wI t)
abbrev KT (H:Hp):List (List Key×V)->List (List Key×ak×ag)->Prop:=cL fun p q=>p.1=q.1/\H q.2.1=some (.tup (p.1.map kV))/\RelV p.2 q.2.2
theorem KT.val {H:Hp} {kvs:List (List Key×V)} {xs:List (List Key×ak×ag)} (r:KT H kvs xs) (k:List Key):rY (vV kvs k) ((E4 xs k).map (·.2)):=by
 induction r with
 | nil=>exact True.intro
 | @cons p q ps qs h t ih =>
  obtain ⟨h1,_,h2⟩:=h
  by_cases e:p.1=k
  ·have e':q.1=k:=h1.symm.trans e;have b:E4 (q :: qs) k=some q.2:=by simp [E4,jV,e']
   rw [yD e,b]; exact h2
  ·have e':¬ q.1=k:=fun z=>e (h1.trans z);have b:E4 (q :: qs) k=E4 qs k:=by simp [E4,jV,e']
   rw [yE e,b]; exact ih
section
variable {P:aQ} {w:bT} {H:Hp} {h:cP} {a:ak}
theorem Gn {u:HO} (ok:HOk P w H h) (e:Rd H a u):gB P w H h a u:=e.ok ok
theorem CZ {kvs:List (Key×V)} (ok:HOk P w H h) (e:Rd H a (.dK kvs)):kvs.length<=aw/\(a == gk)=false/\∃ vs,KV kvs vs/\h.DictOf (iE P w) a vs:=
 show gB P w H h a (.dK kvs) from Gn ok e
theorem dk_of {kvs:List (Key×V)} (ok:HOk P w H h) (e:H a=some (.dK kvs)):kvs.length<=aw/\(a == gk)=false/\∃ vs,KV kvs vs/\h.DictOf (iE P w) a vs:=CZ ok (.inl e)
theorem C0 {ks:List Key} (ok:HOk P w H h) (e:H a=some (.tup (ks.map kV))):(B9 (iE P w)).is h ks a:=by
 obtain ⟨_,its,r,o,h1,h2,n,h3⟩:=(show gB P w H h a (.tup (ks.map kV)) from ok a _ e);exact ⟨o,its.toArray,n,h1,h2,h3,by simpa using wI r⟩
theorem Gp {kvs:List (List Key×V)} (ok:HOk P w H h) (e:Rd H a (.dT kvs)):kvs.length<=aw/\(a == gk)=false /\
  ∃ xs,KT H kvs xs/\h.DictOfH (B9 (iE P w)) a xs:=by
 obtain ⟨z,y,xs,r,o,es,ep,h1,h2,h3,h4,h5⟩:=(show gB P w H h a (.dT kvs) from Gn ok e);refine ⟨z,y,xs,r,o,es,ep,h1,h2,h3,h4,fun x hx=>?_,h5⟩;have all:∀ {l:List (List Key×V)} {m:List (List Key×ak×ag)},KT H l m->∀ x∈m,(B9 (iE P w)).is h x.1 x.2.1:=by
  intro l m q
  induction q with
  | nil=>intro x hx; exact nomatch hx
  | @cons p q ps qs hq t ih =>
   intro x hx
   rcases ar.mp hx with e | hx
   ·subst e;exact C0 ok (by rw [<- hq.1]; exact hq.2.1)
   ·exact ih x hx
 exact all r x hx
end
def Ij (H:Hp) (a:ak) (y:V) (r:Option V):Prop:=
 (∃ kvs k,Rd H a (.dK kvs)/\y=kV k/\r=vV kvs k)\/∃ kvs k b,Rd H a (.dT kvs)/\y=.ref b/\H b=some (.tup (k.map kV))/\r=vV kvs k
section
variable {X:Cx} {pins:List (ak×Obj)} {σ:St} {H:Hp} {s:ah} {a:ak} {y v:V} {u r:ag} {o:Option V} {A:bQ} {E:ag->ah->Prop}
theorem Inv.big (I:Inv X pins σ H s):gk < s.heap.objs.size:=by
 have h:bS < s.heap.objs.size:=(I.mod.glob.keeps I.bk).lt;exact t7 (by decide) h
theorem Br {Q:ag->ah->Prop} (hu:A.units + 1 < ic) (I:Inv X pins σ H s) (g:Ij H a y (some v)) (ry:RelV y u) (h:∀ w' s',Inv X pins σ H s'->RelV v w'->Q w' s') :
  aY (aM X.prog X.w) A (rH (.ref a) u) Q E s:=by
 rcases g with ⟨kvs,k,e,ey,l⟩ | ⟨kvs,k,b,e,ey,eb,l⟩
 ·subst ey;obtain ⟨z,hd,vs,rel,dd⟩:=CZ I.hok e;obtain ⟨w',hw,rw'⟩:=rY.some_of (v:=v) (o:=qh vs k) (by rw [l]; exact rel.val k);exact wpAny_getItem_of (CY ry) dd.mapOf hw (h w' _ (I.tok _) rw')
 ·subst ey
  cases (show u=Value.ref b from ry);obtain ⟨z,hd,xs,rel,dd⟩:=Gp I.hok e;obtain ⟨w',hw,rw'⟩:=rY.some_of (v:=v) (o:=(E4 xs k).map (·.2)) (by rw [l]; exact rel.val k);obtain ⟨p,hp,hp2⟩:=dy.mp hw;refine wpAny_getItem_heap (tupleKind_room_in1 hu) (C0 I.hok eb) dd hp ?_;rw [hp2];exact h w' _ (I.tok _) rw'
theorem E5 {h':cP} {t':Nat} {ob:HO} (I:Inv X pins σ H s) (mu:Mut (H a)) (hs:nC a s.heap h') (he:∃ q,h'.get? a=some q) (new:gB X.prog X.w (upd H a ob) h' a ob) :
  Inv X pins σ (upd H a ob) {s with heap:=h',toks:=t'}:=
 I.write (x:=a) (e:=a) mu (.inl rfl) (fun b q hb z=>(hs.2 b hb).trans z) he new
theorem Ik {P:aQ} {w:bT} {H':Hp} {h':cP} {kvs:List (Key×V)} {vs:List (Key×ag)} (z:kvs.length<=aw) (hd:(a == gk)=false) (rel:KV kvs vs) (dd:h'.DictOf (iE P w) a vs) :
  gB P w H' h' a (.dK kvs):=⟨z,hd,vs,rel,dd⟩
end
section
variable {X:Cx} {pins:List (ak×Obj)} {σ:St} {H:Hp} {s:ah} {a:ak} {kvs:List (Key×V)} {k:Key} {u:ag} {A:bQ} {E:ag->ah->Prop}
end
def NoSl (i:cI):Prop:=∀ ov iv,ym i false ov iv=Jc [ov,iv] (rH ov iv)
theorem E6 {prog:aQ} {w:bT} {A:bQ} {E:ag->ah->Prop} {s:ah} {env:Env} {value slice:cI} {pos:Pos} {T id:String} {Q:ag->ah->Prop}
  (hl:uN (.type T) "__getitem__"=pure (some (.builtin id))) (hs:NoSl slice)
  (h:aY (aM prog w) A (dE value env) (fun o s₁=>aY (aM prog w) A (dE slice env) (fun i s₂=>s₂.TypeIs o T/\aY (aM prog w) A (rH o i) Q E s₂) E s₁) E s) :
  aY (aM prog w) A (dE (.Subscript value slice pos) env) Q E s:=by
 refine Ia (cE h (fun o s₁ h₁=>cE h₁ (fun i s₂ h₂=>?_) fun _ _ x=>x) fun _ _ x=>x);obtain ⟨hT,h₂⟩:=h₂;unfold Bq;refine ae ?_;rw [getitemInPython_of_ne hT.not_modules];refine ae (rW hT hl ?_);have fin:aY (aM prog w) A (ym slice false o i) (fun r s₃=>aY (aM prog w) A (letTemporaryGo value o r >>= fun _=>pure r) Q E s₃) E s₂:=by
  rw [hs o i];exact wpAny_operating (cE h₂ (fun r s₃ h₃=>ae (wpAny_letTemporaryGo (av h₃))) fun _ _ x=>x)
 first
  | exact av (ae fin)
  | exact ae (av (ae fin))
  | exact ae fin
theorem yG {X:Cx} {pins:List (ak×Obj)} {σ:St} {H:Hp} {s:ah} {a:ak} {y:V} {o:Option V} (I:Inv X pins σ H s) (g:Ij H a y o):s.TypeIs (.ref a) "dict":=by
 rcases g with ⟨kvs,k,e,_,_⟩ | ⟨kvs,k,b,e,_,_,_⟩
 ·obtain ⟨_,_,vs,_,dd⟩:=CZ I.hok e;exact dd.typeIs
 ·obtain ⟨_,_,xs,_,dd⟩:=Gp I.hok e;exact dd.typeIs
inductive DGI (x y:V) (H:Hp) (Q:VK):Prop where
 | mk (a:ak) (v:V) (hx:x=.ref a) (d:Ij H a y (some v)) (q:Q v H):DGI x y H Q
def tDGet (td ty:TE):TE:=fun σ H Q=>td σ H fun x H1=>ty σ H1 fun y H2=>DGI x y H2 Q
section
variable {X:Cx} {o i e value:cI} {pos pos' tpos:Pos} {td ty tv:TE}
theorem E7 (hu:X.A.units + 1 < ic) (ho:PE X o td) (hi:PE X i ty) (hs:NoSl i):PE X (.Subscript o i pos) (tDGet td ty):=by
 intro pins s σ H Q I h;refine E6 PySem.F.slot_dict_getitem.lookup hs (thn (ho pins s σ H _ I h) fun u s1 ⟨x,H1,I1,rx,q1⟩=>thn (hi pins s1 σ H1 _ I1 q1) fun iv s2 ⟨y,H2,I2,ry,a,v,ex,g,q2⟩=>?_);subst ex;obtain rfl:u=Value.ref a:=rx;exact ⟨yG I2 g,Br hu I2 g ry fun w' s3 I3 rw'=>⟨v,H2,I3,rw',q2⟩⟩
end
theorem C1 {P:aQ} {w:bT} {H:Hp} (h:cP) (hb:gk < h.objs.size):gB P w H (h.push {cls:=.type "dict",data:=.dict #[]}) h.objs.size (.dK []):=
 ⟨aU _,beq_eq_false_iff_ne.mpr (eW (bz hb)),[],.nil,Heap.DictOf.new h⟩
section
variable {X:Cx} {pos:Pos}
end
def zX:List (TE×TE)->St->Hp->(List (V×V)->Hp->Prop)->Prop
 | [],_,H,Q=>Q [] H
 |(tk,tv) :: r,σ,H,Q=>tk σ H fun x H1=>tv σ H1 fun y H2=>zX r σ H2 fun ps H3=>Q ((x,y) :: ps) H3
abbrev VV:List (V×V)->List (ag×ag)->Prop:=cL fun p q=>RelV p.1 q.1/\RelV p.2 q.2
def PPs (X:Cx) (pos:Pos) (keys:List (Option cI)) (values:List cI) (trs:List (TE×TE)):Prop:=
 ∀ (pins:List (ak×Obj)) (s:ah) (σ:St) (H:Hp) (Q:List (V×V)->Hp->Prop),Inv X pins σ H s->zX trs σ H Q ->
  aY (aM X.prog X.w) X.A (evalPairs (pairTrees keys values X.env pos)) (fun vs s'=>∃ ps H',Inv X pins σ H' s'/\VV ps vs/\Q ps H') X.xe s
theorem E8 {X:Cx} {pos:Pos}:PPs X pos [] [] []:=fun pins s σ H Q I h=>pairTrees_nil_walk ⟨[],H,I,.nil,h⟩
theorem mS {X:Cx} {pos:Pos} {k v:cI} {ks:List (Option cI)} {vs:List cI} {tk tv:TE} {trs:List (TE×TE)} (hk:PE X k tk) (hv:PE X v tv) (hr:PPs X pos ks vs trs) :
  PPs X pos (some k :: ks) (v :: vs) ((tk,tv) :: trs):=fun pins s σ H Q I h =>
 pairTrees_cons_walk (thn (hk pins s σ H _ I h) fun u s1 ⟨x,H1,I1,rx,q1⟩=>thn (hv pins s1 σ H1 _ I1 q1) fun w2 s2 ⟨y,H2,I2,ry,q2⟩ =>
  thn (hr pins s2 σ H2 _ I2 q2) fun ws s3 ⟨ps,H3,I3,rel,q3⟩=>⟨(x,y) :: ps,H3,I3,.cons ⟨rx,ry⟩ rel,q3⟩)
def qA (kvs more:List (Key×V)):List (Key×V):=more.foldl (fun acc kv=>yC acc kv.1 kv.2) kvs
theorem KV.merge:∀ {more:List (Key×V)} {rs:List (Key×ag)} {kvs:List (Key×V)} {vs:List (Key×ag)},KV more rs->KV kvs vs->KV (qA kvs more) (merged vs rs):=by
 intro more rs kvs vs r;unfold KV at r
 induction r generalizing kvs vs with
 | nil=>intro q; exact q
 | @cons p q ps qs h t ih =>
  intro r0;have e:KV (yC kvs p.1 p.2) (stored vs q.1 q.2):=by
   have:=r0.put p.1 h.2;rw [<- h.1]; exact this
  exact ih e
theorem rp:∀ (more kvs:List (Key×V)),(qA kvs more).length<=kvs.length + more.length
 | [],kvs=>by show kvs.length<=kvs.length + 0; omega
 | p :: r,kvs=>by
  have h1:=rp r (yC kvs p.1 p.2);have h2:=yF kvs p.1 p.2;show (qA (yC kvs p.1 p.2) r).length<=_;rw [aG]; omega
theorem uP {P:aQ} {w:bT}:∀ {kvs:List (Key×V)} {ws:List (ag×ag)},VV (kvs.map fun kv=>(kV kv.1,kv.2)) ws->∃ rs,Carries (iE P w) ws rs/\KV kvs rs
 | [],_,r=>by rw [zw] at r; cases r; exact ⟨[],True.intro,.nil⟩
 | p :: kvs,_,r=>by
  rw [bY] at r
  cases r with
  | @cons a b as bs h t =>
   obtain ⟨rs,c,q⟩:=uP (P:=P) (w:=w) t;obtain ⟨b1,b2⟩:=b;exact ⟨(p.1,b2) :: rs,⟨CY h.1,rfl,c⟩,.cons ⟨rfl,h.2⟩ q⟩
def tDisp (trs:List (TE×TE)):TE:=fun σ H Q=>∀ p,H p=none->zX trs σ (upd H p (.dK [])) fun ps H2=>H2 p=some (.dK [])/\∃ kvs:List (Key×V),ps=kvs.map (fun kv=>(kV kv.1,kv.2))/\kvs.length<=15/\Q (.ref p) (upd H2 p (.dK (qA [] kvs)))
theorem E9 {X:Cx} {pos:Pos} {keys:List (Option cI)} {values:List cI} {trs:List (TE×TE)} (h:PPs X pos keys values trs) (hall:keys.all (·.isSome)=true) (hl:keys.length=values.length) (h0:keys≠[])
  (h15:keys.length<=15):PE X (.Dict keys values pos) (tDisp trs):=by
 intro pins s σ H Q I q;have hn:=I.hok.fresh (ay s.heap.objs.size);have I1:=I.laid (a:=s.heap.objs.size) (o:=.dK []) (h':=s.heap.push {cls:=.type "dict",data:=.dict #[]}) (t':=s.toks) (fun _ _ q=>aD _ q) (ay _) (C1 s.heap I.big);refine wpAny_Dict_walk (knd:=iE X.prog X.w) hall hl h0 h15 (thn (h pins _ σ _ _ I1 (q _ hn)) fun ws s2 ⟨ps,H2,I2,rel,e,kvs,ep,lk,q2⟩=>?_);subst ep;obtain ⟨rs,c,rk⟩:=uP (P:=X.prog) (w:=X.w) rel;obtain ⟨z,hd,vs0,r0,dd⟩:=dk_of I2.hok e
 cases r0;refine ⟨rs,c,dd,fun h' dd' hs=>⟨.ref s.heap.objs.size,_,?_,rfl,q2⟩⟩;have hz:(qA [] kvs).length<=aw:=by
  have h1:=rp kvs [];rw [jW] at h1;rw [qf]; omega
 have he:∃ q,h'.get? s.heap.objs.size=some q:=let ⟨q,_,_,hq,_⟩:=dd'; ⟨q,hq⟩;exact E5 I2 (by rw [e]; exact True.intro) hs he (Ik hz hd (rk.merge .nil) dd')
section
variable {X:Cx} {pins:List (ak×Obj)} {σ:St} {H:Hp} {s:ah} {a:ak} {y d:V} {u r:ag} {o:Option V} {A:bQ} {E:ag->ah->Prop}
end
section
variable {X:Cx} {o e f:cI} {apos cpos:Pos} {td ty tx:TE}
end
section
variable {X:Cx} {pins:List (ak×Obj)} {σ:St} {H:Hp} {s:ah} {a:ak} {kvs:List (Key×V)} {A:bQ} {E:ag->ah->Prop}
end
section
variable {X:Cx} {pins:List (ak×Obj)} {σ:St} {H:Hp} {s:ah} {a:ak} {y:V} {u:ag} {A:bQ} {E:ag->ah->Prop}
end
section
variable {X:Cx}
end
section
variable {κ:Type} [DecidableEq κ]
end
end L2
set_option maxHeartbeats 4000000
namespace L2
open PySem PySem.Spec PyProof.Rows
theorem gB.has {P:aQ} {w:bT} {H:Hp} {h:cP} {a:ak} {o:HO} (x:gB P w H h a o):∃ ob,h.get? a=some ob:=by
 cases o with
 | lst xs=>obtain ⟨_,_,_,_,e⟩:=x; exact ⟨_,e⟩
 | tup xs=>obtain ⟨_,_,_,ob,e,_⟩:=x; exact ⟨_,e⟩
 | dK kvs=>obtain ⟨_,_,_,_,o,_,_,e,_⟩:=x; exact ⟨_,e⟩
 | dT kvs=>obtain ⟨_,_,_,_,o,_,_,e,_⟩:=x; exact ⟨_,e⟩
 | set S n=>obtain ⟨o,_,_,_,e,_⟩:=x; exact ⟨_,e⟩
 | ins C dx fs=>obtain ⟨_,_,_,e,_⟩:=x; exact ⟨_,e⟩
 | own y=>exact x
 | xd fs=>obtain ⟨_,⟨_,_,_,e,_⟩,_⟩:=x; exact ⟨_,e⟩
 | rng lo hi=>obtain ⟨_,_,_,e⟩:=x; exact ⟨_,e⟩
 | frz ob u=>obtain ⟨e,_⟩:=x; exact ⟨_,e⟩
 | tbl ps=>exact ⟨_,(show h.get? a=some _ from x)⟩
 | met f y=>exact ⟨_,(show h.get? a=some _ from x)⟩
 | ext φ=>obtain ⟨_,e,_⟩:=x; exact e
theorem HOk.has {P:aQ} {w:bT} {H:Hp} {h:cP} (x:HOk P w H h) {b:ak} (n:H b≠none):∃ ob,h.get? b=some ob:=by
 cases z:H b with
 | none=>exact absurd z n
 | some u=>exact (x b u z).has
def FlD (B:cP) (l:List Env) (e:ak) (cls fl:ag) (h:cP):Prop:=
 B.StaysIn h/\B.get? e=none/\h.FunFrames B l/\∃ oe vs T oT ts,h.get? e=some oe/\oe.cls=cls/\oe.dict=none/\oe.data=.fields vs/\vs[1]?=some (.ref T)/\B.get? T=none/\T≠e/\h.get? T=some oT/\oT.data=.fields ts/\ts[3]?=some fl
theorem wJ (o:Obj) (f:Array ag->Array ag):(o.mapFields f).dict=o.dict:=by
 obtain ⟨c,d,dt,sl⟩:=o
 cases dt <;> rfl
section
variable {M:mB} {A:bQ} {E:ag->ah->Prop} {s:ah} {B:cP} {env:Env} {outer l:List Env} {L e:ak} {cls fl:ag} {Q:Unit->ah->Prop}
theorem C2 {oe:Obj} {vs:Array ag} {head:ag} {nx:Bool} (hfr:A.frames=some (env :: outer)) (hl:s.heap.FunFrames B (env :: outer)) (hf:env.frame=some L) (he:s.heap.get? e=some oe) (hB:B.StaysIn s.heap) (hn:B.get? e=none)
  (hd:oe.data=.fields vs) (hz:1 < vs.size) (hdc:oe.dict=none) (k:∀ h',FlD B (env :: outer) e oe.cls (mJ L) h'->s.heap.UpToSlots h'->Q () {s with heap:=h'}) :
  aY M A (do let a <- frameOf env; let pl <- entryPlaceOf L nx; let b <- k7 head a .none (mJ L) .none pl; setField (.ref e) 1 b) Q E s:=by
 have ef:e∉(env :: outer).filterMap (·.frame):=fun hm=>by
  obtain ⟨_,o,ho,q⟩:=hl.mem hm;rw [he] at ho
  cases ho;exact q vs hd
 refine ae (Jf hfr hl hf fun h1 g1=>ae (Il fun pl hpl=>?_));unfold k7 newFields;refine ae (gH ?_ (hpl.sizeOk5 _ _ _ _ _));have e1:h1.get? e=some oe:=(g1.2.1 e ef).trans he;have b1:B.StaysIn h1:=fun b o z=>(g1.2.1 b fun hm=>by rw [(hl.mem hm).1] at z; cases z).trans (hB b o z);have ne:h1.objs.size≠e:=nM (ba e1);generalize hob:({cls:=.type "traceback",dict:=none,data:=.fields ([head,.ref L,.none,mJ L,.none]++(if pl.isEmpty then aJ 6 Value.none else pl)).toArray}:Obj)=ob;have e2:(h1.push ob).get? e=some oe:=aD _ e1;have t2:(h1.push ob).get? h1.objs.size=some ob:=bV h1 (by rw [<- hob]; rfl);refine pK e2 hd hz (k _ ?_ ?_)
 ·have d3:=iU hd (·.setIfInBounds 1 (Value.ref h1.objs.size));have keep:∀ b o,b≠e->h1.get? b=some o->((h1.push ob).update e (lO (·.setIfInBounds 1 (Value.ref h1.objs.size)))).get? b=some o:=fun b o q z=>by
   rw [cZ _ _ (eW q)];exact aD _ z
  refine ⟨fun b o z=>keep b o (fun q=>by rw [q,hn] at z; cases z) (b1 b o z),hn,hl.of_keeps fun b o z q=>?_,_,_,h1.objs.size,ob,_,fz _ e2 (lu d3),EE _ _,(wJ _ _).trans hdc,d3,by simp [hz],b1.fresh,ne,?_,by rw [<- hob],?_⟩
  ·obtain ⟨sl,w⟩:=g1.2.2 b o z;exact ⟨_,keep b _ (fun y=>by rw [y,he] at z; cases z; exact q vs hd) w,rfl⟩
  ·rw [cZ _ _ (eW ne)];exact t2
  ·first | (simp; done) | (rcases hpl with rfl | ⟨_,_,_,_,_,_,_,rfl⟩ <;> simp)
 ·intro b o z q;obtain ⟨sl,w⟩:=g1.2.2 b o z;refine ⟨sl,?_⟩;rw [cZ _ _ (fun y=>by rw [<- y,he] at z; cases z; exact q vs hd)];exact aD _ w
theorem qP {T:ak} {oT:Obj} {ts:Array ag} {h:cP} (hT:h.get? T=some oT) (hdT:oT.data=.fields ts) {b:ak} {o:Obj} (hb:h.get? b=some o) (q:∀ vs,o.data≠.fields vs):b≠T:=fun y=>by
 rw [y,hT] at hb
 cases hb;exact q ts hdT
theorem yH (x:FlD B l e cls fl s.heap) (k:∀ h',FlD B l e cls .none h'->s.heap.UpToSlots h'->Q () {s with heap:=h'}):aY M A (xE (.ref e) none) Q E s:=by
 obtain ⟨hB,hn,hl,oe,vs,T,oT,ts,he,hc,hdc,hd,h1,nT,Te,hT,dT,h3⟩:=x;have z3:3 < ts.size:=(gP.mp h3).1;have ot:∀ b,b≠T->(s.heap.update T (lO (·.setIfInBounds 3 ((none:Option ak).elim Value.none fun f=>mJ f)))).get? b=s.heap.get? b:=fun b hb=>cZ _ _ (eW hb);unfold xE;refine ae (i5 he hd h1 ?_);rw [if_pos (show (Value.ref T != Value.none)=true from by simp)];refine pK hT dT z3 (k _ ⟨fun b o z=>(ot b fun y=>by rw [y,nT] at z; cases z).trans (hB b o z),hn,hl.of_keeps fun b o z q=>⟨o,(ot b (qP hT dT z q)).trans z,rfl⟩,oe,vs,T,_,_,(ot e (eW Te)).trans he,hc,hdc,hd,h1,nT,Te,fz _ hT (lu (iU dT _)),iU dT _,by simp [z3]⟩
  fun b o z q=>⟨o.slots,(ot b (qP hT dT z q)).trans z⟩)
theorem FlD.there {h:cP} (x:FlD B l e cls fl h):∃ ob,h.get? e=some ob/\ob.cls=cls:=by
 obtain ⟨_,_,_,oe,_,_,_,_,he,hc,_⟩:=x;exact ⟨oe,he,hc⟩
end
theorem Un.left {fs stk:List ak} {H₀ H:Hp} {h₀ h h' B:cP} (u:Un fs [] H₀ H h₀ h) (hB:B.StaysIn h') (cov:∀ b o,(H b≠none\/∃ o',h₀.get? b=some o')->b∉stk->h.get? b=some o->B.get? b=some o)
  (hst:∀ b o,h₀.get? b=some o->b∈stk->b∈fs) (sl:∀ b∈fs,∀ o,h.get? b=some o->∃ sl,h'.get? b=some {o with slots:=sl}):Un fs [] H₀ H h₀ h' where
 keep:=fun b o e n hb hx=>hB b o (cov b o (.inr ⟨o,e⟩) (fun z=>hb (hst b o e z)) (u.keep b o e n hb hx))
 slot:=fun b o e n hb hx=>by
  obtain ⟨s1,e1⟩:=u.slot b o e n hb hx;obtain ⟨s2,e2⟩:=sl b hb _ e1;exact ⟨s2,e2⟩
 free:=u.free
 there:=fun b o e hx=>by
  obtain ⟨o',e'⟩:=u.there b o e hx
  by_cases hb:b∈stk
  ·obtain ⟨s2,e2⟩:=sl b (hst b o e hb) _ e';exact ⟨_,e2⟩
  ·exact ⟨o',hB b o' (cov b o' (.inr ⟨o,e⟩) hb e')⟩
 tups:=u.tups
 frzs:=u.frzs
 tbls:=u.tbls
theorem HOk.left {P:aQ} {w:bT} {H:Hp} {h h' B:cP} (ok:HOk P w H h) (hB:B.StaysIn h') (cov:∀ b o,H b≠none->h.get? b=some o->B.get? b=some o):HOk P w H h':=fun a o e =>
 (ok a o e).stay (fun b u hb q=>hB b u (cov b u (by
  rcases hb with z | z
  ·rw [z,e]; simp
  ·rw [z]; simp) q)) (fun _ q=>q) (fun _ _ q=>q)
section
variable {X:Cx} {pins:List (ak×Obj)} {σ:St} {H:Hp} {s:ah} {E E':XK}
theorem Inv.oldfs (I:Inv X pins σ H s):∀ b o,X.s₀.heap.get? b=some o->b∈frs X.stack->b∈X.fs:=fun b o e hb=>by
 rcases ar.mp (I.stkSub b hb) with z | z
 ·exact absurd (bc (ba e) I.ok.above) (by rw [z]; exact d8 _)
 ·exact z
theorem Inv.ntr (I:Inv X pins σ H s):∀ b,H b≠none->b∉frs X.stack:=fun b hn z=>hn (I.stkFree b z)
theorem Inv.slotsOf (I:Inv X pins σ H s) {h':cP} (sm:s.heap.UpToSlots h'):∀ b∈X.fs,∀ o,s.heap.get? b=some o->∃ sl,h'.get? b=some {o with slots:=sl}:=fun b hb o e=>by
 obtain ⟨_,o',ho',hd⟩:=I.funs.mem hb;rw [e] at ho'
 cases ho';exact sm b o e hd
end
section
variable {X:Cx} {E:XK} {x:Str} {C:ak} {np cpos pos:Pos} {e₀:cI} {rest:List cI} {ta:TA} {K:ai} {h:cP}
theorem Fb {bmB:List ag} {newId:String} (X:K.In h) (q:rq K C bmB newId=true) :
  ∃ bm N nm q bs hdct sn sub ab col dd k0 k1 k2 k3 k5 mN,h.get? C=some (excClassObj nm q C N bs bm hdct sn sub ab col dd k0 k1 k2 k3 k5 newId)/\h.Ns N mN/\mN "__init__"=none/\OwnTail h bmB bm:=by
 unfold rq at q
 split at q
 ·rename_i dd cd sl ho
  split at q
  ·rename_i C' bm k0 k1 k2 k3 n k5 hm hs
   simp only [cY,beq_iff_eq,je] at q;obtain ⟨⟨⟨⟨⟨rfl,rfl⟩,hdel⟩,ht⟩,hok⟩,hni⟩:=q;obtain ⟨nm,bs,mro,ns,qn,hd,sn,sub,ab,col,del⟩:=cd;dsimp only at hm hdel hok hni;subst hm hdel;have e:sl=#[k0,k1,k2,k3,some (.builtin n),k5]:=by
    obtain ⟨l⟩:=sl;have hs':l=[k0,k1,k2,k3,some (.builtin n),k5]:=hs;rw [hs']
   subst e;exact ⟨bm,ns,nm,qn,bs,hd,sn,sub,ab,col,dd,k0,k1,k2,k3,k5,_,X _ _ ho,.of_isNs (PySem.W.isNs_of_in X hok),PySem.W.nsMap_none_of_in X hok hni,PySem.W.tail_of_in X ht⟩
  ·cases q
 ·cases q
def Im:List ag:=[.type "ValueError",.type "Exception",.type "BaseException",.type "object"]
end
section
variable {X:Cx} {pins:List (ak×Obj)} {σ:St} {H:Hp} {s:ah} {T:ak->St->Hp->Prop}
def vW (X:Cx) (pins:List (ak×Obj)) (H:Hp) (B h:cP):Prop:=
 ∀ b o,(H b≠none\/(b∉X.ex/\∃ o',X.s₀.heap.get? b=some o')\/∃ p∈X.pn++pins,p.1=b)->b∉frs X.stack->h.get? b=some o->B.get? b=some o
theorem AM {h h':cP} {c:ak} {v:Option ag} (x:h.IsCell c v) (sm:h.UpToSlots h'):h'.IsCell c v:=by
 obtain ⟨o,ho,hd⟩:=x;obtain ⟨sl,e⟩:=sm c o ho (fun vs q=>by rw [hd] at q; cases q);exact ⟨_,e,hd⟩
theorem Inv.landed {B h':cP} (I:Inv X pins σ H s) (hB:B.StaysIn h') (cov:vW X pins H B s.heap) (sm:s.heap.UpToSlots h'):Inv X pins σ H {s with heap:=h'}:=by
 refine ⟨I.ok,I.os,I.bare,⟨fun b o e n hb hx=>?_,fun b o e n hb hx=>?_,I.base.free,fun b o e hx=>?_,I.base.tups,I.base.frzs,I.base.tbls⟩,?_,fun x c e=>?_,I.free,I.freeC,fun p hp=>?_,I.hok.left hB (fun b o n e=>cov b o (.inl n) (I.ntr b n) e),I.len⟩
 ·exact hB b o (cov b o (.inr (.inl ⟨hx,o,e⟩)) (fun z=>hb (I.oldfs b o e z)) (I.base.keep b o e n hb hx))
 ·obtain ⟨s1,e1⟩:=I.base.slot b o e n hb hx;obtain ⟨s2,e2⟩:=I.slotsOf sm b hb _ e1;exact ⟨s2,e2⟩
 ·obtain ⟨o',e'⟩:=I.base.there b o e hx
  by_cases hb:b∈frs X.stack
  ·obtain ⟨s2,e2⟩:=I.slotsOf sm b (I.oldfs b o e hb) _ e';exact ⟨_,e2⟩
  ·exact ⟨o',hB b o' (cov b o' (.inr (.inl ⟨hx,o,e⟩)) hb e')⟩
 ·obtain ⟨m,hn,hl⟩:=I.loc;refine ⟨m,sm.ns hn,fun i x v e1 e2 e3=>?_⟩;obtain ⟨u,r,l⟩:=hl i x v e1 e2 e3;refine ⟨u,r,?_⟩
  rcases l with l | ⟨k,c,e,l⟩
  ·exact .inl l
  ·exact .inr ⟨k,c,e,AM l sm⟩
 ·obtain ⟨v,q⟩:=I.cell x c e;exact ⟨v,AM q sm⟩
 ·obtain ⟨e,n,l,f,d⟩:=I.pin p hp;exact ⟨hB _ _ (cov p.1 p.2 (.inr (.inr ⟨p,hp,rfl⟩)) (fun z=>(ar.mp (I.stkSub _ z)).elim l f) e),n,l,f,d⟩
theorem vW.land {B h':cP} (I:Inv X pins σ H s) (hB:B.StaysIn h') (cov:vW X pins H B s.heap):vW X pins H B h':=fun b o c n e=>by
 obtain ⟨o1,e1⟩:∃ o1,s.heap.get? b=some o1:=by
  rcases c with c | ⟨hx,o',c⟩ | ⟨p,hp,rfl⟩
  ·exact I.hok.has c
  ·exact I.base.there b o' c hx
  ·exact ⟨_,(I.pin p hp).1⟩
 have e2:=hB b o1 (cov b o1 c n e1);rw [e] at e2
 cases e2;exact cov b _ c n e1
abbrev Cx.hdl (X:Cx) (ea:ak):Cx:={X with A:=X.A.mark (some (.ref ea)),calm:=false,xe:=fun _ _=>False}
theorem Inv.hdl (I:Inv X pins σ H s) (ea:ak):Inv (X.hdl ea) pins σ H s:=
 ⟨⟨I.ok.mod,I.ok.kind,I.ok.glob,I.ok.blt,I.ok.above,I.ok.inj,I.ok.has,I.ok.cab,fun z=>um z,I.ok.frames,I.ok.stk,I.ok.exf,I.ok.bs,I.ok.bsz,I.ok.noex,I.ok.exfs,I.ok.funs,I.ok.frf⟩,I.os,I.bare,I.base,I.loc,I.cell,I.free,I.freeC,
  I.pin,I.hok,I.len⟩
theorem Inv.unhdl {ea:ak} (ok:X.Ok) (I:Inv (X.hdl ea) pins σ H s):Inv X pins σ H s:=⟨ok,I.os,I.bare,I.base,I.loc,I.cell,I.free,I.freeC,I.pin,I.hok,I.len⟩
theorem SP.unhdl {ea:ak} {D:Ends} {f:Flow} {s':ah} (ok:X.Ok) (h:SP (X.hdl ea) pins D f s'):SP X pins D f s':=by
 cases f with
 | next=>obtain ⟨σ',H',I,q⟩:=h; exact ⟨σ',H',I.unhdl ok,q⟩
 | brk=>obtain ⟨σ',H',I,q⟩:=h; exact ⟨σ',H',I.unhdl ok,q⟩
 | cont=>obtain ⟨σ',H',I,q⟩:=h; exact ⟨σ',H',I.unhdl ok,q⟩
 | ret u=>obtain ⟨v,σ',H',I,r,q⟩:=h; exact ⟨v,σ',H',I.unhdl ok,r,q⟩
def AN (CX:CXT) (X:Cx) (E:St->XK):Prop:=∀ (pins:List (ak×Obj)) (σ:St) (H:Hp) (s:ah) (e:ag) (s':ah),Inv X pins σ H s->CX X.stack H s (E σ) e s'->X.xe e s'
def Io (sp:Sp) (E:St->XK) (t:TA):TE:=fun σ H Q=>t σ H fun vs H1=>sp vs H1 Q (E σ)
variable {CX:CXT} {k:Nat} {f:ak} {fd:cF} {ps:List Str} {sp:Sp} {E:St->XK} {x:Str} {p pos:Pos} {e:cI} {es:List cI} {t:TA}
end
theorem xF {prog:aQ} {w:bT} {A:bQ} {R:mO->ah->Prop} {s:ah} {elt target iter:cI} {ifs:List cI} {scope:kO} {pos:Pos} {it acc:ag} {env:Env} (J:Nat->ah->Prop)
  (turn:∀ n s,J n s->aY (aM prog w) A (Ct it) (fun r s1=>match r with
   | none=>R (.ok .next) s1
   | some v=>aY (aM prog w) A (jm target it v) (fun _ s2=>aY (aM prog w) A (pF target env v) (fun _ s3 =>
     aY (aM prog w) A (forIn ifs true fun c r=>if r=true then do let ok <- oE c env (dE c env); pure (ForInStep.yield ok) else pure (ForInStep.yield r)) (fun ok s4 =>
      if ok=true then aY (aM prog w) A (dE elt env) (fun x s5=>aY (aM prog w) A (sX (.builtin "list.append") [acc,x]) (fun _ s6=>∃ m,m < n/\J m s6) (fun _ _=>False) s5) (fun _ _=>False) s4
      else ∃ m,m < n/\J m s4) (fun _ _=>False) s3) (fun _ _=>False) s2) (fun _ _=>False) s1) (fun _ _=>False) s)
  (n:Nat) (h:J n s):qg (aM prog w) A (.compLoop (.ListComp elt [⟨target,iter,ifs,0⟩] scope pos) 0 it acc env) R s:=by
 refine codeAny_loop rfl J (fun n s hI=>?_) n h;show aY _ A ((compTurn (.ListComp elt [⟨target,iter,ifs,0⟩] scope pos) 0 it acc env).onRaise
  (fun x=>do jw x env; oK x)) _ _ s
 refine wpAny_noted ?_;rw [compTurn_list];refine ae (bU (ae (cE (turn n s hI) (fun r s1 h1=>?_) fun _ _ z=>z.elim)))
 cases r with
 | none=>exact av h1
 | some v =>
  refine ae (cE h1 (fun _ s2 h2=>?_) fun _ _ z=>z.elim);refine ae (cE h2 (fun _ s3 h3=>?_) fun _ _ z=>z.elim);refine ae (cE h3 (fun ok s4 h4=>?_) fun _ _ z=>z.elim)
  cases ok with
  | false=>exact av ⟨rfl,h4⟩
  | true =>
   refine ae (ae (cE h4 (fun x s5 h5=>?_) fun _ _ z=>z.elim));exact ae (cE h5 (fun _ s6 h6=>av (av ⟨rfl,h6⟩)) fun _ _ z=>z.elim)
theorem uQ {env:Env}:∀ {names:List (Str×lF)} {x:Str},
  (names.map fun (n,k)=>if (k == NameKind.free && env.scope.kind == .function && env.kindOf n == some .cell) then (n,NameKind.cell) else (n,k)).lookup x=some .local->names.lookup x=some .local
 | [],_,h=>by simp at h
 |(n,k) :: r,x,h=>by
  have ih:=@uQ env r x;rw [bY] at h;dsimp only at h
  by_cases hc:(k == NameKind.free && env.scope.kind == .function && env.kindOf n == some .cell)=true
  ·rw [if_pos hc] at h
   cases hx:x == n with
   | true=>simp [eg,hx] at h
   | false =>
    simp only [eg,hx] at h |-;exact ih h
  ·rw [if_neg hc] at h
   cases hx:x == n with
   | true =>
    simp only [eg,hx] at h |-;exact h
   | false =>
    simp only [eg,hx] at h |-;exact ih h
theorem rK {env:Env}:∀ {names:List (Str×lF)} {x:Str},
  ((names.map fun (n,k)=>if (k == NameKind.free && env.scope.kind == .function && env.kindOf n == some .cell) then (n,NameKind.cell) else (n,k)).lookup x=some .cell \/
   (names.map fun (n,k)=>if (k == NameKind.free && env.scope.kind == .function && env.kindOf n == some .cell) then (n,NameKind.cell) else (n,k)).lookup x=some .free)->names.lookup x=some .cell\/names.lookup x=some .free
 | [],_,h=>by simp at h
 |(n,k) :: r,x,h=>by
  have ih:=@rK env r x;rw [bY] at h;dsimp only at h
  by_cases hc:(k == NameKind.free && env.scope.kind == .function && env.kindOf n == some .cell)=true
  ·rw [if_pos hc] at h;have hk:k=.free:=by
    have z:=(gb.mp (gb.mp hc).1).1;exact eq_of_beq z
   cases hx:x == n with
   | true =>
    simp only [eg,hx];rw [hk];exact .inr rfl
   | false =>
    simp only [eg,hx] at h |-;exact ih h
  ·rw [if_neg hc] at h
   cases hx:x == n with
   | true =>
    simp only [eg,hx] at h |-;exact h
   | false =>
    simp only [eg,hx] at h |-;exact ih h
def nU (env:Env):List (Str×lF)->List (Str×ak)->List (Str×ak)
 | [],cs=>cs
 |(n,k) :: r,cs=>nU env r (if k=.free then (match env.cells.lookup n with | some c=>(n,c) :: cs | none=>cs) else cs)
theorem uR {env:Env}:∀ (names:List (Str×lF)) (cs:List (Str×ak)),(∀ y∈names,y.2=.free->∃ c,env.cells.lookup y.1=some c) ->
  (forIn names cs fun x r=>(do
   if (x.2 == NameKind.free)=true then do
    let c <- cellOf env x.1
    pure (ForInStep.yield ((x.1,c) :: r))
   else pure (ForInStep.yield r):Sem (ForInStep (List (Str×ak)))))=(pure (nU env names cs):Sem (List (Str×ak)))
 | [],cs,_=>rfl
 |(n,k) :: r,cs,h=>by
  have ih:=fun cs'=>uR r cs' (fun y hy=>h y (az _ hy));rw [List.forIn_cons]
  by_cases hk:k=.free
  ·subst hk;obtain ⟨c,hc⟩:=h _ aA rfl;have e1:cellOf env n=pure c:=by
    unfold cellOf;rw [show env.cells.lookup n=some c from hc]
   have e2:nU env ((n,.free) :: r) cs=nU env r ((n,c) :: cs):=by
    show nU env r (if NameKind.free=.free then (match env.cells.lookup n with | some c=>(n,c) :: cs | none=>cs) else cs)=_;rw [if_pos rfl,show env.cells.lookup n=some c from hc]
   rw [e2,<- ih];simp [e1]
  ·have e2:nU env ((n,k) :: r) cs=nU env r cs:=by
    show nU env r (if k=.free then _ else cs)=_;rw [if_neg hk]
   rw [e2,<- ih];have e3:(k == NameKind.free)=false:=by
    cases k <;> first | rfl | exact absurd rfl hk
   simp [e3]
theorem uS {env:Env}:∀ {names:List (Str×lF)} {cs:List (Str×ak)} {n:Str} {c:ak},(∀ n c,cs.lookup n=some c->env.cells.lookup n=some c)->(nU env names cs).lookup n=some c->env.cells.lookup n=some c
 | [],_,_,_,h,e=>h _ _ e
 |(m,k) :: r,cs,n,c,h,e=>by
  refine uS (names:=r) (fun n' c' e'=>?_) e
  by_cases hk:k=.free
  ·rw [if_pos hk] at e'
   cases hm:env.cells.lookup m with
   | none =>
    rw [hm] at e';exact h _ _ e'
   | some d =>
    rw [hm] at e';dsimp only at e';rw [eg] at e'
    split at e'
    ·rename_i z
     rw [eq_of_beq z,hm];exact e'
    ·exact h _ _ e'
  ·rw [if_neg hk] at e';exact h _ _ e'
theorem wK {env:Env}:∀ (names:List (Str×lF)) (cs:List (Str×ak)) (n:Str),(∃ c,cs.lookup n=some c)->∃ c,(nU env names cs).lookup n=some c
 | [],_,_,h=>h
 |(m,k) :: r,cs,n,h=>by
  refine wK r _ n ?_
  by_cases hk:k=.free
  ·rw [if_pos hk]
   cases hm:env.cells.lookup m with
   | none=>exact h
   | some d =>
    dsimp only;rw [eg]
    split
    ·exact ⟨_,rfl⟩
    ·exact h
  ·rw [if_neg hk];exact h
theorem uT {env:Env}:∀ {names:List (Str×lF)} {cs:List (Str×ak)} {n:Str},(n,NameKind.free)∈names->(∃ c,env.cells.lookup n=some c)->∃ c,(nU env names cs).lookup n=some c
 | [],_,_,h,_=>by cases h
 |(m,k) :: r,cs,n,h,hc=>by
  rcases ar.mp h with e | e
  ·obtain ⟨e1,e2⟩:=Prod.mk.inj e;subst e1 e2;obtain ⟨c,hc⟩:=hc;refine wK r _ n ⟨c,?_⟩;rw [if_pos rfl,hc];dsimp only;rw [eg,beq_self_eq_true]
  ·exact uT (names:=r) e hc
structure hW (X:Cx) (scope:kO) (NN:List Str):Prop where
 nocell:∀ y∈scope.names,y.2≠.cell
 kind:scope.kind=.function
 names:∀ y∈scope.names,y.2=.local->scope.names.lookup y.1=some .local
 far:∀ y∈scope.names,y.2=.free->X.env.kindOf y.1=some .cell\/X.env.kindOf y.1=some .free
 len:NN.length=X.N.length
 apart:∀ (i:Nat) (n:Str),NN[i]?=some n->scope.names.lookup n≠some .local/\(X.N[i]?=some n\/scope.names.lookup n=none)
theorem hW.open {X:Cx} {scope:kO} {NN N:List Str} {sc:kO} (hN:X.N=N) (hsc:X.env.scope=sc) (hc:∀ y∈scope.names,y.2≠.cell) (hk:scope.kind=.function) (hn:∀ y∈scope.names,y.2=.local->scope.names.lookup y.1=some .local)
  (hf:∀ y∈scope.names,y.2=.free->sc.names.lookup y.1=some .cell) (hl:NN.length=N.length) (ha:∀ p∈NN.zip N,scope.names.lookup p.1≠some .local/\(p.2=p.1\/scope.names.lookup p.1=none)):hW X scope NN where
 nocell:=hc
 kind:=hk
 names:=hn
 far:=fun y hy e=>.inl (by have z:=hf y hy e; rw [<- hsc] at z; exact z)
 len:=by rw [hN]; exact hl
 apart:=fun i n e=>by
  have lt:i < N.length:=by rw [<- hl]; exact (bg.mp e).1
  have e2:N[i]?=some N[i]:=aL lt;have z:=ha (n,N[i]) (bw (i:=i) (by rw [List.getElem?_zip_eq_some]; exact ⟨e,e2⟩));refine ⟨z.1,?_⟩
  rcases z.2 with z | z
  ·left
   rw [hN,e2];exact congrArg some z
  ·exact .inr z
abbrev cxC (X:Cx) (scope:kO) (NL:List Str) (fp:List ak) (s₂:ah) (H₂:Hp) (C:ak):Cx:=
 {X with N:=NL,s₀:=s₂,H₀:=H₂,env:=compEnvC scope (nU X.env scope.names []) C X.env,outer:=X.stack,ex:=fp,fn:=fun _=>false,pn:=[],xe:=fun _ _=>False}
def PTs (X:Cx) (ifs:List cI) (t:TT):Prop:=
 ∀ (pins:List (ak×Obj)) (s:ah) (σ:St) (H:Hp) (Q:Bool->Hp->Prop),Inv X pins σ H s->t σ H Q ->
  aY (aM X.prog X.w) X.A (forIn ifs true fun c r=>if r=true then do let ok <- oE c X.env (dE c X.env); pure (ForInStep.yield ok) else pure (ForInStep.yield r)) (TP X pins σ Q) X.xe s
def t8:TT:=fun _ H Q=>Q true H
theorem jr {X:Cx}:PTs X [] t8:=fun pins s σ H Q I h=>wpAny_tests_nil ⟨H,I,h⟩
theorem Fc {X:Cx} {c:cI} {t:TT} (h:PT X c t):PTs X [c] t:=fun pins s σ H Q I q=>wpAny_tests_one (h pins s σ H Q I q)
def pZ (n:Nat) (wi:TI) (g:TG) (tc:TT) (te:TE):TE:=fun σ H Q=>wi σ H fun J H1=>∃ W:Nat->Nat->List V->Hp->Prop,(∃ m,W 0 m [] H1)/\∀ i m ys H,W i m ys H->ys.length < aw /\
 ((J.stop i H/\∀ p,H p=none->Q (.ref p) (upd H p (.lst ys))) \/
  (J.go i H/\∃ N:List V->Hp->Prop,(∀ ys' H',N ys' H'->∃ m',m' < m/\W (i + 1) m' ys' H')/\∀ x H',J.yld i H x H'->g x (aJ n none++σ) H' fun σ2 H2=>σ2.drop n=σ/\tc σ2 H2 fun b H3 =>
   if b=true then te σ2 H3 fun y H4=>N (ys++[y]) H4 else N ys H3))
section
variable {X:Cx}
theorem sr {σ σ2:St} {n:Nat} (h:σ2.drop n=σ) (i:Nat) (v:V) (e:(aJ n none++σ)[i]?=some (some v)):σ2[i]?=some (some v):=by
 by_cases hi:i < n
 ·rw [dw (by simpa using hi),gq,if_pos hi] at e
  cases e
 ·rw [cG (by simpa using hi),cU] at e;rw [<- h,oq] at e;rw [show n + (i - n)=i by omega] at e;exact e
theorem yI {elt target iter:cI} {ifs:List cI} {scope:kO} {NN:List Str} {pos pos':Pos} {wi:TI} {g:TG} {tc:TT} {te:TE} {use:Option (ag->Sem Unit)} {Qv:ag->ah->Prop} (own:List Str) (ok:hW X scope NN) (hc:X.calm=true) (hi:PI X target iter wi)
  (hg:∀ fp s₂ H₂ C,PG (cxC X scope (own++NN) fp s₂ H₂ C) target g) (ht:∀ fp s₂ H₂ C,PTs (cxC X scope (own++NN) fp s₂ H₂ C) ifs tc) (he:∀ fp s₂ H₂ C,PE (cxC X scope (own++NN) fp s₂ H₂ C) elt te)
  (hs:∀ x,gG iter X.env x=pure x) {pins:List (ak×Obj)} {s:ah} {σ:St} {H:Hp} {Q:VK} (I:Inv X pins σ H s) (h:pZ own.length wi g tc te σ H Q)
  (hfin:∀ (s4:ah) (C D:ak) (H':Hp) (m:Str->Option ag),s4.heap.Ns C m->Inv X pins σ H' s4->H' C=none->C≠X.env.locals->X.s₀.heap.objs.size<=C->(∀ x c,X.env.cells.lookup x=some c->c≠C)->(∀ p∈X.pn++pins,p.1≠C)->Q (.ref D) H' ->
   zY (aM X.prog X.w) X.A X.xe use Qv (.ref D) C (.ok .next) s4) :
  aY (aM X.prog X.w) X.A (nI (.ListComp elt [⟨target,iter,ifs,0⟩] scope pos) scope X.env pos' (Jg []) false (dE iter X.env) use) Qv X.xe s:=by
 have hfr:∀ y∈scope.names,y.2=.free->∃ c,X.env.cells.lookup y.1=some c:=fun y hy e=>I.ok.has _ (ok.far y hy e);have okclos:uU scope X.env=pure (nU X.env scope.names []):=by
  unfold uU;rw [<- uR scope.names [] hfr];simp
 have oksub:∀ n c,(nU X.env scope.names []).lookup n=some c->X.env.cells.lookup n=some c:=fun n c e=>uS (fun n c e=>by simp at e) e;have okfar:∀ n,(scope.names.lookup n=some .cell\/scope.names.lookup n=some .free)->(∃ c,(nU X.env scope.names []).lookup n=some c)/\(X.env.kindOf n=some .cell\/X.env.kindOf n=some .free):=fun n e=>by
  rcases e with e | e
  ·exact absurd rfl (ok.nocell _ (eB e))
  ·have m:=eB e;exact ⟨uT m (hfr _ m rfl),ok.far _ m rfl⟩
 refine wpAny_comprehension_free (use:=use) rfl hs okclos ok.kind ok.names (thn (hi pins s σ H _ I h) fun xv s1 h1=>thn h1 fun itv s2 h2=>?_);obtain ⟨it,fp,tn,J,H2,e,I2,T,st2,f2,W,⟨m0,w0⟩,turn⟩:=h2;subst e;have fpLt:∀ b∈fp,b < s2.heap.objs.size:=fun b hb=>by
  obtain ⟨o,e,_⟩:=T.obj _ _ st2 b hb;exact ba e
 refine gH (Fd ok.nocell (by intro y hy; simp at hy) (fun h1 hns hsb=>?_) ok.kind);dsimp only at hns hsb |-;generalize hP:s2.heap.push {cls:=.type "list",dict:=none,data:=.seq ([]:List ag).toArray}=P at hns hsb |-;have hC:P.objs.size=s2.heap.objs.size + 1:=by rw [<- hP,kC]
 have hDC:s2.heap.objs.size≠P.objs.size:=by rw [hC]; exact bz (lE _)
 have leC:s2.heap.objs.size<=P.objs.size:=by rw [hC]; exact ib _
 have old:∀ b o,s2.heap.get? b=some o->h1.get? b=some o:=fun b o e =>
  hsb.extBut b o (by rw [hC]; exact bz (t9 (ba e))) (aD _ (hP ▸ aD _ e))
 have accAt:h1.get? s2.heap.objs.size=some {cls:=.type "list",data:=.seq ([]:List ag).toArray 0}:=hsb.extBut _ _ hDC (aD _ (hP ▸ bV _ rfl))
 have okC:(cxC X scope (own++NN) fp s2 H2 P.objs.size).Ok:=by
  refine ⟨I.ok.mod,ok.kind,I.ok.glob,I.ok.blt,by show s2.heap.objs.size<=P.objs.size; omega,fun y z c a b=>I.ok.inj y z c (oksub _ _ a) (oksub _ _ b),fun y hy=>(okfar y (rK hy)).1,fun y c z _=>um z,I.ok.hd,I.ok.frames,.inl rfl,
   fun b hb=>⟨fun z=>?_,fun y c e=>(f2 b hb).2.2.2.2.1 y c (oksub _ _ e)⟩,I2.bs,bN I.ok.bsz I2.sz,fun b o e hb=>?_,fun b hb z=>?_,I2.stack,I2.stkFree⟩
  ·exact bz (bc (fpLt b hb) leC) z
  ·rcases (f2 b hb).2.2.2.1 with q | q
   ·exact I.ok.noex b o e q
   ·exact absurd (bc (ba e) (bN I.ok.bsz q)) (d8 _)
  ·rcases ar.mp (I2.stkSub b z) with q | q
   ·exact (f2 b hb).2.1 q
   ·exact (f2 b hb).2.2.1 q
 have fpOk:∀ {H':Hp} {o:Obj},(∀ b∈fp,H' b=none)->∀ b∈fp,xm (cxC X scope (own++NN) fp s2 H2 P.objs.size) [(s2.heap.objs.size,o)] H' b:=fun {H' o} hn b hb=>by
  have lt:=fpLt b hb;refine ⟨hn b hb,fun z=>?_,fun z=>okC.exfs b hb z,.inl hb,fun y c e=>(okC.exf b hb).2 y c e,fun p hp z=>?_⟩
  ·exact bz (bc lt leC) z
  ·have hp':p=(s2.heap.objs.size,o):=by simpa using hp
   subst hp';exact bz lt (Fe z)
 have cellNe:∀ y c,(nU X.env scope.names []).lookup y=some c->c < s2.heap.objs.size:=fun y c e=>by
  obtain ⟨v,q⟩:=I2.cell y c (oksub _ _ e);exact q.lt
 have start:Inv (cxC X scope (own++NN) fp s2 H2 P.objs.size) [] (aJ own.length none++σ) H2 {s2 with heap:=h1,toks:=s2.toks + ([]:List (Str×ag)).length}:=by
  refine ⟨okC,rfl,I2.bare,Un.kept old,⟨_,hns,fun i y v e1 e2 e3=>?_⟩,fun y c e=>?_,I2.hok.fresh (by show s2.heap.objs.size<=P.objs.size; omega),fun y c e=>I2.freeC y c (oksub _ _ e),fun p hp=>absurd (show p∈([]:List (ak×Obj)) from by simpa using hp) (by simp),I2.hok.kept old,?_⟩
  ·by_cases hi:i < own.length
   ·rw [dw (by simpa using hi),gq,if_pos hi] at e2
    cases e2
   ·have e1n:NN[i - own.length]?=some y:=by
     have z:(own++NN)[i]?=some y:=e1;rw [cG (by omega)] at z;exact z
    rw [cG (by simpa using hi),cU] at e2;obtain ⟨ap1,ap2⟩:=ok.apart _ y e1n
    rcases e3 with e3 | e3
    ·exact absurd (uQ e3) ap1
    ·obtain ⟨⟨c,hcl⟩,kc⟩:=okfar y (rK e3);have e1':X.N[i - own.length]?=some y:=by
      rcases ap2 with z | z
      ·exact z
      ·rcases rK e3 with q | q <;> (rw [z] at q; cases q)
     obtain ⟨m,hn,hl⟩:=I2.loc;obtain ⟨u,r,l⟩:=hl (i - own.length) y v e1' e2 (.inr kc);refine ⟨u,r,.inr ⟨e3,c,hcl,?_⟩⟩
     rcases l with ⟨l,_⟩ | ⟨_,c',e',q⟩
     ·rcases kc with kc | kc <;> (rw [l] at kc; cases kc)
     ·rw [oksub _ _ hcl] at e'
      cases e';exact q.keeps old
  ·obtain ⟨v,q⟩:=I2.cell y c (oksub _ _ e);exact ⟨v,q.keeps old⟩
  ·show (aJ own.length none++σ).length=(own++NN).length;rw [af,af,cU,I2.len,ok.len]
 have nDC:s2.heap.objs.size≠P.objs.size:=hDC;have nDf:s2.heap.objs.size∉frs X.stack:=fun z=>by
  rcases ar.mp (I2.stkSub _ z) with q | q
  ·exact bz I2.lt (Fe q)
  ·exact I2.nofs (ay _) q
 have loop:∀ s₃:ah,s₃={s2 with heap:=h1,toks:=s2.toks + ([]:List (Str×ag)).length} ->
   qg (aM X.prog X.w) X.A (.compLoop (.ListComp elt [⟨target,iter,ifs,0⟩] scope pos) 0 (.ref it) (.ref s2.heap.objs.size) (compEnvC scope (nU X.env scope.names []) P.objs.size X.env))
    (zY (aM X.prog X.w) X.A X.xe use Qv (.ref s2.heap.objs.size) P.objs.size) s₃:=by
  rintro s₃ rfl;refine xF (fun n s'=>∃ (i:Nat) (ys:List V) (H':Hp) (its:List ag) (k:Nat),Inv (cxC X scope (own++NN) fp s2 H2 P.objs.size) [] (aJ own.length none++σ) H' s'/\tn i s'.heap/\(∀ b∈fp,H' b=none)/\H' s2.heap.objs.size=none/\dv ys its /\
   s'.heap.get? s2.heap.objs.size=some {cls:=.type "list",data:=.seq its.toArray k}/\W i n ys H') ?_ m0
   ⟨0,[],H2,[],0,start,T.keep _ _ _ st2 (fun b _ o e=>old b o e),fun b hb=>(f2 b hb).1,I2.hok.fresh (ay _),.nil,accAt,w0⟩
  rintro n s3 ⟨i,ys,H3,its,k,I3,st3,fr3,nD,rv,hD,w3⟩;have Ip:Inv (cxC X scope (own++NN) fp s2 H2 P.objs.size) [(s2.heap.objs.size,{cls:=.type "list",data:=.seq its.toArray k})] (aJ own.length none++σ) H3 s3:=I3.pins_of fun p hp=>by
   have hp':p=(s2.heap.objs.size,{cls:=.type "list",data:=.seq its.toArray k}):=by simpa using hp
   subst hp';exact ⟨hD,nD,nDC,nDf,fun v z=>by cases z⟩
  obtain ⟨hl,hw⟩:=turn i n ys H3 w3
  rcases hw with ⟨stop,fin⟩ | ⟨go,N,hN,step⟩
  ·refine thn (T.done (cxC X scope (own++NN) fp s2 H2 P.objs.size) rfl rfl rfl hc i _ s3 _ H3 _ Ip (fpOk fr3) st3 stop) fun r s4 z=>?_;obtain ⟨hr,I4⟩:=z;subst hr;obtain ⟨m,hn,_⟩:=I4.loc;have hD4:s4.heap.get? s2.heap.objs.size=some {cls:=.type "list",data:=.seq its.toArray k}:=(I4.pin _ (aP _ aA)).1;obtain ⟨h',eh'⟩:∃ h',h'=s4.heap:=⟨_,rfl⟩;have sb':∀ b o,b≠P.objs.size->s4.heap.get? b=some o->h'.get? b=some o:=fun b o hb e=>by rw [eh']; exact e
   have oldNe:∀ b o,s2.heap.get? b=some o->b≠P.objs.size/\b≠s2.heap.objs.size:=fun b o e=>by
    have lt:=ba e;exact ⟨bz (bc lt leC),bz lt⟩
   have trNe:∀ b u,H3 b=some u->b≠P.objs.size/\b≠s2.heap.objs.size:=fun b u e=>by
    refine ⟨fun z=>?_,fun z=>?_⟩
    ·have q:H3 P.objs.size=none:=I4.free;rw [<- z,e] at q
     cases q
    ·rw [z,nD] at e
     cases e
   have un:Un (frs X.stack) fp H2 (upd H3 s2.heap.objs.size (.lst ys)) s2.heap h':=by
    have B:=I4.base;refine ⟨fun b o e q hb hx=>sb' b o (oldNe b o e).1 (B.keep b o e q hb hx),fun b o e q hb hx=>?_,fun b o e q hx=>?_,fun b o e hx=>?_,fun b xs e=>?_,fun b o u e=>?_,fun b ps e=>?_⟩
    ·obtain ⟨sl,e1⟩:=B.slot b o e q hb hx;exact ⟨sl,sb' _ _ (oldNe b o e).1 e1⟩
    ·rw [aT (oldNe b o e).2];exact B.free b o e q hx
    ·obtain ⟨o',e1⟩:=B.there b o e hx;exact ⟨o',sb' _ _ (oldNe b o e).1 e1⟩
    ·have q:=B.tups b xs e;rw [aT (trNe _ _ q).2];exact q
    ·have q:=B.frzs b o u e;rw [aT (trNe _ _ q).2];exact q
    ·obtain ⟨more,q⟩:=B.tbls b ps e;refine ⟨more,?_⟩;rw [aT (trNe _ _ q).2];exact q
   have hok:HOk X.prog X.w (upd H3 s2.heap.objs.size (.lst ys)) h':=fun b u e=>by
    by_cases hb:b=s2.heap.objs.size
    ·subst hb;rw [ao] at e
     cases e;exact ⟨kE hl,its,k,rv,sb' _ _ nDC hD4⟩
    ·rw [aT hb] at e;refine (I4.hok b u e).stay (fun c v hc q=>sb' c v ?_ q) (fun c q=>?_) fun c xs q=>?_
     ·rcases hc with z | z
      ·rw [z];exact (trNe _ _ e).1
      ·exact (trNe _ _ z).1
     ·rw [aT (trNe _ _ q).2];exact q
     ·rw [aT (trNe _ _ q).2];exact q
   have J:=I2.call' (s':={s4 with heap:=h'}) (ch:=fp) I4.os un hok I4.bare fun b hb=>⟨(f2 b hb).2.2.2.1,(f2 b hb).2.1,(f2 b hb).2.2.2.2.1,(f2 b hb).2.2.2.2.2⟩;subst eh';refine hfin s4 P.objs.size s2.heap.objs.size (upd H3 s2.heap.objs.size (.lst ys)) m hn J ?_ ?_ ?_ (fun y c e=>?_) (fun q hq=>?_) (fin _ nD)
   ·rw [aT nDC.symm];exact I4.free
   ·exact nM (bc I2.lt leC)
   ·exact bN I2.sz leC
   ·obtain ⟨v,z⟩:=I2.cell y c e;exact bz (bc z.lt leC)
   ·exact bz (bc (ba (I2.pin q hq).1) leC)
  ·refine thn (T.item (cxC X scope (own++NN) fp s2 H2 P.objs.size) rfl rfl rfl hc i _ s3 _ H3 _ Ip (fpOk fr3) st3 go) fun r s4 z=>?_;obtain ⟨u,hr,h4⟩:=z;subst hr;refine thn h4 fun _ s5 z=>?_;obtain ⟨x,H5,I5,r5,y5,st5,fr5⟩:=z;have I5':=I5.pinned (fpOk fr5) (T.obj _ _ st5);refine thn (hg fp s2 H2 P.objs.size _ s5 _ H5 x u _ I5' r5 (step x H5 y5)) fun _ s6 z=>?_;obtain ⟨σ6,H6,I6,hσ,q6⟩:=z;refine thn (ht fp s2 H2 P.objs.size _ s6 σ6 H6 _ I6 q6) fun okb s7 z=>?_;obtain ⟨H7,I7,q7⟩:=z;have pinD:∀ {H8:Hp} {s8:ah},Inv (cxC X scope (own++NN) fp s2 H2 P.objs.size) ([(s2.heap.objs.size,{cls:=.type "list",data:=.seq its.toArray k})]++pG fp s5.heap) σ6 H8 s8 ->
     s8.heap.get? s2.heap.objs.size=some {cls:=.type "list",data:=.seq its.toArray k}/\H8 s2.heap.objs.size=none:=fun I8=>by
    have z:=I8.pin (s2.heap.objs.size,{cls:=.type "list",data:=.seq its.toArray k}) (aP _ (cS _ aA));exact ⟨z.1,z.2.1⟩
   have pinF:∀ {H8:Hp} {s8:ah},Inv (cxC X scope (own++NN) fp s2 H2 P.objs.size) ([(s2.heap.objs.size,{cls:=.type "list",data:=.seq its.toArray k})]++pG fp s5.heap) σ6 H8 s8 ->
     tn (i + 1) s8.heap/\∀ b∈fp,H8 b=none:=fun {H8 s8} I8=>by
    refine ⟨T.keep _ _ _ st5 fun b hb o e=>(I8.pin (b,o) (aP _ (aP _ (i8 hb e)))).1,fun b hb=>?_⟩;obtain ⟨o,e,_⟩:=T.obj _ _ st5 b hb;exact (I8.pin (b,o) (aP _ (aP _ (i8 hb e)))).2.1
   have len6:(aJ own.length none++σ).length=σ6.length:=by rw [I6.len,start.len]
   cases okb with
   | false =>
    have q7':N ys H7:=q7;obtain ⟨m',lt,w'⟩:=hN _ _ q7';obtain ⟨d1,d2⟩:=pinD I7;obtain ⟨p1,p2⟩:=pinF I7;have J7:Inv (cxC X scope (own++NN) fp s2 H2 P.objs.size) [] σ6 H7 s7:=I7.pins_of (fun p hp=>absurd hp (by simp));exact ⟨m',lt,i + 1,ys,H7,its,k,J7.weak len6 (sr hσ),p1,p2,d2,rv,d1,w'⟩
   | true =>
    refine thn (he fp s2 H2 P.objs.size _ s7 σ6 H7 _ I7 q7) fun v8 s8 z=>?_;obtain ⟨y,H8,I8,r8,n8⟩:=z;obtain ⟨m',lt,w'⟩:=hN _ _ n8;obtain ⟨d1,d2⟩:=pinD I8;obtain ⟨p1,p2⟩:=pinF I8;refine append_at (hsz:=by rw [aI,<- rv.length]; exact kE hl) d1 fun h9 sb hD9=>?_;have J8:Inv (cxC X scope (own++NN) fp s2 H2 P.objs.size) [] σ6 H8 s8:=I8.pins_of (fun p hp=>absurd hp (by simp));have J9:Inv (cxC X scope (own++NN) fp s2 H2 P.objs.size) [] σ6 H8 {s8 with heap:=h9}:=J8.turned (t':=s8.toks) (it:=s2.heap.objs.size) (fun b o hb e=>sb.extBut b o hb e) d2 nDC (.inr (ay _)) (fun y c e=>bz (cellNe y c e)) (fun p hp=>absurd hp (by simp));refine ⟨m',lt,i + 1,ys++[y],H8,its++[v8],k + 1,J9.weak len6 (sr hσ),T.keep _ _ _ p1 (fun b hb o e=>sb.extBut b o (bz (fpLt b hb)) e),p2,d2,rv.append (.cons r8 .nil),?_,w'⟩;show h9.get? _=_;rw [hD9,C3]
 exact codeAny_compStart_list (loop _ rfl) (T.self X.A 0 _ _ _ (T.keep _ _ _ st2 (fun b _ o e=>old b o e)) (loop _ rfl))
theorem lR {elt target iter:cI} {ifs:List cI} {scope:kO} {NN:List Str} {pos:Pos} {wi:TI} {g:TG} {tc:TT} {te:TE} (own:List Str) (ok:hW X scope NN) (hc:X.calm=true) (hi:PI X target iter wi)
  (hg:∀ fp s₂ H₂ C,PG (cxC X scope (own++NN) fp s₂ H₂ C) target g) (ht:∀ fp s₂ H₂ C,PTs (cxC X scope (own++NN) fp s₂ H₂ C) ifs tc) (he:∀ fp s₂ H₂ C,PE (cxC X scope (own++NN) fp s₂ H₂ C) elt te)
  (hs:∀ x,gG iter X.env x=pure x:=by intro _; rfl):PE X (.ListComp elt [⟨target,iter,ifs,0⟩] scope pos) (pZ own.length wi g tc te):=by
 intro pins s σ H Q I h;rw [eval_ListComp];refine yI (use:=none) own ok hc hi hg ht he hs I h fun s4 C D H' m hn J n1 n2 n3 n4 n5 q=>?_;exact ⟨m,hn,fun h' sb=>⟨.ref D,H',J.turned (t':=s4.toks) (it:=C) (fun b o hb e=>sb.extBut b o hb e) n1 n2 (.inr n3) n4 n5,rfl,q⟩⟩
theorem uo {elt target iter:cI} {ifs:List cI} {scope:kO} {NN:List Str} {pos pos' spos:Pos} {wi:TI} {g:TG} {tc:TT} {te:TE} {i:Nat} {x:Str} (own:List Str) (ok:hW X scope NN) (hc:X.calm=true) (hN:X.N.Nodup) (hx0:X.N[i]?=some x) (hx:Loc X.env.scope x) (hi:PI X target iter wi)
  (hg:∀ fp s₂ H₂ C,PG (cxC X scope (own++NN) fp s₂ H₂ C) target g) (ht:∀ fp s₂ H₂ C,PTs (cxC X scope (own++NN) fp s₂ H₂ C) ifs tc) (he:∀ fp s₂ H₂ C,PE (cxC X scope (own++NN) fp s₂ H₂ C) elt te)
  (hs:∀ x,gG iter X.env x=pure x:=by intro _; rfl) (hf:X.fn x=true\/X.env.scope.names.lookup x=some .local:=by first | exact .inl rfl | exact .inr rfl | assumption)
  (hsw:mI (.ListComp elt [⟨target,iter,ifs,0⟩] scope pos) (some (.Name x pos')) spos.line X.env=pure true:=by rfl):PS X (.Assign [.Name x pos'] (.ListComp elt [⟨target,iter,ifs,0⟩] scope pos) spos) (Bk (pZ own.length wi g tc te) (uG i)):=by
 intro pins s σ H D I h;rw [EF _ _ _ _ hsw];refine ae (bU (ae ?_));show aY _ X.A (do let _ <- nI (.ListComp elt [⟨target,iter,ifs,0⟩] scope pos) scope X.env _ (Jg []) false (dE iter X.env) (some (pF (.Name x pos') X.env))) _ _ s;refine ae (cE (yI (use:=some (pF (.Name x pos') X.env)) (Qv:=fun _ s'=>SP X pins D .next s') own ok hc hi hg ht he hs I h fun s4 C DD H' m hn J n1 n2 n3 n4 n5 q=>?_) (fun _ s' hq=>av (av hq)) fun _ _ e=>e);show aY _ X.A (pF (.Name x pos') X.env (.ref DD)) _ _ s4;refine vP (sW J hN hx0 hx (show RelV (.ref DD) (.ref DD) from rfl) (fun s' J' z=>?_) hf);obtain ⟨a,sb,ha⟩:=z;have na:C≠a:=by
  rcases ha with ha | ha
  ·rw [ha];exact n2
  ·exact (n4 x a ha).symm
 refine ⟨m,hn.at' fun o e=>sb.extBut C o na e,fun h' sb2=>⟨_,H',J'.turned (t':=s'.toks) (it:=C) (fun b o hb e=>sb2.extBut b o hb e) n1 n2 (.inr n3) n4 n5,q⟩⟩
end
section
variable {K:ai} {a:ak} {xs:List V} {n:Nat} {g:TG} {tc:TT} {te:TE} {σ:St} {H:Hp} {Q:VK}
theorem qQ (Pv:Nat->List V->Hp->Prop) (h0:Pv 0 [] H) (hl:∀ i ys H,i<=xs.length->Pv i ys H->SqL K H a xs/\ys.length < aw)
  (hs:∀ i x ys H,xs[i]?=some x->Pv i ys H->g x (aJ n none++σ) H fun σ2 H2=>σ2.drop n=σ/\tc σ2 H2 fun b H3=>if b=true then te σ2 H3 fun y H4=>Pv (i + 1) (ys++[y]) H4 else Pv (i + 1) ys H3)
  (hd:∀ ys H,Pv xs.length ys H->∀ p,H p=none->Q (.ref p) (upd H p (.lst ys))) :
  ∃ W:Nat->Nat->List V->Hp->Prop,(∃ m,W 0 m [] H)/\∀ i m ys H,W i m ys H->ys.length < aw/\(((Itl K a).stop i H/\∀ p,H p=none->Q (.ref p) (upd H p (.lst ys))) \/
   ((Itl K a).go i H/\∃ N:List V->Hp->Prop,(∀ ys' H',N ys' H'->∃ m',m' < m/\W (i + 1) m' ys' H')/\∀ x H',(Itl K a).yld i H x H'->g x (aJ n none++σ) H' fun σ2 H2=>σ2.drop n=σ/\tc σ2 H2 fun b H3 =>
    if b=true then te σ2 H3 fun y H4=>N (ys++[y]) H4 else N ys H3)):=by
 refine ⟨fun i m ys H=>m=xs.length - i/\i<=xs.length/\Pv i ys H,⟨xs.length,by simp,aU _,h0⟩,?_⟩;rintro i m ys H ⟨rfl,hi,p⟩;obtain ⟨q,z⟩:=hl i ys H hi p;refine ⟨z,?_⟩
 by_cases hlt:i < xs.length
 ·refine .inr ⟨⟨xs,xs[i],q,by simp [hlt]⟩,Pv (i + 1),fun ys' H' p'=>⟨xs.length - (i + 1),by omega,rfl,hlt,p'⟩,fun x H' y=>?_⟩;obtain ⟨e,y⟩:=y;subst e;exact hs i x ys _ (y xs q) p
 ·have e:i=xs.length:=by omega
  subst e;exact .inl ⟨⟨xs,q,ay _⟩,hd ys H p⟩
end
end L2
namespace PySem
section
variable {prog:aQ} {w:bT} {A:bQ} {E:ag->ah->Prop} {s:ah}
variable {K:Type} [DecidableEq K] {knd:KeyKind prog w K}
end
end PySem
namespace L2
open PySem PySem.Spec PyProof.Rows
section
variable {X:Cx}
theorem log_small {n:Nat} (h:n < 2 ^ 64):n.log2 < 9000:=by
 by_cases z:n=0
 ·subst z;decide
 ·exact t7 ((Bt z).mpr h) (by decide)
def CDivB (_ j:Int):Prop:=0 < j/\j < 2 ^ 64
theorem yJ:OpR X (jG .FloorDiv) (rI CDivB fun i j=>.int (i / j)):=opI fun i j _ _ _ _ _ hc q=>by
 have h1:(0:Int) < j:=hc.1;have h2:j < 2 ^ 64:=hc.2;have h3:j.natAbs < 2 ^ 64:=by omega
 exact floordiv_int (by omega) (by rw [Int.fdiv_eq_ediv_of_nonneg i (by omega)]; exact q) (.inl (PyProof.noPylong_of_log2 (log_small h3)))
end
end L2
namespace Att
open PySem PySem.W PySem.Calls PyProof.Rows
theorem weight_mem:∀ (xs:List WData) (x:WData),x∈xs->mU x<=uV xs
 | [],_,h=>by cases h
 | y :: r,x,h=>by
  unfold uV
  rcases ar.mp h with e | e
  ·subst e;omega
  ·have:=weight_mem r x e;omega
theorem bits_of_lay {ns:List Int} (h:uc [WData.list (ns.map WData.int)]=true):∀ n∈ns,hV n<=1048576:=fun n hn=>by
 have h1:(WData.list (ns.map WData.int)).layable=true:=(layW_cons h).1;unfold WData.layable at h1;have h2:mU (WData.list (ns.map WData.int))<=2 ^ 20:=of_decide_eq_true (gb.mp h1).2;have h3:=weight_mem (ns.map WData.int) (WData.int n) (cu.mpr ⟨n,hn,rfl⟩);have h4:mU (WData.list (ns.map WData.int))=uV (ns.map WData.int):=by
  rw [mU]
 have h5:mU (WData.int n)=hV n:=by
  rw [mU];rfl
 have e:(2:Nat) ^ 20=1048576:=by decide
 omega
end Att
namespace L2
open PySem PySem.Spec PyProof.Rows
end L2
namespace PySem
open SeqAt MeetsSeq MeetsSeq2 MeetsSeq3 SeqRoads2
open AutoSeq1 (wpAny_loadPart')
def oN (prog:aQ) (w:bT) (A:bQ) (s:ah) (y x:ag):Prop:=
 ∀ (E:ag->ah->Prop) (Q:Bool->ah->Prop),Q true s->aY (aM prog w) A (eqBool y x) Q E s
def uW (prog:aQ) (w:bT) (A:bQ) (s:ah) (y x:ag):Prop:=
 ∀ (E:ag->ah->Prop) (Q:ag->ah->Prop),Q (.bool true) s->aY (aM prog w) A (richCompare .Eq y x) Q E s
section
variable {prog:aQ} {w:bT} {A:bQ} {s:ah}
theorem oN.of_at {y x:ag} (h:EqAt A s y x true):oN prog w A s y x:=fun E Q q=>h prog w E Q q
theorem oN.self (v:ag):oN prog w A s v v:=oN.of_at (EqAt.same v)
theorem oN.refs {l b:ak} (h:uW prog w A s (.ref l) (.ref b)):oN prog w A s (.ref l) (.ref b):=by
 by_cases e:l=b
 ·rw [e];exact oN.self _
 ·intro E Q q;unfold eqBool;refine bH (wpAny_ite_split (fun z=>?_) (fun _=>?_))
  ·exact absurd (by have z':=eq_of_beq z; injection z') e
  ·exact ae (h E _ (dO q))
theorem Ff (l b:ak) (xs ys:Array ag) (n m:Nat) (dd de:Option ak) (sl sm:Array (Option ag)) (hsz:xs.size=ys.size):∀ k i:Nat,xs.size - i=k ->
  MeetsIn prog w (oZ.«list.__eq__.loop» ⟨[.ref l,.ref b,mJ i,mJ 2],[]⟩) (fun A R s =>
   s.heap.get? l=some {cls:=.type "list",dict:=dd,data:=.seq xs n,slots:=sl}/\s.heap.get? b=some {cls:=.type "list",dict:=de,data:=.seq ys m,slots:=sm} /\
   (∀ j (h1:j < xs.size) (h2:j < ys.size),oN prog w A.in1 s xs[j] ys[j])/\R (.ok (.ret (.bool true))) s):=by
 intro k
 induction k with
 | zero =>
  intro i hk A R s q;obtain ⟨hp,g,d,tk,os⟩:=s;obtain ⟨q1,q2,q3,q4⟩:=q;have a1:xs[((i:Nat):Int).toNat]?=none:=by simp; omega
  have a2:ys[((i:Nat):Int).toNat]?=none:=by simp; omega
  wp_walk using iy q1,iy q2
  rw [a1,a2]
  wp_walk using iy q1,iy q2
  show R (.ok (.ret (.bool (xs.size == ys.size)))) _;rw [hsz,beq_self_eq_true];exact q4
 | succ k ih =>
  intro i hk A R s q;obtain ⟨hp,g,d,tk,os⟩:=s;obtain ⟨q1,q2,q3,q4⟩:=q;have l1:i < xs.size:=by omega
  have l2:i < ys.size:=by omega
  have a1:xs[((i:Nat):Int).toNat]?=some xs[i]:=by simp [l1]
  have a2:ys[((i:Nat):Int).toNat]?=some ys[i]:=by simp [l2]
  have e1:((i:Int) + 1)=((i + 1:Nat):Int):=by push_cast; rfl
  wp_walk using iy q1,iy q2
  rw [a1,a2];refine ae (q3 i l1 l2 _ _ ?_)
  wp_walk
  rw [e1];refine ⟨Bu plain_eq_loop _,codeAny_builtin entry_eq_loop ?_⟩;rw [qR plain_eq_loop _];exact ih (i + 1) (by omega) A R _ ⟨q1,q2,q3,q4⟩
theorem Fg (l b:ak) (xs ys:Array ag) (n m:Nat) (dd de:Option ak) (sl sm:Array (Option ag)) (hsz:xs.size=ys.size) :
  MeetsIn prog w (oZ.«list.__eq__» ⟨[.ref l,.ref b],[]⟩) (fun A R s =>
   s.heap.get? l=some {cls:=.type "list",dict:=dd,data:=.seq xs n,slots:=sl}/\s.heap.get? b=some {cls:=.type "list",dict:=de,data:=.seq ys m,slots:=sm} /\
   (∀ j (h1:j < xs.size) (h2:j < ys.size),oN prog w A.in1 s xs[j] ys[j])/\R (.ok (.ret (.bool true))) s):=by
 intro A R s q;obtain ⟨hp,g,d,tk,os⟩:=s;obtain ⟨q1,q2,q3,q4⟩:=q;have f1:=AutoSeq1.sub_list_list;have f2:¬ (xs.size != ys.size)=true:=by simp [hsz]
 wp_walk using iy q1,iy q2
 refine ⟨Bu plain_eq_loop _,codeAny_builtin entry_eq_loop ?_⟩;rw [qR plain_eq_loop _];exact Ff l b xs ys n m dd de sl sm hsz _ 0 rfl A R _ ⟨q1,q2,q3,q4⟩
theorem uW.lists {l b:ak} {xs ys:Array ag} (hl:s.heap.IsList l xs) (hb:s.heap.IsList b ys) (hsz:xs.size=ys.size) (hu:A.units < ic)
  (he:∀ j (h1:j < xs.size) (h2:j < ys.size),oN prog w A.in1 s xs[j] ys[j]):uW prog w A s (.ref l) (.ref b):=fun E Q q=>by
 obtain ⟨⟨c1,dd,t1,sl⟩,o1,rfl,n,rfl⟩:=id hl;obtain ⟨⟨c2,de,t2,sm⟩,o2,rfl,m,rfl⟩:=id hb;refine zx (op:=.Eq) ⟨_,o1,rfl⟩ ⟨_,o2,rfl⟩ F.slot_list_eq (call_meetsIn F.slot_list_eq ⟨_,o1,rfl⟩ F.entry_list_eq (F.args_list_eq_2 _ _) (Fg l b xs ys n m dd de sl sm hsz) ⟨o1,o2,he,?_⟩) hu;exact ⟨fun z=>(nomatch z),q⟩
variable {K:Type} [DecidableEq K] {knd:KeyKind prog w K}
theorem pairs_at {es:List xG} {kvs:List (K×ag)} (h:Pairs knd es kvs):∀ {i:Nat} {e:xG},es[i]?=some e->∃ kv,kvs[i]?=some kv/\knd.is kv.1 e.key=true/\e.val=kv.2:=by
 induction h with
 | nil =>
  intro i e q;simp at q
 | cons a b _ ih =>
  intro i e q
  cases i with
  | zero =>
   simp at q;subst q;exact ⟨_,rfl,a,b⟩
  | succ i =>
   obtain ⟨kv,z⟩:=ih (i:=i) (by simpa using q);exact ⟨kv,by simpa using z.1,z.2⟩
theorem C4 {nm:String} {d b:ak} {kvs kws:List (K×ag)} {Q:Bool->ah->Prop} {E:ag->ah->Prop} (hd:(d == gk)=false) (hb:(b == gk)=false) (m1:s.heap.DictOf knd d kvs) (m2:s.heap.DictOf knd b kws)
  (hl:kvs.length=kws.length) (he:∀ kv∈kvs,∃ v',qh kws kv.1=some v'/\oN prog w A s kv.2 v') (q:Q true s):aY (aM prog w) A (uq nm d b) Q E s:=by
 obtain ⟨o1,es,ep,h1,x1,t1,k1,p1,n1⟩:=id m1;obtain ⟨o2,fs,fp,h2,x2,t2,k2,p2,n2⟩:=id m2;have z1:es.size=kvs.length:=by rw [<- p1.length,cJ]
 have z2:fs.size=kws.length:=by rw [<- p2.length,cJ]
 unfold uq;unfold Builtin.Dict.showsAll;rw [if_neg (by rw [hd]; exact aX),if_neg (by rw [hb]; exact aX)];refine ae (av (ae (av ?_)));refine ae (qi h1 t1 (ae (qi h2 t2 ?_)));rw [if_neg (by rw [z1,z2,hl]; simp)];refine ae (wpAny_dictEpoch h1 t1 (ae ?_));rw [Gq];simp only [Gr,zZ,C5,Nat.div_one];refine wpAny_forIn_list _ (fun rest r s'=>s'=s/\r.1=none/\∃ i,rest=List.range' i (es.size - i)/\i<=es.size) _ ?_ ?_ _ _ ⟨rfl,rfl,0,by simp,aU _⟩
 ·rintro x rest ⟨r1,r2⟩ s' ⟨rfl,e1,i,hr,hi⟩;have lt:i < es.size:=by
   rcases nV i es.size with z | z
   ·exact z
   ·rw [Nat.sub_eq_zero_of_le z] at hr;simp at hr
  obtain ⟨rfl,hrest⟩:x=i/\rest=List.range' (i + 1) (es.size - (i + 1)):=by
   rw [show es.size - i=(es.size - (i + 1)) + 1 by omega,List.range'_succ] at hr;injection hr with a1 a2;exact ⟨a1,a2⟩
  obtain ⟨kv,y1,y2,y3⟩:=pairs_at p1 (i:=x) (e:=es[x]) (by simp [lt]);obtain ⟨kk,y4,y5⟩:=k1 es[x] (Array.getElem_mem lt);have y6:kk=kv.1:=knd.inj _ _ _ y4 y2;subst y6;obtain ⟨v',g1,g2⟩:=he kv (bw y1);obtain ⟨o3,fs',fp',a1,_,a2,a3,hf⟩:=m2.mapOf;rw [h2] at a1
  cases a1;rw [t2] at a2
  cases a2;rw [<- hf kv.1,findBy_of_findIdx?] at g1;refine ae (qi h1 t1 ?_);rw [oO lt];dsimp only;refine ae (bH (ae ?_));rw [y5];refine wpAny_dictFind_of y2 h2 t2 k2 ?_
  cases hj:fs.findIdx? fun e=>knd.is kv.1 e.key with
  | none =>
   rw [hj] at g1
   cases g1
  | some j =>
   rw [hj] at g1;dsimp only at g1 |-;refine ae (qi h2 t2 ?_)
   cases hx:fs[j]? with
   | none =>
    simp [hx] at g1
   | some fe =>
    have g3:fe.val=v':=by simpa [hx] using g1
    dsimp only;refine bH ?_;rw [y3,g3];refine g2 _ _ ?_;rw [if_neg (by decide)];refine ae (wpAny_dictEpoch h1 t1 ?_);rw [if_neg (by simp)];exact av ⟨rfl,rfl,x + 1,hrest,lt⟩
 ·rintro ⟨r1,r2⟩ s' ⟨rfl,e1,_⟩;have e1:r1=none:=e1;subst e1;exact av q
theorem Bv (d b:ak) (hd:(d == gk)=false) (hb:(b == gk)=false) :
  MeetsIn prog w (oZ.«dict.__eq__» ⟨[.ref d,.ref b],[]⟩) (fun A R s=>∃ kvs kws,s.heap.DictOf knd d kvs/\s.heap.DictOf knd b kws/\kvs.length=kws.length /\
   (∀ kv∈kvs,∃ v',qh kws kv.1=some v'/\oN prog w A.in1 s kv.2 v')/\R (.ok (.ret (.bool true))) s):=
 .of_wp fun A R s h=>by
  obtain ⟨kvs,kws,m1,m2,hl,he,q⟩:=h;unfold oZ.«dict.__eq__»;show aY _ _ (tD "__eq__" ⟨[.ref d,.ref b],[]⟩ >>= _) _ _ s;refine ae ?_;unfold tD;unfold Builtin.Dict.notOrdered;rw [if_neg (by decide)];refine ae (av ?_);show aY _ _ (pure (Value.ref d,Value.ref b)) _ _ s;refine av ?_;dsimp only;refine ae (wpAny_isInstance m2.typeIs isSubtype_dict_dict ?_);rw [if_neg (by decide)];refine ae (av (ae (av (ae (C4 hd hb m1 m2 hl he ?_)))));exact av ⟨_,rfl,q⟩
theorem uW.dicts {d b:ak} {kvs kws:List (K×ag)} (hd:(d == gk)=false) (hb:(b == gk)=false) (m1:s.heap.DictOf knd d kvs) (m2:s.heap.DictOf knd b kws) (hl:kvs.length=kws.length) (hu:A.units < ic)
  (he:∀ kv∈kvs,∃ v',qh kws kv.1=some v'/\oN prog w A.in1 s kv.2 v'):uW prog w A s (.ref d) (.ref b):=fun E Q q =>
 zx (op:=.Eq) m1.typeIs m2.typeIs F.slot_dict_eq (call_meetsIn F.slot_dict_eq m1.typeIs F.entry_dict_eq (F.args_dict_eq_2 _ _) (Bv (knd:=knd) d b hd hb) ⟨kvs,kws,m1,m2,hl,he,⟨fun z=>(nomatch z),q⟩⟩) hu
end
end PySem
namespace L2
open PySem PySem.Spec PyProof.Rows PySem.SeqAt
def sc0:V->Prop
 | .int _=>True
 | .str _=>True
 | .bl _=>True
 | .non=>True
 | _=>False
def TEq (H:Hp):Nat->V->V->Prop
 | 0,x,y=>sc0 x/\x=y
 | n + 1,x,y=>(sc0 x/\x=y)\/(∃ p q xs ys,x=.ref p/\y=.ref q/\H p=some (.lst xs)/\H q=some (.lst ys)/\cL (TEq H n) xs ys) \/
   ∃ p q xs ys,x=.ref p/\y=.ref q/\H p=some (.tup xs)/\H q=some (.tup ys)/\cL (TEq H n) xs ys
def DEq (H:Hp):Nat->V->V->Prop
 | 0,x,y=>∃ n,n<=20/\TEq H n x y
 | n + 1,x,y=>(∃ n,n<=20/\TEq H n x y)\/(∃ p q xs ys,x=.ref p/\y=.ref q/\H p=some (.lst xs)/\H q=some (.lst ys)/\cL (DEq H n) xs ys) \/
   ∃ p q kvs kws,x=.ref p/\y=.ref q/\H p=some (.dK kvs)/\H q=some (.dK kws)/\cL (fun (a b:Key×V)=>a.1=b.1/\DEq H n a.2 b.2) kvs kws
section
variable {P:aQ} {w:bT} {H:Hp} {s:ah}
theorem o4 {R:V->V->Prop}:∀ {xs ys:List V} {us vs:List ag},cL R xs ys->dv xs us->dv ys vs->us.length=vs.length/\∀ j (h1:j < us.length) (h2:j < vs.length),∃ x y,R x y/\RelV x us[j]/\RelV y vs[j]:=by
 intro xs ys us vs p
 induction p generalizing us vs with
 | nil =>
  intro a b
  cases a
  cases b;exact ⟨rfl,fun j h1=>absurd h1 (Nat.not_lt_zero _)⟩
 | cons r rs ih =>
  intro a b
  cases a with
  | cons a as =>
  cases b with
  | cons b bs =>
  obtain ⟨e,z⟩:=ih as bs;refine ⟨by rw [aG,aG,e],fun j h1 h2=>?_⟩
  cases j with
  | zero=>exact ⟨_,_,r,a,b⟩
  | succ j=>exact z j (z6 h1) (z6 h2)
theorem AO {A:bQ} {x:V} {u v:ag} (h:sc0 x) (ru:RelV x u) (rv:RelV x v):EqAt A s u v true:=by
 cases x with
 | non=>cases ru; cases rv; exact EqAt.same _
 | bl b=>cases ru; cases rv; exact EqAt.same _
 | int i =>
  obtain ⟨t,rfl⟩:=ru;obtain ⟨t',rfl⟩:=rv;have z:=EqAt.int_int (A:=A) (s:=s) i t i t';rw [beq_self_eq_true] at z;exact z
 | str i =>
  obtain ⟨t,rfl⟩:=ru;obtain ⟨t',rfl⟩:=rv;have z:=EqAt.str_str (A:=A) (s:=s) i t i t';rw [beq_self_eq_true] at z;exact z
 | byt b=>exact h.elim
 | flt b=>exact h.elim
 | ref a=>exact h.elim
 | ty a=>exact h.elim
theorem gZ (ok:HOk P w H s.heap) {p:ak} {xs:List V} (h:H p=some (.lst xs)):∃ us:List ag,dv xs us/\s.heap.IsList p us.toArray:=by
 obtain ⟨_,us,n,r,e⟩:=(show gB P w H s.heap p (.lst xs) from ok p _ h);exact ⟨us,r,_,e,rfl,n,rfl⟩
theorem su (ok:HOk P w H s.heap) {p:ak} {xs:List V} (h:H p=some (.tup xs)):∃ us:List ag,dv xs us/\s.heap.IsTuple p us.toArray:=by
 obtain ⟨_,us,r,o,e,c,n,d⟩:=(show gB P w H s.heap p (.tup xs) from ok p _ h);exact ⟨us,r,o,e,c,n,d⟩
theorem sv (n:Nat):((jZ n).all fun _=>true)=true:=by simp
theorem yK (ok:HOk P w H s.heap) {R:V->V->Prop} {A:bQ} {p q:ak} {xs ys:List V} (hu:A.units < ic) (h1:H p=some (.lst xs)) (h2:H q=some (.lst ys)) (r:cL R xs ys)
  (he:∀ x y u v,R x y->RelV x u->RelV y v->EqAt A.in1 s u v true):RcAt A s (.ref p) (.ref q) true:=by
 obtain ⟨us,r1,i1⟩:=gZ ok h1;obtain ⟨vs,r2,i2⟩:=gZ ok h2;obtain ⟨e,z⟩:=o4 r r1 r2;have k:=RcAt.lists (e:=fun _=>true) i1 i2 (by simpa using e) hu (fun j a b=>by
  obtain ⟨x,y,rr,rx,ry⟩:=z j (by simpa using a) (by simpa using b);simpa using he _ _ _ _ rr rx ry)
 rw [sv] at k;exact k
theorem AQ (ok:HOk P w H s.heap) {R:V->V->Prop} {A:bQ} {p q:ak} {xs ys:List V} (hu:A.units < ic) (h1:H p=some (.tup xs)) (h2:H q=some (.tup ys)) (r:cL R xs ys)
  (he:∀ x y u v,R x y->RelV x u->RelV y v->EqAt A.in1 s u v true):RcAt A s (.ref p) (.ref q) true:=by
 obtain ⟨us,r1,i1⟩:=su ok h1;obtain ⟨vs,r2,i2⟩:=su ok h2;obtain ⟨e,z⟩:=o4 r r1 r2;have k:=RcAt.tuples (e:=fun _=>true) i1 i2 hu (fun j a b=>by
  obtain ⟨x,y,rr,rx,ry⟩:=z j (by simpa using a) (by simpa using b);simpa using he _ _ _ _ rr rx ry)
 rw [sv,Iq,aI,aI,e,beq_self_eq_true] at k;exact k
theorem EqAt.of_rc {A:bQ} {l b:ak} (h:RcAt A s (.ref l) (.ref b) true):EqAt A s (.ref l) (.ref b) true:=by
 by_cases e:l=b
 ·rw [e];exact EqAt.same _
 ·exact EqAt.of_refs e h
theorem qB (ok:HOk P w H s.heap):∀ {n:Nat} {A:bQ} {x y:V} {u v:ag},A.units + n < ic->TEq H n x y->RelV x u->RelV y v->EqAt A s u v true
 | 0,A,x,y,u,v,hu,h,ru,rv=>by
  obtain ⟨h1,rfl⟩:=h;exact AO h1 ru rv
 | n + 1,A,x,y,u,v,hu,h,ru,rv=>by
  have hin:A.in1.units + n < ic:=by
   show A.units + 1 + n < ic;omega
  rcases h with ⟨h1,rfl⟩ | ⟨p,q,xs,ys,rfl,rfl,h1,h2,r⟩ | ⟨p,q,xs,ys,rfl,rfl,h1,h2,r⟩
  ·exact AO h1 ru rv
  ·cases ru
   cases rv;exact EqAt.of_rc (yK ok (by omega) h1 h2 r fun _ _ _ _ z a b=>qB ok hin z a b)
  ·cases ru
   cases rv;exact EqAt.of_rc (AQ ok (by omega) h1 h2 r fun _ _ _ _ z a b=>qB ok hin z a b)
theorem uX (ok:HOk P w H s.heap) {R:V->V->Prop} {A:bQ} {p q:ak} {xs ys:List V} (hu:A.units < ic) (h1:H p=some (.lst xs)) (h2:H q=some (.lst ys)) (r:cL R xs ys)
  (he:∀ x y u v,R x y->RelV x u->RelV y v->oN P w A.in1 s u v):uW P w A s (.ref p) (.ref q):=by
 obtain ⟨us,r1,i1⟩:=gZ ok h1;obtain ⟨vs,r2,i2⟩:=gZ ok h2;obtain ⟨e,z⟩:=o4 r r1 r2;exact uW.lists i1 i2 (by simpa using e) hu (fun j a b=>by
  obtain ⟨x,y,rr,rx,ry⟩:=z j (by simpa using a) (by simpa using b);simpa using he _ _ _ _ rr rx ry)
theorem Fh {κ:Type} {R:κ×V->κ×V->Prop}:∀ {kvs kws:List (κ×V)} {us vs:List (κ×ag)},cL R kvs kws->KV kvs us->KV kws vs->us.length=vs.length/\∀ (i:Nat) (q:κ×ag),us[i]?=some q->∃ q' a b,vs[i]?=some q'/\R a b/\a.1=q.1/\b.1=q'.1/\RelV a.2 q.2/\RelV b.2 q'.2:=by
 intro kvs kws us vs p
 induction p generalizing us vs with
 | nil =>
  intro a b
  cases a
  cases b;exact ⟨rfl,fun i q h=>by simp at h⟩
 | cons r rs ih =>
  intro a b
  cases a with
  | cons a as =>
  cases b with
  | cons b bs =>
  obtain ⟨e,z⟩:=ih as bs;refine ⟨by rw [aG,aG,e],fun i q h=>?_⟩
  cases i with
  | zero =>
   simp at h;subst h;exact ⟨_,_,_,rfl,r,a.1,b.1,a.2,b.2⟩
  | succ i =>
   obtain ⟨q',x,y,h1,h2⟩:=z i q (by simpa using h);exact ⟨q',x,y,by simpa using h1,h2⟩
theorem uY (ok:HOk P w H s.heap) {R:V->V->Prop} {A:bQ} {p q:ak} {kvs kws:List (Key×V)} (hu:A.units < ic) (h1:H p=some (.dK kvs)) (h2:H q=some (.dK kws)) (r:cL (fun (a b:Key×V)=>a.1=b.1/\R a.2 b.2) kvs kws)
  (he:∀ x y u v,R x y->RelV x u->RelV y v->oN P w A.in1 s u v):uW P w A s (.ref p) (.ref q):=by
 obtain ⟨_,n1,us,k1,m1⟩:=(show gB P w H s.heap p (.dK kvs) from ok p _ h1);obtain ⟨_,n2,vs,k2,m2⟩:=(show gB P w H s.heap q (.dK kws) from ok q _ h2);obtain ⟨e,z⟩:=Fh r k1 k2;refine uW.dicts n1 n2 m1 m2 e hu fun kv hkv=>?_;obtain ⟨i,hi⟩:=List.getElem?_of_mem hkv;obtain ⟨q',a,b,g1,⟨g2,g3⟩,g4,g5,g6,g7⟩:=z i kv hi;obtain ⟨_,_,_,_,_,_,_,_,nd⟩:=id m2;have g8:vs[i]?=some (kv.1,q'.2):=by
  rw [g1,<- g4,g2,g5]
 exact ⟨q'.2,valueAt_of_get nd g8,he _ _ _ _ g3 g6 g7⟩
theorem xH (ok:HOk P w H s.heap):∀ {n:Nat} {A:bQ} {x y:V} {u v:ag},A.units + n + 20 < ic->DEq H n x y->RelV x u->RelV y v->oN P w A s u v
 | 0,A,x,y,u,v,hu,h,ru,rv=>by
  obtain ⟨m,h0,h1⟩:=h;exact oN.of_at (qB ok (by omega) h1 ru rv)
 | n + 1,A,x,y,u,v,hu,h,ru,rv=>by
  have hin:A.in1.units + n + 20 < ic:=by
   show A.units + 1 + n + 20 < ic;omega
  rcases h with ⟨m,h0,h1⟩ | ⟨p,q,xs,ys,rfl,rfl,h1,h2,r⟩ | ⟨p,q,kvs,kws,rfl,rfl,h1,h2,r⟩
  ·exact oN.of_at (qB ok (by omega) h1 ru rv)
  ·cases ru
   cases rv;exact oN.refs (uX ok (by omega) h1 h2 r fun _ _ _ _ z a b=>xH ok hin z a b)
  ·cases ru
   cases rv;exact oN.refs (uY ok (by omega) h1 h2 r fun _ _ _ _ z a b=>xH ok hin z a b)
end
section
variable {X:Cx}
theorem Ir (hu:X.A.units + 50 < ic):OpR X (dA .Eq) (fun x y H Q=>∃ n p q,n<=20/\x=.ref p/\y=.ref q/\DEq H n x y/\Q (.bl true) H):=by
 intro pins s σ H x y v u Q I rx ry h;obtain ⟨n,p,q,hn,rfl,rfl,d,k⟩:=h
 cases rx
 cases ry;have fin:EP X pins σ Q (.bool true) s:=⟨.bl true,H,I,rfl,k⟩;have hu1:X.A.units < ic:=by omega
 have main:uW X.prog X.w X.A s (.ref p) (.ref q):=by
  have hin:∀ m,m<=20->X.A.in1.units + m < ic:=fun m hm=>by
   show X.A.units + 1 + m < ic;omega
  have tq:∀ m,m<=20->TEq H m (.ref p) (.ref q)->uW X.prog X.w X.A s (.ref p) (.ref q):=fun m hm t=>by
   cases m with
   | zero=>exact t.1.elim
   | succ m =>
    rcases t with ⟨h1,_⟩ | ⟨p',q',xs,ys,e1,e2,h1,h2,r⟩ | ⟨p',q',xs,ys,e1,e2,h1,h2,r⟩
    ·exact h1.elim
    ·cases e1
     cases e2;intro E Q' k';exact yK I.hok hu1 h1 h2 r (fun _ _ _ _ z a b=>qB I.hok (hin m (by omega)) z a b) X.prog X.w E Q' k'
    ·cases e1
     cases e2;intro E Q' k';exact AQ I.hok hu1 h1 h2 r (fun _ _ _ _ z a b=>qB I.hok (hin m (by omega)) z a b) X.prog X.w E Q' k'
  cases n with
  | zero =>
   obtain ⟨m,hm,t⟩:=d;exact tq m hm t
  | succ n =>
   have hin2:X.A.in1.units + n + 20 < ic:=by
    show X.A.units + 1 + n + 20 < ic;omega
   rcases d with ⟨m,hm,t⟩ | ⟨p',q',xs,ys,e1,e2,h1,h2,r⟩ | ⟨p',q',kvs,kws,e1,e2,h1,h2,r⟩
   ·exact tq m hm t
   ·cases e1
    cases e2;exact uX I.hok hu1 h1 h2 r fun _ _ _ _ z a b=>xH I.hok hin2 z a b
   ·cases e1
    cases e2;exact uY I.hok hu1 h1 h2 r fun _ _ _ _ z a b=>xH I.hok hin2 z a b
 exact main _ _ fin
theorem Iu (hu:X.A.units + 50 < ic):OpR X (dA .NotEq) (fun x y H Q=>∃ n p q,n<=20/\x=.ref p/\y=.ref q/\TEq H n x y/\Q (.bl false) H):=by
 intro pins s σ H x y v u Q I rx ry h;obtain ⟨n,p,q,hn,rfl,rfl,d,k⟩:=h
 cases rx
 cases ry;have fin:EP X pins σ Q (.bool false) s:=⟨.bl false,H,I,rfl,k⟩;have hu1:X.A.units < ic:=by omega
 cases n with
 | zero=>exact d.1.elim
 | succ m =>
  have hin:X.A.in1.units + m < ic:=by
   show X.A.units + 1 + m < ic;omega
  rcases d with ⟨h1,_⟩ | ⟨p',q',xs,ys,e1,e2,h1,h2,r⟩ | ⟨p',q',xs,ys,e1,e2,h1,h2,r⟩
  ·exact h1.elim
  ·cases e1
   cases e2;obtain ⟨us,r1,i1⟩:=gZ I.hok h1;obtain ⟨vs,r2,i2⟩:=gZ I.hok h2;obtain ⟨e,z⟩:=o4 r r1 r2;have k:=RcNeAt.lists (A:=X.A) (e:=fun _=>true) i1 i2 (by simpa using e) hu1 (fun j a b=>by
    obtain ⟨x,y,rr,rx,ry⟩:=z j (by simpa using a) (by simpa using b);simpa using qB I.hok hin rr rx ry)
   rw [sv] at k;exact k X.prog X.w _ _ fin
  ·cases e1
   cases e2;obtain ⟨us,r1,i1⟩:=su I.hok h1;obtain ⟨vs,r2,i2⟩:=su I.hok h2;obtain ⟨e,z⟩:=o4 r r1 r2;have k:=RcNeAt.tuples (A:=X.A) (e:=fun _=>true) i1 i2 hu1 (fun j a b=>by
    obtain ⟨x,y,rr,rx,ry⟩:=z j (by simpa using a) (by simpa using b);simpa using qB I.hok hin rr rx ry)
   rw [sv,Iq,aI,aI,e,beq_self_eq_true] at k;exact k X.prog X.w _ _ fin
theorem C6 {A:bQ} {k:Nat} (hr:dj k A):A.units + 50 < ic:=by
 have:=hr.un;omega
end
end L2
namespace PySem
open SeqAt MeetsSeq MeetsSeq2 MeetsSeq3 SeqRoads2
section
variable {prog:aQ} {w:bT} {A:bQ} {s:ah}
variable {K:Type} [DecidableEq K] {knd:KeyKind prog w K}
end
end PySem
namespace L2
open PySem PySem.Spec PyProof.Rows PySem.SeqAt
section
variable {X:Cx}
end
end L2
namespace L2
open PySem PySem.Spec PyProof.Rows
section
variable {X:Cx}
theorem uZ:∀ {ys:List Str} {us:List ag},dv (ys.map V.str) us->StrsAre us ys
 | [],_,.nil=>.nil
 | _ :: _,_,.cons ⟨t,e⟩ r=>e ▸ .cons _ t (uZ r)
def jsz (z:Str) (ys:List Str):Nat:=(ys.map fun x=>x.length).sum + ys.length * z.length
def Gs (K:ai):V->List V->Hp->VK->Prop:=fun x vs H Q=>∃ z l ys,x=.str z/\vs=[.ref l]/\(SqL K H l (ys.map V.str)\/SqT K H l (ys.map V.str))/\jsz z ys<=16777216/\Q (.str (cq z ys)) H
theorem pO:MtR X "str.join" (Gs X.K):=by
 intro pins s σ H x vs v us Q I rx rv h;obtain ⟨z,l,ys,rfl,rfl,hl,hz,q⟩:=h;obtain ⟨t,rfl⟩:=rx;obtain ⟨u,rfl,ru⟩:=rv.one
 cases ru
 rcases hl with hl | hl
 ·obtain ⟨its,r,pl,_⟩:=I.list hl;exact join_list pl.isList (by simpa using uZ r) hz fun t' k=>⟨.str _,H,I.tok _,⟨_,rfl⟩,q⟩
 ·obtain ⟨its,r,pl,_⟩:=I.tuple hl;exact join_tuple pl (by simpa using uZ r) hz fun t' k=>⟨.str _,H,I.tok _,⟨_,rfl⟩,q⟩
def xI (D:List (Str×Str)):List (Str×KTD.Dat):=D.map fun p=>(p.1,KTD.Dat.flat (.str p.2))
def Tab (K:ai) (a:ak) (D:List (Str×Str)):Prop:=KTD.tabLook (KTD.datLooks fun a=>K.lookup a) (fun a=>K.lookup a) a (xI D)=true
theorem wL:∀ D:List (Str×Str),((xI D).all fun p=>KTD.plain p.2)=true
 | []=>rfl
 | _ :: D=>wL D
theorem xJ {k m:Str}:∀ {D:List (Str×Str)},D.lookup k=some m->xK k (xI D)=true
 | [],h=>by cases h
 |(x,y) :: D,h=>by
  by_cases c:k=x
  ·subst c;simp [xI,xK]
  ·have e:(k == x)=false:=beq_eq_false_iff_ne.mpr c;simp only [dU,e] at h;have:=xJ h;simp [xI,xK] at this |-
   first | exact .inr this | simpa [c] using this
theorem yL {h₀:cP} {k m:Str} {P:ag->Prop} (q:∀ t,P (.str m t)):∀ {D:List (Str×Str)},D.lookup k=some m->KTD.EachL h₀ k P (xI D)
 | [],h=>by cases h
 |(x,y) :: D,h=>by
  by_cases c:k=x
  ·subst c;simp [dU] at h;subst h;exact KTD.eachL_hit rfl (KTD.opened_str q)
  ·have e:(k == x)=false:=beq_eq_false_iff_ne.mpr c;simp only [dU,e] at h;exact KTD.eachL_miss c (yL q h)
def rIxW (a:ak) (D:List (Str×Str)):R2:=fun x y H Q=>∃ k m,x=.ref a/\y=.str k/\D.lookup k=some m/\Q (.str m) H
theorem Iv {a:ak} {D:List (Str×Str)} (h:Tab X.K a D):IxR X (rIxW a D):=by
 intro value slice pins s σ H x y v u Q I rx ry q hs;obtain ⟨k,m,rfl,rfl,e,q⟩:=q
 cases rx;obtain ⟨t,rfl⟩:=ry;exact KTD.item_textA (h₀:=s.heap) ⟨Fi (fun b o e=>I.kIn b o e) h,fun _ _ e=>e⟩ (wL D) (xJ e) (yL (fun t=>⟨.str m,H,I.tok _,⟨_,rfl⟩,q⟩) e) hs
theorem C7 (hu:X.A.units + 50 < ic):OpR X (dA .NotEq) (fun x y H Q=>∃ p q xs,x=.ref p/\y=.ref q/\H p=some (.lst xs)/\H q=some (.lst [])/\Q (.bl (!xs.isEmpty)) H):=by
 intro pins s σ H x y v u Q I rx ry h;obtain ⟨p,q,xs,rfl,rfl,h1,h2,k⟩:=h
 cases xs with
 | nil=>exact Iu hu pins s σ H _ _ v u Q I rx ry ⟨1,p,q,by omega,rfl,rfl,.inr (.inl ⟨p,q,[],[],rfl,rfl,h1,h2,.nil⟩),k⟩
 | cons a xs =>
  cases rx
  cases ry;obtain ⟨us,r1,i1⟩:=gZ I.hok h1;obtain ⟨vs,r2,i2⟩:=gZ I.hok h2
  cases r2;have hl:=r1.length;exact sV i1 i2 (by
   cases us with
   | nil=>cases hl
   | cons b us=>simp) (by omega) X.prog X.w _ _ ⟨.bl true,H,I,rfl,k⟩
end
end L2
namespace PySem
open Sem (wp)
section
variable {prog:aQ} {w:bT} {A:bQ} {E:ag->ah->Prop} {s:ah}
end
section
variable {prog:aQ} {w:bT} {A:bQ} {R:mO->ah->Prop} {I:ak} {fp wr:List ak} {n:Nat} {P:Nat->ag->Prop} {St:Nat->cP->Prop} {G:cP->Prop}
end
section
variable {prog:aQ} {w:bT} {A:bQ} {E:ag->ah->Prop} {s:ah}
end
section
variable {prog:aQ} {w:bT} {K:Type} [DecidableEq K] {knd:HeapKind prog w K} {A:bQ} {E:ag->ah->Prop} {s:ah}
end
section
variable {prog:aQ} {w:bT} {A:bQ} {E:ag->ah->Prop} {s:ah}
end
end PySem
namespace HT
open PySem PyProof.Rows
open PySem.SeqAt
open PySem.AutoSeq1 (wpAny_loadPart')
open PySem.MeetsSeq PySem.MeetsSeq2 PySem.MeetsSeq3
end HT
namespace L2
open PySem PySem.Spec PyProof.Rows
section
variable {X:Cx}
open Classical in
theorem Fj {z:V} (h:sc0 z):HW z z=true:=by
 cases z with
 | non=>rfl
 | bl b=>rfl
 | int i=>rfl
 | str x=>rfl
 | byt b=>exact cQ h
 | flt b=>exact cQ h
 | ref a=>exact cQ h
 | ty a=>exact cQ h
theorem C8 (hu:X.A.units + 50 < ic):OpR X (dA .Eq) (fun x y H Q=>∃ n,n<=20/\TEq H n x y/\Q (.bl true) H):=by
 intro pins s σ H x y v u Q I rx ry h;obtain ⟨n,hn,d,q⟩:=h;have sc:∀ z,sc0 z->x=z->y=z->aY (aM X.prog X.w) X.A (dA .Eq v u) (EP X pins σ Q) X.xe s:=by
  rintro z hz rfl rfl;refine eD pins s σ H _ _ v u Q I rx ry ⟨Fj hz,?_⟩;rw [decide_eq_true rfl];exact q
 have rf:∀ p q',x=.ref p->y=.ref q'->aY (aM X.prog X.w) X.A (dA .Eq v u) (EP X pins σ Q) X.xe s:=fun p q' e1 e2 =>
  Ir hu pins s σ H x y v u Q I rx ry ⟨0,p,q',by omega,e1,e2,⟨n,hn,d⟩,q⟩
 cases n with
 | zero=>exact sc x d.1 rfl d.2.symm
 | succ n =>
  rcases d with ⟨h1,h2⟩ | ⟨p,q',_,_,e1,e2,_⟩ | ⟨p,q',_,_,e1,e2,_⟩
  ·exact sc x h1 rfl h2.symm
  ·exact rf p q' e1 e2
  ·exact rf p q' e1 e2
end
section
variable {X:Cx}
end
theorem C9 {n m:Nat} {g:TG} {tc:TT} {te:TE} {σ:St} {H:Hp} {Q:VK} (Pv:Nat->List V->Hp->Prop) (h0:Pv 0 [] H) (hl:∀ i ys H,i<=m->Pv i ys H->ys.length < aw)
  (hs:∀ i ys H,i < m->Pv i ys H->g (.int (0 + i)) (aJ n none++σ) H fun σ2 H2=>σ2.drop n=σ/\tc σ2 H2 fun b H3=>if b=true then te σ2 H3 fun y H4=>Pv (i + 1) (ys++[y]) H4 else Pv (i + 1) ys H3)
  (hd:∀ ys H,Pv m ys H->∀ p,H p=none->Q (.ref p) (upd H p (.lst ys))) :
  ∃ W:Nat->Nat->List V->Hp->Prop,(∃ k,W 0 k [] H)/\∀ i k ys H,W i k ys H->ys.length < aw/\(((Itr 0 m).stop i H/\∀ p,H p=none->Q (.ref p) (upd H p (.lst ys))) \/
   ((Itr 0 m).go i H/\∃ N:List V->Hp->Prop,(∀ ys' H',N ys' H'->∃ k',k' < k/\W (i + 1) k' ys' H')/\∀ x H',(Itr 0 m).yld i H x H'->g x (aJ n none++σ) H' fun σ2 H2=>σ2.drop n=σ/\tc σ2 H2 fun b H3 =>
    if b=true then te σ2 H3 fun y H4=>N (ys++[y]) H4 else N ys H3)):=by
 refine ⟨fun i k ys H=>k=m - i/\i<=m/\Pv i ys H,⟨m,by simp,aU _,h0⟩,?_⟩;rintro i k ys H ⟨rfl,hi,pv'⟩;refine ⟨hl i ys H hi pv',?_⟩
 by_cases lt:i < m
 ·refine .inr ⟨lt,Pv (i + 1),fun ys' H' p'=>⟨m - (i + 1),by omega,rfl,lt,p'⟩,fun x H' y=>?_⟩;obtain ⟨e,y⟩:=y;subst e y;exact hs i ys _ lt pv'
 ·have e:i=m:=by omega
  subst e;exact .inl ⟨ay _,hd ys H pv'⟩
def HC (Γ:ud):Prop:=Γ.below.any (fun x=>x.1.isCaller)=true
theorem HC.enter {Γ:ud} (h:HC Γ) (c:Code) (v:Option ag) (p:Pos):HC (Γ.enter c v p):=by
 unfold HC PySem.Ctx.enter;rw [jL,(show Γ.below.any (fun x=>x.1.isCaller)=true from h),tP]
def wpC {α:Type} (M:mB) (A:bQ) (t:Sem α) (Q:α->ah->Prop) (E:ag->ah->Prop) (s:ah):Prop:=
 ∀ (Γ:ud) (p:Pos),HC Γ->Γ.In A->Da M Γ t (fun a _ z=>Q a z) (fun e _ z=>E e z) p s
def gc (M:mB) (A:bQ) (c:Code) (R:mO->ah->Prop) (s:ah):Prop:=
 ∀ (Γ:ud) (p:Pos),HC Γ->Γ.code=c->Γ.Below A->wpCode M Γ R p s
section
variable {α β:Type} {M:mB} {A:bQ} {E E':ag->ah->Prop} {s:ah} {Q Q':α->ah->Prop} {c:Code} {R R':mO->ah->Prop}
theorem toC {t:Sem α} (h:aY M A t Q E s):wpC M A t Q E s:=fun Γ p _ i=>h Γ p i
theorem Dc (h:qg M A c R s):gc M A c R s:=fun Γ p _ e i=>h Γ p e i
theorem o5 {t:Sem α} (h:wpC M A t Q E s) (hQ:∀ a z,Q a z->Q' a z) (hE:∀ e z,E e z->E' e z):wpC M A t Q' E' s:=
 fun Γ p k i=>rL M Γ t (fun a _ z y=>hQ a z y) (fun e _ z y=>hE e z y) p s (h Γ p k i)
theorem lS {t:Sem α} (h:wpC M A t Q E s) (hQ:∀ a z,Q a z->Q' a z):wpC M A t Q' E s:=o5 h hQ fun _ _ y=>y
theorem dZ {m:Sem α} {f:α->Sem β} {P:β->ah->Prop} (h:wpC M A m (fun a z=>wpC M A (f a) P E z) E s):wpC M A (m >>= f) P E s:=fun Γ p k i=>by
 rw [uf];exact rL M Γ m (fun a q z y=>y Γ q k i) (fun _ _ _ y=>y) p s (h Γ p k i)
theorem cM {m:Sem α} {f:α->Sem β} {P:β->ah->Prop} (h:aY M A m (fun a z=>wpC M A (f a) P E z) E s):wpC M A (m >>= f) P E s:=dZ (toC h)
theorem sx {m:Sem α} {k:ag->Sem Unit} (h:wpC M A m Q (fun e z=>wpC M A (k e) (fun _ y=>E e y) E z) s):wpC M A (m.onRaise k) Q E s:=fun Γ p hk i=>by
 rw [Sem.wp_onRaise];exact rL M Γ m (fun _ _ _ y=>y) (fun e q z y=>y Γ q hk i) p s (h Γ p hk i)
theorem yM {m:Sem α} {P:Except ag α->ah->Prop} (h:wpC M A m (fun a=>P (.ok a)) (fun e=>P (.error e)) s):wpC M A m.attempt P E s:=fun Γ p k i=>by
 rw [Sem.wp_attempt];exact h Γ p k i
theorem o6 {vs:List ag} {m:Sem α} (h:wpC M A m Q E s):wpC M A (nG vs m) Q E s:=fun Γ p k i=>by
 rw [Sem.wp_holding];exact h Γ p k i
theorem jI (h:gc M A c R s) (hR:∀ r z,R r z->R' r z):gc M A c R' s:=fun Γ p k e i=>wpCode_mono hR (h Γ p k e i)
theorem runC {h:Option ag} {P:Flow->ah->Prop} (hc:gc M (A.mark h) c (fun r z=>match r with | .ok f=>P f z | .error e=>E e z) s) (hb:h≠some byPass:=by intro x; cases x):wpC M A (run c h) P E s:=fun Γ p k i=>by
 rw [Sem.wp_run];exact hc _ p (k.enter c h p) rfl (i.enter c h p hb)
theorem Bw {P:ag->ah->Prop} (hc:gc M A c (fun r z=>match r with | .ok (.ret v)=>P v z | .ok _=>False | .error e=>E e z) s):wpC M A (runValue c) P E s:=fun Γ p k i=>by
 rw [Gu];exact hc _ p (k.enter c none p) rfl (i.enter c none p (by intro x; cases x))
theorem xM {f:ag} {us:List ag} {P:ag->ah->Prop} (hc:gc M A (.call f ⟨us,[]⟩) (fun r z=>match r with | .ok (.ret v)=>P v z | .ok _=>False | .error e=>E e z) s):wpC M A (sX f us) P E s:=Bw hc
theorem AR {env:Env} {h:Option ag} {P:Flow->ah->Prop} (hc:gc M (A.mark h) c (fun r z=>match r with | .ok f=>P f z | .error e=>cameBackBy M A env E e z) s) (hb:h≠some byPass:=by intro x; cases x):wpC M A (runOwn c env h) P E s:=by
 unfold runOwn;refine sx (runC (jI hc fun r z y=>?_) hb)
 cases r with
 | ok f=>exact y
 | error e=>exact toC y
theorem va (h:wpC M (A.under c) (M.den c) (fun fin z=>match fin with | .done f=>R (.ok f) z | .again d=>d.quiet=true/\gc M A d R z) (fun e z=>R (.error e) z) s):gc M A c R s:=fun Γ p k e i=>by
 rw [wpCode_iff_wp,e];refine rL M Γ _ (fun fin q z y=>?_) (fun _ _ _ y=>y) p s (h Γ p k (e ▸ i.in))
 cases fin with
 | done f=>exact y
 | again d=>exact ⟨y.1,y.2 (Γ.goto d) q k rfl (i.goto d)⟩
theorem Dd (hq:c.quiet=true) (I:Nat->ah->Prop)
  (turn:∀ n z,I n z->wpC M (A.under c) (M.den c) (fun fin y=>match fin with | .done f=>R (.ok f) y | .again d=>(d=c/\∃ m,m < n/\I m y)\/(d.quiet=true/\gc M A d R y)) (fun e y=>R (.error e) y) z)
  (n:Nat) (h:I n s):gc M A c R s:=by
 induction n using Nat.strongRecOn generalizing s with
 | ind n ih =>
  refine va (lS (turn n s h) fun fin z y=>?_)
  cases fin with
  | done f=>exact y
  | again d =>
   rcases y with ⟨rfl,m,hm,hI⟩ | y
   ·exact ⟨hq,ih m hm hI⟩
   ·exact y
theorem z9 {env:Env} {m:Sem α} (h:wpC M A m Q (qj M A env E) s):wpC M A (m.onRaise fun x=>do jw x env; oK x) Q E s:=
 sx (o5 h (fun _ _ y=>y) fun _ _ y=>toC (ae (cE y (fun _ _ e=>wpAny_theTreesLotGoes e) fun _ _ e=>e)))
end
section
variable {prog:aQ} {w:bT} {A:bQ} {E:ag->ah->Prop} {s:ah} {R:mO->ah->Prop} {env:Env}
theorem Aa {st:di} {rest:List di} {Q:Flow->ah->Prop} {M:mB} (h:wpC M A (exec st env) (fun f z=>match f with | .next=>wpC M A (vL rest env) Q E z | f=>Q f z) E s):wpC M A (vL (st :: rest) env) Q E s:=by
 rw [execs_cons];refine dZ (lS h fun f z y=>?_)
 cases f <;> first | exact y | exact toC (av y)
theorem funcC {body:List di} (h:wpC (aM prog w) (A.deeper env) (vL body env) (fun f z=>R (.ok (.ret (match f with | .ret v=>v | _=>.none))) z)
   (fun e z=>aY (aM prog w) (A.deeper env) (tO env e) (fun _ y=>R (.error e) y) (fun e' y=>R (.error e') y) z) s):gc (aM prog w) A (.func body env) R s:=by
 refine va ?_;show wpC _ (A.deeper env) (do point; match <- (vL body env).onRaise (tO env) with | .ret v=>ret v | _=>ret .none) _ _ s;refine cM (qk (dZ (sx (o5 h (fun f z y=>?_) fun _ _ y=>toC y))))
 cases f <;> exact toC (av y)
theorem Fk {a:ak} {args:Args} {o:Obj} {fd:cF} {body:List di} (hr:A.depth < zK) (ho:s.heap.get? a=some o) (hd:o.data=.func fd) (hco:fd.scope.isCoroutine=false) (hg:fd.scope.isGenerator=false) (hbd:fd.body=.stmts body) (hcd:s.heap.CodeRec fd.code fd.qualname)
  (h:aY (aM prog w) A.in1 (vR fd args) (fun bs z=>aY (aM prog w) A.in1 (newFunctionEnv fd.scope fd.globals fd.closure bs (fd.qualname++".<locals>.") (some a) fd.code none fd.builtins)
    (fun en y=>y.heap.NoLimit/\gc (aM prog w) A (.func body en) R y) (fun e y=>R (.error e) y) z) (fun e y=>R (.error e) y) s):gc (aM prog w) A (.call (.ref a) args) R s:=by
 refine va ?_;show wpC _ A.in1 (Jh (.ref a) args) _ _ s;simp only [Jh];obtain ⟨c,oc,vs,tq,hc,hoc,hdc,hq⟩:=hcd;refine cM (wpAny_load ho ?_);simp only [hd,callFunction,hco,hg,hbd,hc];rw [hc] at h;refine cM (m:=field (.ref c) 1) (i5 hoc hdc hq (cM (av ?_)));refine cM (cE h (fun bs z h1=>cM (cE h1 (fun en y h2=>?_) fun _ _ x=>x)) fun _ _ x=>x);exact cM (wpAny_enterFrame h2.1 hr (toC (av (And.intro rfl h2.2))))
theorem Dg {target:cI} {it:ag} {body orelse:List di} (I:Nat->ah->Prop)
  (turn:∀ n z,I n z->aY (aM prog w) A (Ct it) (fun r z1=>match r with
   | none=>aY (aM prog w) A (vL orelse env) (fun f y=>R (.ok f) y) (qj (aM prog w) A env fun e y=>R (.error e) y) z1
   | some v=>aY (aM prog w) A (jm target it v) (fun _ z2=>aY (aM prog w) A (pF target env v) (fun _ z3=>wpC (aM prog w) A (vL body env) (fun f y=>match f with
      | .next | .cont=>∃ m,m < n/\I m y
      | .brk=>R (.ok .next) y
      | .ret v=>R (.ok (.ret v)) y) (qj (aM prog w) A env fun e y=>R (.error e) y) z3) (qj (aM prog w) A env fun e y=>R (.error e) y) z2) (qj (aM prog w) A env fun e y=>R (.error e) y) z1) (qj (aM prog w) A env fun e y=>R (.error e) y) z)
  (n:Nat) (h:I n s):gc (aM prog w) A (.forLoop target it body orelse env) R s:=by
 refine Dd rfl I (fun n z hI=>?_) n h;show wpC _ A ((forTurn target it body orelse env).onRaise (fun x=>do jw x env; oK x)) _ _ z;refine z9 ?_;simp only [forTurn];refine cM (bU (dZ (sx (o5 (toC (turn n z hI)) (fun r z1 h1=>?_) fun _ _ y=>toC (bU y)))))
 cases r with
 | none=>exact toC (av (.inr ⟨rfl,Dc (codeAny_block h1)⟩))
 | some v =>
  refine cM (cE h1 (fun _ z2 h2=>?_) fun _ _ y=>y);refine cM (cE h2 (fun _ z3 h3=>dZ (lS h3 fun f y h4=>?_)) fun _ _ y=>y)
  cases f with
  | next=>exact toC (av (.inl ⟨rfl,h4⟩))
  | cont=>exact toC (av (.inl ⟨rfl,h4⟩))
  | brk=>exact toC (av h4)
  | ret v=>exact toC (av h4)
theorem tryC {body:List di} {h₀:nJ} {hs:List nJ} {pos:Pos} {Q:Flow->ah->Prop}
  (h:wpC (aM prog w) A (vL body env) (fun f z=>match f with | .next=>aY (aM prog w) A (vL [] env) Q E z | f=>Q f z)
   (fun e z=>aY (aM prog w) A (jw e env) (fun _ z1=>aY (aM prog w) A (xE e none) (fun _ z2=>aY (aM prog w) A (handleBy e env (h₀ :: hs)) Q E z2) E z1) E z) s) :
  wpC (aM prog w) A (exec (.Try body (h₀ :: hs) [] [] pos) env) Q E s:=by
 rw [arm_exec_Try];refine cM (bU ?_);unfold tryStmt;simp only [List.isEmpty_nil,if_true,List.isEmpty_cons,oi,j0,if_false];refine dZ (yM (o5 h (fun f z y=>?_) fun e z y=>?_))
 ·cases f <;> first | exact toC y | exact toC (av y)
 ·exact toC (ae (cE y (fun _ _ y2=>ae y2) fun _ _ x=>x))
end
def PEC (X:Cx) (e:cI) (t:TE):Prop:=
 ∀ (pins:List (ak×Obj)) (s:ah) (σ:St) (H:Hp) (Q:VK),Inv X pins σ H s->t σ H Q->wpC (aM X.prog X.w) X.A (dE e X.env) (EP X pins σ Q) X.xe s
def PSC (X:Cx) (st:di) (t:TS):Prop:=
 ∀ (pins:List (ak×Obj)) (s:ah) (σ:St) (H:Hp) (D:Ends),Inv X pins σ H s->t D σ H->wpC (aM X.prog X.w) X.A (exec st X.env) (SP X pins D) X.xe s
def PSsC (X:Cx) (st:List di) (t:TS):Prop:=
 ∀ (pins:List (ak×Obj)) (s:ah) (σ:St) (H:Hp) (D:Ends),Inv X pins σ H s->t D σ H->wpC (aM X.prog X.w) X.A (vL st X.env) (SP X pins D) X.xe s
structure dP (P:aQ) (w:bT) (K:ai) (mg:Str->Option ag) (base:cP) (CX:CXT) (k:Nat) (f:ak) (fd:cF) (ps:List Str) (sp:Sp):Prop where
 len:∀ vs H Q E,sp vs H Q E->vs.length=ps.length
 run:∀ (A:bQ) (outer:List Env) (s:ah) (H:Hp) (args:Args) (us:List ag) (vs:List V) (Q:VK) (E:XK),dj k A->yy P w K mg base A outer s H->tN s fd args (ps.zip us)->dv vs us->sp vs H Q E ->
  gc (aM P w) A (.call (.ref f) args) (CR CX outer P w H s Q E) s
section
variable {X:Cx} {st:di} {rest:List di} {t u:TS} {e:cI} {te:TE} {pos:Pos}
theorem PE.c (h:PE X e te):PEC X e te:=fun pins s σ H Q I q=>toC (h pins s σ H Q I q)
theorem PS.c (h:PS X st t):PSC X st t:=fun pins s σ H D I q=>toC (h pins s σ H D I q)
theorem PSs.c (h:PSs X rest t):PSsC X rest t:=fun pins s σ H D I q=>toC (h pins s σ H D I q)
theorem aR (h1:PSC X st t) (h2:PSsC X rest u):PSsC X (st :: rest) (EM t u):=by
 intro pins s σ H D I h;refine Aa (lS (h1 pins s σ H {D with nx:=u D} I h) fun f s1 q=>?_)
 cases f with
 | next =>
  obtain ⟨σ',H',I',q⟩:=q;exact h2 pins s1 σ' H' D I' q
 | ret v=>exact q
 | brk=>exact q
 | cont=>exact q
theorem hJ (h1:PSC X st t):PSsC X [st] t:=by
 intro pins s σ H D I h;refine Aa (lS (h1 pins s σ H D I h) fun f s1 q=>?_)
 cases f with
 | next=>exact toC (fG q)
 | ret v=>exact q
 | brk=>exact q
 | cont=>exact q
theorem pQ (he:PEC X e te):PSC X (.Return (some e) pos) (vN te):=by
 intro pins s σ H D I h;rw [exec_Return_some];exact cM (bU (dZ (lS (he pins s σ H _ I h) fun v s1 ⟨x,H1,I1,r1,q1⟩=>toC (av ⟨x,σ,H1,I1,r1,q1⟩))))
theorem iG {i:Nat} {x:Str} {pos':Pos} (hN:X.N.Nodup) (hi:X.N[i]?=some x) (hx:Loc X.env.scope x) (he:PEC X e te) (hs:mI e (some (.Name x pos')) pos.line X.env=pure false:=by rfl) (hf:X.fn x=true\/X.env.scope.names.lookup x=some .local:=by first | exact .inl rfl | exact .inr rfl | assumption) :
  PSC X (.Assign [.Name x pos'] e pos) (Bk te (uG i)):=by
 intro pins s σ H D I h;rw [exec_Assign_Name X.env x pos' e pos hs];refine cM (bU (dZ (lS (he pins s σ H _ I h) fun v s1 ⟨y,H1,I1,r1,q1⟩=>?_)));refine toC (ae (bU (ae (Ab ?_))));exact oS I1 hN hi hx r1 (fun s2 I2=>av ⟨_,H1,I2,q1⟩) hf
theorem vb {c:cI} {a b:List di} {tc:TT} (hc:PT X c tc) (ha:PSsC X a t) (hb:PSsC X b u):PSC X (.If c a b pos) (vO tc t u):=by
 intro pins s σ H D I h;rw [exec_If];refine cM (bU (cM (thn (hc pins s σ H _ I h) fun d s1 ⟨H1,I1,q1⟩=>?_)))
 cases d with
 | true=>exact ha pins s1 σ H1 D I1 q1
 | false=>exact hb pins s1 σ H1 D I1 q1
end
section
variable {X:Cx} {CX:CXT} {k:Nat} {f:ak} {fd:cF} {ps:List Str} {sp:Sp} {dvs:List V} {ds:List ag} {E:XK} {x:Str} {p pos:Pos} {e:cI} {es:List cI} {t:TA}
theorem Fl {pins:List (ak×Obj)} {σ:St} {H:Hp} {s:ah} {Q:VK} {us:List ag} {vs:List V} (F:dP X.prog X.w X.K X.mg X.base CX k f fd ps sp) (hr:dj k X.A) (hb:Binds X.K fd ps ds) (hd:dv dvs ds) (hx:oI CX X E)
  (I:Inv X pins σ H s) (r:dv vs us) (h:sp (vs++dvs) H Q E):wpC (aM X.prog X.w) X.A (sX (.ref f) us) (EP X pins σ Q) X.xe s:=by
 have r2:dv (vs++dvs) (us++ds):=r.append hd;have hl:(us++ds).length=ps.length:=by rw [<- r2.length]; exact F.len _ _ _ _ h
 refine xM (jI (F.run X.A X.stack s H ⟨us,[]⟩ (us++ds) (vs++dvs) Q E hr I.env0 (hb s us I.kIn hl) r2 h) fun r s' hq=>?_)
 cases r with
 | error e=>exact hx pins σ H s e s' I hq
 | ok fl =>
  cases fl with
  | ret u=>exact I.after hq
  | next=>exact cQ hq
  | brk=>exact cQ hq
  | cont=>exact cQ hq
theorem keepC {α:Type} {M:mB} {A:bQ} {E:ag->ah->Prop} {s:ah} {vs:List ag} {m:Sem α} {Q:α->ah->Prop} (h:wpC M A m Q E s):wpC M A (m.keep vs) Q E s:=fun Γ p k i=>by
 rw [Sem.wp_keep];exact h Γ p k i
theorem wM {M:mB} {A:bQ} {E:ag->ah->Prop} {s:ah} {K:ai} {g:ag} {Q:ag->ah->Prop} {args:List (Bool×Sem ag)} (hp:args.any (·.1)=false) (hk:dY K g=true)
  (h:aY M A (evalArgs g true args []) (fun a z=>K.In z.heap/\wpC M A (sX g a.pos a.kw) Q E z) E s):wpC M A (ky pos g [] args []) Q E s:=by
 unfold ky;refine cM (bH (cE h (fun a z h1=>cM (bU ?_)) fun _ _ y=>y));obtain ⟨kp,hk',L⟩:=PySem.W.keeps_K (M:=M) hk _ h1.1;have hp':(args.any (·.1) || ([]:List (Option Str×Sem ag)).any (·.1.isNone))=false:=by rw [hp]; rfl
 simp only [hp'];refine cM (L.here ?_);have tail:∀ {m:Sem ag},wpC M A m Q E z->wpC M A (m >>= fun r=>nG [r] point >>= fun _=>pure r) Q E z:=
  fun hm=>dZ (lS hm fun r y hr=>toC (ae (bH (qk (av hr)))))
 have mk:∀ v,wpC M A (callMarked v g ([]++a.pos) a.kw) Q E z:=fun v=>by unfold callMarked; exact keepC h1.2
 rcases hk' with rfl | rfl | rfl <;> dsimp only <;> first | exact tail h1.2 | (split <;> first | exact tail h1.2 | exact tail (mk _))
theorem dq (F:dP X.prog X.w X.K X.mg X.base CX k f fd ps sp) (hr:dj k X.A) (hg:Gl X x) (hm:X.mg x=some (.ref f)) (hk:dY X.K (.ref f)=true) (hb:Binds X.K fd ps ds) (hd:dv dvs ds) (hx:oI CX X E)
  (ha:PA X (e :: es) t) (hdb:(x == ("__debug__":Str))=false:=by decide) (he:bB (e :: es) X.env=(false,dE e X.env) :: bB es X.env:=by rfl) (hpl:(eR pos (bB es X.env)).any (·.1)=false:=by rfl) :
  PEC X (.Call (.Name x p) (e :: es) [] pos) (AI sp dvs E t):=by
 intro pins s σ H Q I h;rw [ug];refine cM (pA I hg hm ?_ hdb);have h1:=ha pos pins s σ H _ I h;show wpC _ _ (ky pos (.ref f) [] (eR pos (bB (e :: es) X.env)) []) _ _ s;rw [he] at h1 |-;refine wM (K:=X.K) ?_ hk (lH (cE h1 (fun us s1 z=>?_) fun _ _ y=>y))
 ·show (false || (eR pos (bB es X.env)).any (·.1))=false;rw [hpl];rfl
 ·obtain ⟨vs,H1,I1,r,q⟩:=z;exact ⟨I1.kIn,Fl F hr hb hd hx I1 r q⟩
end
section
variable {X:Cx} {tg:cI}
theorem ur {iter:cI} {body:List di} {wi:TI} {g:TG} {tb:TS} {pos:Pos} (hp:xk (aM X.prog X.w) X.A X.env X.xe) (hc:X.calm=true) (hi:PI X tg iter wi) (hg:PG X tg g) (hb:PSsC X body tb)
  (hs:∀ x,gG iter X.env x=pure x:=by intro _; rfl):PSC X (.For tg iter body [] pos) (tFor wi g tb):=by
 intro pins s σ H D I h;rw [exec_For];refine cM (bU (cM (thn (hi pins s σ H _ I h) fun v s1 h1=>?_)));refine cM (eO (hs v) (cM (bU (cM (bH (thn h1 fun itv s2 h2=>?_))))));obtain ⟨it,fp,tn,J,H2,e,I2,T,st2,f2,W,⟨m0,w0⟩,turn⟩:=h2;subst e;have stat:∀ {H':Hp},(∀ b∈fp,H' b=none)->∀ b∈fp,xm X pins H' b:=fun hn b hb=>⟨hn b hb,(f2 b hb).2⟩;refine AR ?_;refine Dg (fun n s'=>∃ i σ' H',Inv X pins σ' H' s'/\tn i s'.heap/\(∀ b∈fp,H' b=none)/\W i n σ' H') ?_ m0 ⟨0,σ,H2,I2,st2,fun b hb=>(f2 b hb).1,w0⟩;rintro n s3 ⟨i,σ3,H3,I3,st3,fr3,w3⟩
 rcases turn i n σ3 H3 w3 with ⟨stop,qn⟩ | ⟨go,N,hN,step⟩
 ·refine eA hp (thn (T.done X rfl rfl rfl hc i pins s3 σ3 H3 X.xe I3 (stat fr3) st3 stop) fun r s4 ⟨hr,I4⟩=>?_);subst hr;exact fG ⟨σ3,H3,I4,qn⟩
 ·refine eA hp (thn (T.item X rfl rfl rfl hc i pins s3 σ3 H3 X.xe I3 (stat fr3) st3 go) fun r s4 ⟨u,hr,h4⟩=>?_);subst hr;refine eA hp (thn h4 fun _ s5 ⟨x,H5,I5,r5,y5,st5,fr5⟩=>?_);have I5':=I5.pinned (stat fr5) (T.obj _ _ st5);refine eA hp (thn (hg _ s5 σ3 H5 x u _ I5' r5 (step x H5 y5)) fun _ s6 ⟨σ6,H6,I6,q6⟩=>?_);refine o5 (hb _ s6 σ6 H6 _ I6 q6) (fun f s7 q7=>?_) (fun e z y=>hp e z y);have again:∀ {σ7:St} {H7:Hp},Inv X (pins++pG fp s5.heap) σ7 H7 s7->N σ7 H7->∃ m,m < n/\∃ i σ' H',Inv X pins σ' H' s7/\tn i s7.heap/\(∀ b∈fp,H' b=none)/\W i m σ' H':=fun {σ7 H7} I7 n7=>by
   obtain ⟨m',hm,w7⟩:=hN σ7 H7 n7;refine ⟨m',hm,i + 1,σ7,H7,I7.unpinned,T.keep _ _ _ st5 fun b hb o e=>(I7.pin (b,o) (aP _ (aP _ (i8 hb e)))).1,fun b hb=>?_,w7⟩;obtain ⟨o,e,d⟩:=T.obj _ _ st5 b hb;exact (I7.pin (b,o) (aP _ (aP _ (i8 hb e)))).2.1
  cases f with
  | next=>obtain ⟨σ7,H7,I7,n7⟩:=q7; exact again I7 n7
  | cont=>obtain ⟨σ7,H7,I7,n7⟩:=q7; exact again I7 n7
  | brk=>obtain ⟨σ7,H7,I7,q7⟩:=q7; exact ⟨σ7,H7,I7.unpinned,q7⟩
  | ret v=>obtain ⟨x7,σ7,H7,I7,r7,q7⟩:=q7; exact ⟨x7,σ7,H7,I7.unpinned,r7,q7⟩
end
section
variable {P:aQ} {w:bT} {K:ai} {mg:Str->Option ag} {base:cP} {CX:CXT} {k:Nat} {f:ak}
theorem Di {name qual:Str} {params:Arguments} {body:List di} {scope:kO} {dV kV doc pm cdv ct oc:ag} {an od:Option ak}
  {osl:Array (Option ag)} {N ps:List Str} {sp:Sp} (lk:K.lookup f=some ⟨oc,od,.func (eZ name qual params body scope dV kV doc pm an cdv ct),osl⟩) (hcd:j8 K cdv qual=true) (S:cK N ps scope)
  (len:∀ vs H Q E,sp vs H Q E->vs.length=ps.length)
  (hbody:∀ (A:bQ) (outer:List Env) (s:ah) (H:Hp) (vs:List V) (Q:VK) (E:XK),dj k (A.deeper (qx qual scope s.heap.objs.size f cdv))->sp vs H Q E ->
   ∃ t,PSsC (t4 CX P w K mg base N qual scope f cdv A outer s H E) body t/\t {nx:=fun _ H'=>Q .non H',rt:=Q} (start N vs) H) :
  dP P w K mg base CX (k + 1) f (eZ name qual params body scope dV kV doc pm an cdv ct) ps sp:=by
 refine ⟨len,fun A outer s H args us vs Q E hr e0 hb r hsp=>?_⟩;have hl:=len _ _ _ _ hsp;have KX:K.In s.heap:=e0.mod.kin.keeps fun b o e=>(e0.bs b o e).1;have lim:s.heap.NoLimit:=e0.mod.nolimit.keeps fun b o e=>(e0.bs b o e).1;have hkind:∀ y∈ps.zip us,scope.names.lookup y.1=some .local\/(scope.names.lookup y.1=some .cell/\((Cd (s.heap.objs.size + 1) scope.names []).lookup y.1).isSome=true):=fun ⟨n,v⟩ hy=>by
  rcases S.par n (qw hy).1 with q | q
  ·exact .inl q
  ·exact .inr ⟨q,pJ _ _ _ (.inl q)⟩
 refine Fk hr.depth (KX _ _ lk) rfl S.co S.gen rfl (zP KX hcd) (hb _ _ _ _ ?_);refine zQ S.kind hkind fun env he s1 x=>?_;subst he;refine ⟨lim.keeps x.toInCall.keep,funcC ?_⟩;obtain ⟨t,ht,hq⟩:=hbody A outer s H vs Q E (hr.deeper _) hsp;have I:Inv (t4 CX P w K mg base N qual scope f cdv A outer s H E) [] (start N vs) H s1:=wF S hr.hd e0 hl r x;refine o5 (ht [] s1 (start N vs) H _ I hq) (fun fl s' hs=>?_) fun e s' hs=>hs;have fin:∀ {σ':St} {H':Hp} {v:V} {u:ag},Inv (t4 CX P w K mg base N qual scope f cdv A outer s H E) [] σ' H' s'->RelV v u->Q v H'->CE outer P w H s Q u s':=
  fun {σ' H' v u} J rv q=>⟨v,H',J.os,J.bare,J.base,J.hok,rv,q⟩
 cases fl with
 | ret u =>
  obtain ⟨v,σ',H',J,rv,q⟩:=hs;exact fin J rv q
 | next =>
  obtain ⟨σ',H',J,q⟩:=hs;exact fin (v:=V.non) (u:=Value.none) J rfl q
 | brk =>
  obtain ⟨_,_,_,q⟩:=hs;exact cQ q
 | cont =>
  obtain ⟨_,_,_,q⟩:=hs;exact cQ q
theorem PSsC.nox {X:Cx} {st:List di} {t:TS} (h:PSsC X.nox st t):PSsC X st t:=fun pins s σ H D I hw =>
 o5 (h pins s σ H D (I.wish _) hw) (fun _ _ q=>q.unwish) fun _ _ z=>cQ z
theorem Fun.okC {x qual:Str} {st:di} {fd:cF} {N ps:List Str} {sp:Sp} (F:Fun K x qual st f fd) (S:cK N ps (aZ st)) (len:∀ vs H Q E,sp vs H Q E->vs.length=ps.length)
  (hbody:∀ (cdv:ag) (A:bQ) (outer:List Env) (s:ah) (H:Hp) (vs:List V) (Q:VK) (E:XK),dj k (A.deeper (qx qual (aZ st) s.heap.objs.size f cdv))->sp vs H Q E ->
   ∃ t,PSsC (t4 CX0 P w K mg base N qual (aZ st) f cdv A outer s H E).nox (jB st) t/\t {nx:=fun _ H'=>Q .non H',rt:=Q} (start N vs) H):dP P w K mg base CX0 (k + 1) f fd ps sp:=by
 obtain ⟨oc,od,kV,doc,pm,an,cdv,ct,osl,rfl,lk,hcd⟩:=F.ex;refine Di lk hcd S len fun A outer s H vs Q E hr hsp=>?_;obtain ⟨t,h,q⟩:=hbody cdv A outer s H vs Q E hr hsp;exact ⟨t,h.nox,q⟩
end
section
variable {M:mB} {A:bQ} {E:ag->ah->Prop} {s:ah}
theorem markC {own:List String} {e:ag} {Q:Unit->ah->Prop} (h:Q () s):wpC M A (Ac own e) Q E s:=fun Γ p k i=>by
 have no:sy own (((Γ.code,p) :: Γ.below).map (·.1))=false:=by
  unfold sy;have y:(((Γ.code,p) :: Γ.below).map (·.1)).any (fun c=>match c with | .builtin "claim.caller" _=>true | _=>false)=true:=by
   rw [List.any_map,jL];rw [show Γ.below.any ((fun c=>match c with | .builtin "claim.caller" _=>true | _=>false) ∘ (fun x:Code×Pos=>x.1))=true from k,tP]
  cases z:(_ && _:Bool) with
  | false=>rfl
  | true =>
   simp only [cY,je] at z;exact absurd (z.1.1.symm.trans y) aX
 unfold Ac;rw [uf];show Da M Γ (if sy own (((Γ.code,p) :: Γ.below).map (·.1))=true then _ else _) _ _ p s;rw [no,if_neg aX];exact h
end
theorem iteC {α:Type} {M:mB} {A:bQ} {E:ag->ah->Prop} {s:ah} {c:Prop} [Decidable c] {a b:Sem α} {Q:α->ah->Prop} (hc:c) (h:wpC M A a Q E s):wpC M A (if c then a else b) Q E s:=by
 rw [if_pos hc];exact h
theorem rA {α:Type} {M:mB} {A:bQ} {E:ag->ah->Prop} {s:ah} {c:Prop} [Decidable c] {a b:Sem α} {Q:α->ah->Prop} (hc:¬ c) (h:wpC M A b Q E s):wpC M A (if c then a else b) Q E s:=by
 rw [if_neg hc];exact h
open PySem.W in
theorem AS {prog:aQ} {w:bT} {A:bQ} {E:ag->ah->Prop} {s:ah} {Q:ag->ah->Prop} {x:Str} {u:Tok} {f:String} (hf:(bj f).length<=1000) (hl:(lI x).length<=10000) (hh:A.handled=none)
  (h:∀ h' e vs t,nK s.heap h' e "ValueError" vs->E (.ref e) {s with heap:=h',toks:=t}) :
  wpC (aM prog w) A (do
   let shown <- pyRepr (.str x u)
   let m <- mkStr ((bj f)++⟨shown.cps.extract 0 200⟩)
   let r <- newExc (.type "ValueError") [m]
   Ac ["int.__new__"] r
   raiseNew r) Q E s:=by
 obtain ⟨hp,g,d,tk,os⟩:=s;have big:(10000:Nat)<=aw:=by decide
 refine cM (wpAny_pyRepr_str ?_ (bN hl big));refine cM (wpAny_mkStr ?_ ?_)
 ·refine cM (wpAny_newExc_plain plainExc_ValueError (fun h' e m=>?_) (by show 1<=aw; decide));refine dZ (markC (toC (Gv hh ?_)));exact h h' e _ _ m
 ·refine bN ?_ big;have e:((bj f)++(⟨(lI x).cps.extract 0 200⟩:Str)).length=(bj f).length + ((lI x).cps.extract 0 200).size:=by
   show ((bj f).cps++(lI x).cps.extract 0 200).size=_;rw [kz];rfl
  rw [e,Array.size_extract];omega
theorem Fm {prog:aQ} {w:bT} {A:bQ} {E:ag->ah->Prop} {s:ah} {Q:ag->ah->Prop} {x:Str} {u:Tok} (hl:x.length<=640) (hrp:(lI x).length<=10000) (hn:dI x=none) (hh:A.handled=none)
  (h:∀ h' e vs t,nK s.heap h' e "ValueError" vs->E (.ref e) {s with heap:=h',toks:=t}) :
  wpC (aM prog w) A ((int_private% "intFromText") (.str x u) (numTextOf x) 10) Q E s:=by
 have hs:(tQ x).length<=640:=bN (seen_length x) hl;refine iteC hs (cM (av ?_))
 rcases read0 x hs with ⟨m,h1,_⟩ | ⟨_,hr | ⟨m,hr,hne⟩⟩
 ·rw [hn] at h1
  cases h1
 ·have hr':=hr;unfold tQ at hr';dsimp only;rw [hr'];refine cM (eO (a:=none) rfl ?_);refine rA (by simp) ?_;refine cM (Ad (cM (eO (a:=none) rfl ?_)));exact AS (by decide +kernel) hrp hh h
 ·have hr':=hr;unfold tQ at hr';dsimp only;rw [hr'];refine rA hne ?_;refine cM (Ad (cM (eO (a:=none) rfl ?_)));exact AS (by decide +kernel) hrp hh h
open PySem.W in
theorem Iw {prog:aQ} {w:bT} {A:bQ} {E:ag->ah->Prop} {s:ah} {Q:ag->ah->Prop} {x:Str} {u:Tok} (hl:x.length<=640) (hrp:(lI x).length<=10000) (hn:dI x=none) (hh:A.handled=none)
  (h:∀ h' e vs t,nK s.heap h' e "ValueError" vs->E (.ref e) {s with heap:=h',toks:=t}) :
  wpC (aM prog w) A ((int_private% "intFromObject") (.str x u)) Q E s:=by
 have f3:=KIN.str_int;have f4:=KIN.str_idx;have f5:=KIN.str_trunc;have f6:CQ (.str x u)=pure (.type "str"):=rfl;refine cM ?_
 repeat (first | assumption | wp_step)
 refine cM ?_
 repeat (first | assumption | wp_step)
 refine rA (by simp) ?_;refine cM ?_
 repeat (first | assumption | wp_step)
 refine cM (eO (a:=some (numTextOf x)) rfl ?_);exact Fm hl hrp hn hh h
open PySem.W in
theorem Iy {prog:aQ} {w:bT} {A:bQ} {E:ag->ah->Prop} {s:ah} {Q:Fin->ah->Prop} {x:Str} {u:Tok} (hl:x.length<=640) (hrp:(lI x).length<=10000) (hn:dI x=none) (hh:A.handled=none)
  (h:∀ h' e vs t,nK s.heap h' e "ValueError" vs->E (.ref e) {s with heap:=h',toks:=t}) :
  wpC (aM prog w) A (oZ.«int.__new__» ⟨[.type "int",.str x u],[]⟩) Q E s:=by
 unfold oZ.«int.__new__»;dsimp only;refine cM (eO (a:=true) rfl ?_);refine rA (by simp) ?_;refine cM (eO F.conv_sub_int ?_);refine rA (by simp) ?_;refine cM (eO F.madeHere_int ?_);refine rA (by simp) ?_;refine rA (by simp) ?_;refine cM (eO (a:=PUnit.unit) rfl ?_);refine dZ ?_;refine o5 (Q:=fun _ _=>False) ?_ (fun _ _ z=>z.elim) (fun _ _ z=>z);refine Iw hl hrp hn hh h
section
variable {prog:aQ} {w:bT} {A:bQ} {s:ah} {R:mO->ah->Prop}
theorem yN {id:String} {args:Args} {b:oZ} (hb:entryFor table id=some b)
  (h:wpC (aM prog w) (A.under (.builtin id args)) (b args) (fun fin z=>match fin with | .done f=>R (.ok f) z | .again d=>d.quiet=true/\gc (aM prog w) A d R z) (fun e z=>R (.error e) z) s) :
  gc (aM prog w) A (.builtin id args) R s:=by
 refine va ?_;show wpC _ _ (match entryFor table id with | some b=>b args | none=>unsupported ((withoutEnding? id "#data").getD id)) _ _ s;rw [hb];exact h
theorem xN {id:String} {args:Args} (hq:(Code.builtin id args).quiet=true) (hc:jX id args=pure ()) (h:gc (aM prog w) A (.builtin id args) R s):gc (aM prog w) A (.call (.builtin id) args) R s:=by
 refine va ?_;show wpC _ A.in1 (do jX id args; again (.builtin id args)) _ _ s;exact cM (eO hc (toC (av (And.intro hq h))))
theorem By {T:String} {us:List ag} (hq:(Code.builtin "type.__call__" ⟨.type T :: us,[]⟩).quiet=true) (h:gc (aM prog w) A (.builtin "type.__call__" ⟨.type T :: us,[]⟩) R s):gc (aM prog w) A (.call (.type T) ⟨us,[]⟩) R s:=by
 refine va ?_;show wpC _ _ (Jh (.type T) _) _ _ _;exact toC (av ⟨hq,h⟩)
end
open PySem.W in
theorem Ae {prog:aQ} {w:bT} {A:bQ} {E:ag->ah->Prop} {s:ah} {Q:ag->ah->Prop} {x:Str} {u:Tok} (hl:x.length<=640) (hrp:(lI x).length<=10000) (hn:dI x=none) (hh:A.handled=none)
  (h:∀ h' e vs t,nK s.heap h' e "ValueError" vs->E (.ref e) {s with heap:=h',toks:=t}) :
  wpC (aM prog w) A (sX (.builtin "int.__new__") [.type "int",.str x u]) Q E s:=by
 refine xM (xN (ou _ (by decide +kernel)) (F.newCall_int_1 _) (yN F.entry_int_new ?_));rw [qR (by decide +kernel)];exact Iy hl hrp hn hh h
theorem Fn {prog:aQ} {w:bT} {A:bQ} {E:ag->ah->Prop} {s:ah} {Q:ag->ah->Prop} {x:Str} {u:Tok} (hl:x.length<=640) (hrp:(lI x).length<=10000) (hn:dI x=none) (hh:A.handled=none)
  (h:∀ h' e vs t,nK s.heap h' e "ValueError" vs->E (.ref e) {s with heap:=h',toks:=t}) :
  wpC (aM prog w) A (sX (.type "int") [.str x u]) Q E s:=by
 refine xM (By (ou _ (by decide +kernel)) (yN F.entry_type_call ?_));rw [Around.under_plain (weight_type_call_type _ _ _) (units_type_call_type _ _ _)];have f1:=Bz.notType;have f2:=Bz.canCreate;unfold oZ.«type.__call__»;dsimp only;refine rA (by rw [f1]; simp) ?_;refine rA (by rw [f2]; simp) ?_;refine cM (eO (F.typeCall_int_1 _) ?_);refine cM (eO F.mro_int ?_);refine rA (by simp) ?_;refine cM (eO Bz.made ?_);dsimp only;refine cM (av ?_);refine dZ (o6 ?_);exact Ae hl hrp hn hh h
section
variable {M:mB} {A:bQ} {E:ag->ah->Prop} {s:ah} {B:cP} {env:Env} {outer:List Env} {L e:ak} {cls:ag} {Q:Unit->ah->Prop}
theorem Dj {h:cP} {args:List ag} (hfr:A.frames=some (env :: outer)) (hf:env.frame=some L) (hB:B.StaysIn h) (hl:h.FunFrames B (env :: outer)) (x:Gw h s.heap e cls args)
  (k:∀ h',FlD B (env :: outer) e cls (mJ L) h'->s.heap.UpToSlots h'->Q () {s with heap:=h'}):aY M A (jw (.ref e) env) Q E s:=by
 obtain ⟨t,he,htn,ht⟩:=x.there;have en:B.get? e=none:=by
  cases q:B.get? e with
  | none=>rfl
  | some o=>have z:=hB e o q; rw [x.new] at z; cases z
 unfold jw;simp only [hf];refine ae (i5 (x:=Value.none) he rfl rfl ?_);rw [if_neg (show ¬ ((Value.none != Value.none)=true) by decide)];exact C2 hfr (hl.of_keeps fun b o z _=>⟨o,x.keeps b o z,rfl⟩) hf he (fun b o z=>x.keeps b o (hB b o z)) en rfl (show 1 < 6 by decide) rfl k
end
section
variable {X:Cx} {pins:List (ak×Obj)} {σ:St} {H:Hp} {s:ah}
theorem yO (I:Inv X pins σ H s):vW X pins H (gY s.heap (frs X.stack)) s.heap:=fun b o _ n e=>qZ _ e n
theorem Dk (I:Inv X pins σ H s) (hst:X.stack=X.env :: X.outer):s.heap.FunFrames (gY s.heap (frs X.stack)) (X.env :: X.outer):=by
 have z:=xO I.stack (fun env he a ha=>gR.mpr ⟨env,he,ha⟩);rw [hst] at z |-;exact z
theorem xP:oj X (.type "int") (fun xs H Q=>∃ x n,xs=[.str x]/\x.length<=640/\dI x=some n/\Q (.int n) H):=by
 intro pins s σ H xs us Q I r h;obtain ⟨x,n,rfl,hl,hn,q⟩:=h;obtain ⟨u,rfl,ru⟩:=dv.one r;obtain ⟨t,rfl⟩:=ru;exact vJ hn hl ⟨.int n,H,I.tok _,⟨_,rfl⟩,q⟩
theorem vc:eC "ValueError"=some (.type "ValueError"):=by decide +kernel
def Fp (j i:Nat) (tS:TS):TS:=fun D σ H=>∃ x:Str,σ[j]?=some (some (.str x))/\x.length<=640/\(lI x).length<=10000/\(∀ n,dI x=some n->D.nx (σ.set i (some (.int n))) H)/\(dI x=none->tS D σ H)
theorem Af {j i:Nat} {xw xn:Str} {p1 p2 p3 p4 p5 p6 p7 pos:Pos} {b₀:di} {suite:List di} {tS:TS} (hN:X.N.Nodup) (hi:X.N[i]?=some xn) (hx:Loc X.env.scope xn) (hw:PE X.nox (.Name xw p3) (kF j)) (hgi:Gl X "int") (hmi:X.mg "int"=none) (hgv:Gl X "ValueError") (hmv:X.mg "ValueError"=none)
  (hc:X.calm=true) (hsu:∀ ea,PSs (X.hdl ea) (b₀ :: suite) tS)
  (hst:X.stack=X.env :: X.outer:=by rfl) (hfr:X.env.frame=some X.env.locals:=by rfl)
  (he:bB [.Name xw p3] X.env=[(false,dE (.Name xw p3) X.env)]:=by rfl)
  (hs:mI (.Call (.Name "int" p2) [.Name xw p3] [] p4) (some (.Name xn p1)) p5.line X.env=pure false:=by rfl) (hf:X.fn xn=true\/X.env.scope.names.lookup xn=some .local:=by first | exact .inl rfl | exact .inr rfl | assumption) :
  PSC X (.Try [.Assign [.Name xn p1] (.Call (.Name "int" p2) [.Name xw p3] [] p4) p5] [.ExceptHandler (some (.Name "ValueError" p6)) none (b₀ :: suite) p7] [] [] pos) (Fp j i tS):=by
 intro pins s σ H D I h;obtain ⟨x,hσ,hl,hrp,h1,h2⟩:=h;refine tryC ?_;have hh:X.A.handled=none:=I.ok.hd hc;refine Aa ?_;rw [exec_Assign_Name X.env xn p1 _ p5 hs];refine cM (bU ?_);rw [ug];refine dZ (cM (oF I hgi hmi boot_int ?_));show wpC _ _ (ky p4 (.type "int") [] (eR p4 (bB [.Name xw p3] X.env)) []) _ _ s;rw [he];unfold ky;refine cM (bH (lH (nO (cE (hw pins s σ H (fun v H'=>v=.str x/\H'=H) (I.wish _) ⟨.str x,hσ,rfl,rfl⟩) (fun u s1 z=>oQ ?_) fun _ _ z=>cQ z))));obtain ⟨v,H',I1,ru,rfl,rfl⟩:=z
 replace I1:=I1.unwish
 obtain ⟨tk,rfl⟩:=ru;refine cM (bU ?_);refine cM (eO (a:=Keeper.machine) rfl ?_)
 cases hx':dI x with
 | some n =>
  refine cM (vJ hx' hl (toC ?_));refine ae (bH (qk (av ?_)));refine toC (ae (bU (ae (Ab ?_))));exact oS (v:=.int n) (I1.tok _) hN hi hx ⟨_,rfl⟩ (fun s2 I2=>av (toC (fG (fG ⟨_,_,I2,h1 n hx'⟩)))) hf
 | none =>
  refine dZ (Fn hl hrp hx' hh fun h' e vs t m=>?_);have fr:X.A.frames=some (X.env :: X.outer):=by rw [I.ok.frames,hst]
  refine Dj (B:=gY s1.heap (frs X.stack)) (h:=s1.heap) fr hfr (fun b o z=>rC _ z) (Dk I1 hst) m.of fun h22 f2 u2=>?_;refine yH f2 fun h3 f3 u3=>?_;have u23:s1.heap.UpToSlots h3:=((Ji m.keeps).trans u2).trans u3;refine wpAny_handleBy_builtin (X:="ValueError") (T:="ValueError") (b:=true) PySem.F.isExc_ValueError PySem.F.notTuple_ValueError PySem.F.self_ValueError ?_;have B3:(gY s1.heap (frs X.stack)).StaysIn h3:=f3.1;have I3:Inv X pins σ H' {s1 with heap:=h3,toks:=t}:=Inv.landed (s:={s1 with toks:=t}) (I1.tok t) B3 (yO I1) u23;refine oF (X:=X.hdl e) (I3.hdl e) hgv hmv vc ?_;obtain ⟨ob,hob,hcl⟩:=f3.there;refine ⟨rfl,⟨ob,hob,hcl⟩,?_⟩;rw [if_pos rfl];refine yH (s:={s1 with heap:=h3,toks:=t}) f3 fun h6 f6 u6=>?_;have I6:Inv X pins σ H' {s1 with heap:=h6,toks:=t}:=Inv.landed (s:={s1 with toks:=t}) (I1.tok t) f6.1 (yO I1) (u23.trans u6);exact cE (hsu e pins _ σ H' D (I6.hdl e) (h2 hx')) (fun f s2 z=>SP.unhdl I.ok z) (fun _ _ z=>cQ z)
end
theorem BA {P:aQ} {w:bT} {K:ai} {mg mb:Str->Option ag} {CX:CXT} {k:Nat} {fa a:ak} {fd:cF} {x:Str} {sp:Sp} {s₁:ah} {vs:List ag} {ns:List Int}
  (KX:K.In s₁.heap) (hns:s₁.heap.Ns bS mg) (hb:s₁.heap.Ns zB mb) (hbb:∀ x:Str,x≠"__name__"->mb x=eC x) (hlim:s₁.heap.NoLimit) (hg:s₁.gens=#[])
  (ha:s₁.heap.get? a=some {cls:=.type "list",data:=.seq vs.toArray}) (hi:CV vs ns) (hl:ns.length<=aw) (hr:dj k rM)
  (F:∀ base:cP,K.In base->base.Ns bS mg->dP P w K mg base CX k fa fd [x] sp) (hbind:∀ (s:ah) (u:ag),tN s fd ⟨[u],[]⟩ [(x,u)])
  (hsp:∀ H:Hp,Only H->SqL K H a (ns.map V.int)->sp [.ref a] H (fun v _=>v=.bl true) fun _ _ _=>False)
  (hCX:∀ H e s',CX [] H s₁ (fun _ _ _=>False) e s'->False) :
  gc (aM P w) rM (.call (.ref fa) ⟨[.ref a],[]⟩) (fun r s'=>r=.ok (.ret (.bool true))/\OldK s₁.heap s'.heap/\s'.os=s₁.os/\rD s'.gens) s₁:=by
 have rv:=wH hi;have lenV:=hi.length
 have core:∀ H:Hp,Only H->SqL K H a (ns.map V.int)->HOk P w H s₁.heap->(∀ b,H b≠none->b=a)->(H a≠none->K.lookup a=none) ->
   gc (aM P w) rM (.call (.ref fa) ⟨[.ref a],[]⟩) (fun r s'=>r=.ok (.ret (.bool true))/\OldK s₁.heap s'.heap/\s'.os=s₁.os/\rD s'.gens) s₁:=by
  intro H hO hS hok hA hK;have base_of:∀ {b:ak} {o:Obj},s₁.heap.get? b=some o->H b=none->(xj s₁.heap H).get? b=some o:=fun e n=>Ck e n;have noA:∀ {b:ak} {o:Obj} {es:Array xG} {ep:Nat},s₁.heap.get? b=some o->o.data=.dict es ep->H b=none:=fun {b o es ep} e d=>by
   cases q:H b with
   | none=>rfl
   | some u =>
    have e':b=a:=hA b (by rw [q]; simp);subst e';rw [ha] at e; cases e;have d':Data.seq vs.toArray _=Data.dict es ep:=d
    cases d'
  have nsK:∀ {b:ak} {m:Str->Option ag},s₁.heap.Ns b m->(xj s₁.heap H).Ns b m:=fun {b m} ⟨o,es,ep,e,d,r⟩=>⟨o,es,ep,base_of e (noA e d),d,r⟩;have hKb:K.In (xj s₁.heap H):=fun b o e=>base_of (KX b o e) (by
   cases q:H b with
   | none=>rfl
   | some u =>
    have e':b=a:=hA b (by rw [q]; simp);subst e';rw [hK (by rw [q]; simp)] at e; cases e)
  have hM:Mod K mg (xj s₁.heap H):=⟨hKb,nsK hns,⟨mb,nsK hb,hbb⟩,let ⟨mc,h1,h2⟩:=hlim; ⟨mc,nsK h1,h2⟩⟩;have e0:yy P w K mg (xj s₁.heap H) rM [] s₁ H:=⟨rfl,hM,fun b o e=>EI e,zI (Bj _ _),trivial,fun b hb=>absurd (show b∈([]:List ak) from hb) (by simp),hok,.of_eq hg⟩;refine jI ((F _ hKb (nsK hns)).run rM [] s₁ H ⟨[.ref a],[]⟩ [.ref a] [.ref a] _ _ hr e0 (hbind s₁ (.ref a)) (.cons rfl .nil) (hsp H hO hS)) fun r s' h=>?_
  cases r with
  | error e=>exact (hCX H e s' h).elim
  | ok fl =>
   cases fl with
   | next=>exact cQ h
   | brk=>exact cQ h
   | cont=>exact cQ h
   | ret u =>
    obtain ⟨v,H',os,bare,un,hok',r',q⟩:=h;have q':v=.bl true:=q;subst q';obtain rfl:u=Value.bool true:=r';refine ⟨rfl,OldK.of_keep fun b o e=>?_,os,bare⟩
    cases q:H b with
    | none=>exact un.keep b o e q (by intro z; exact absurd (show b∈([]:List ak) from z) (by simp)) (by simp)
    | some u =>
     rcases hO b with z | ⟨ob,xs,z⟩
     ·rw [q] at z; cases z
     ·have z2:=un.frzs b ob _ z;obtain ⟨e1,_⟩:=hok b _ z;obtain ⟨e2,_⟩:=hok' b _ z2;rw [e] at e1; cases e1;exact e2
 cases hk:K.lookup a with
 | some o =>
  have e:=KX a o hk;rw [ha] at e
  cases e;refine core (fun _=>none) (fun _=>.inl rfl) (.inr ⟨_,vs.toArray,_,hk,rfl,rfl,rfl,by rw [aI,lenV]; exact hl,by simpa using rv⟩) (fun b u z=>by have z':(none:Option HO)=some u:=z; cases z') (fun b z=>absurd rfl z) fun z=>absurd rfl z
 | none =>
  refine core (fun b=>if b=a then some (.frz {cls:=.type "list",data:=.seq vs.toArray} (.lst (ns.map V.int))) else none) (fun b=>?_) (.inl (.inr ⟨{cls:=.type "list",data:=.seq vs.toArray},if_pos rfl⟩)) (fun b u z=>?_) (fun b z=>?_) fun _=>hk
  ·by_cases hb:b=a
   ·exact .inr ⟨_,_,if_pos hb⟩
   ·exact .inl (if_neg hb)
  ·by_cases hb:b=a
   ·have z':=(if_pos hb).symm.trans z
    cases z';subst hb;exact ⟨ha,by rw [aa]; exact hl,vs,_,rv,ha⟩
   ·have z':=(if_neg hb).symm.trans z
    cases z'
  ·by_cases hb:b=a
   ·exact hb
   ·exact absurd (if_neg hb) z
def BB:ud:=⟨.builtin "claim.caller" {},none,none,[],none⟩
theorem top0 {prog:aQ} {w:bT} {s:ah} {mg:Str->Option ag} {f:ag} {name:Str} {vs:List ag} {R:mO->ah->Prop} (hg:s.heap.Ns bS mg) (hf:mg name=some f)
  (h:gc (aM prog w) rM (.call f ⟨vs,[]⟩) (fun r z=>match r with | .ok (.ret v)=>R (.ok (.ret v)) z | .ok _=>False | .error e=>R (.error e) z) s) :
  Da (aM prog w) BB (do match <- nsGet mainNs name with | some f=>do ret (<- PySem.call f vs) | none=>unsupported "claim.caller:no-such-global") (Sem.finPost (aM prog w) BB R) (fun e _ z=>R (.error e) z) default s:=by
 rw [uf];have z:=(wpAny_nsGet (M:=aM prog w) (A:=rM) (E:=fun e z=>R (.error e) z) (Q:=fun o z=>o=some f/\z=s) hg (by rw [hf]; exact ⟨rfl,rfl⟩)) BB default caller_in;refine rL _ _ _ (fun o p z y=>?_) (fun _ _ _ y=>y) _ _ z;obtain ⟨rfl,rfl⟩:=y;dsimp only;rw [uf];show Da _ _ (runValue (.call f ⟨vs,[]⟩)) _ _ _ _;rw [Gu];refine wpCode_mono (fun r y q=>?_) (h (BB.enter (.call f ⟨vs,[]⟩) none p) p rfl rfl (caller_in.enter _ none p (by intro x; cases x)))
 cases r with
 | error e=>exact q
 | ok fl =>
  cases fl with
  | ret v=>exact q
  | next=>exact q
  | brk=>exact q
  | cont=>exact q
open PySem.W in
def WalkC (q:aQ) (loose:List Str) (XP:(Str->Option ag)->cP->Prop) (YP:bT->cP->Prop) (r:RowW) (d:Iz):Prop:=
 ∀ (w:bT) (s₀ s₁:ah) (mg mb:Str->Option ag),Ground q loose r.records XP w s₀ mg mb s₁.heap->YP w s₁.heap->∀ (a:ak) (dV kV:ag) (kwd:List (Str×cI)),Dflts mg s₁.heap d.params kwd dV kV->mg d.name=some (.ref a)->s₁.gens=#[] ->
  ∀ (args:List WData) (vals:List ag) (as:List ak),r.claim.pre args=true->uc args=true->ReadsAllW r.records (Jj s₀.heap) s₁.heap vals args as->WellAll w.params s₁.heap vals args ->
   gc (aM r.prog w) rM (.call (.ref a) ⟨vals,[]⟩) (GoodWG r.claim (Jj s₀.heap) (ExcName.means s₀.heap) args s₁) s₁
open PySem.W in
theorem fromC {c:ClaimW} {name:Str} {w:bT} {s:ah} {free:ak->Prop} {gens:Prop} {kept:cP->Prop} (hz:s.asleep) (hgs:s.gens=#[])
  (h:∀ args,c.pre args=true->uc args=true->∀ ord:List xG->List xG,(∀ l,(ord l).Perm l)->∃ vs z,layAllW c.records (Jj s.heap) w.params ord args s=some (vs,z) /\
   Da (aM c.prog w) BB (callStub name vs).cur (Sem.finPost (aM c.prog w) BB fun r y=>(c.Ends s args vs z r y/\y.os=s.os/\kept y.heap)/\rX y.gens=false) (fun e _ y=>(c.Ends s args vs z (.error e) y/\y.os=s.os/\kept y.heap)/\rX y.gens=false) default z) :
  c.CallFrom (callStub name) w free gens kept s:=by
 intro args a1 a2 ord a3;obtain ⟨vs,z,hl,hw⟩:=h args a1 a2 ord a3;have rest:=layAllW_rest _ _ _ hl;obtain ⟨k,r,y,y2,hs,hn,hfo,⟨hE,ho,hk⟩⟩:=wp_halts_full (M:=aM c.prog w) (Shared.asleep_of_life rest.2.2.2 hz) hw;obtain ⟨eh,_,_,eo,_⟩:=Shared.forget_eq hfo
 replace hE:=hE.congr eh
 rw [<- eh] at hk;rw [<- eo] at ho;have life:y2.heap.life=s.heap.life:=(runN_life _ _ _ hn).trans rest.2.2.2;refine ⟨vs,z,hl,k,_,y2,hs,?_,(fun _ i x hx=>by rw [hgs] at hx; simp at hx),hk,by rw [life],Shared.rest_eq ho⟩
 rcases hE with ⟨v,rfl,d1,d2,d3,d4,d5⟩ | ⟨e,ob,cls,rfl,d1,d2,d3,d4,d5⟩
 ·exact .inl ⟨v,rfl,d1,d2,d3,fun b o q _=>d4 b o q,d5⟩
 ·exact .inr ⟨e,ob,cls,rfl,d1,d2,d3,d4,fun b o q _=>d5 b o q⟩
open PySem.W in
theorem headC {r:OpenRow} {q:aQ} {loose:List Str} {Xt:ah->Bool} {XP:(Str->Option ag)->cP->Prop} {α:Type} {Yf:ah->α} {Ya:bT->α} {YP:bT->cP->Prop} {d:Iz} {kwd:List (Str×cI)} {N:Nat}
  (left:LeftO r.prog q loose Xt Yf Ya N) (hY:∀ w s,Yf s=Ya w->YP w s.heap) (hYk:∀ w h h',YP w h->(∀ b o,h.get? b=some o->h'.get? b=some o)->YP w h') (hX:∀ s,Xt s=true->XP (s.heap.nsMap bS) s.heap) (hXk:∀ mg h h',XP mg h->(∀ b o,h.get? b=some o->h'.get? b=some o)->XP mg h')
  (hdef:defOf q r.name=some (d,kwd)) (hp:r.prog.theDef r.name=some (d.params,d.body,d.scope)) (hk:kwWritten? d.params.kwonlyargs d.params.kw_defaults=some kwd) (hRf:∀ s,Xt s=true->RecFacts r.records s.heap) (hwr:(!r.writes || r.records.isEmpty)=true) (k1:r.wellSaid=true)
  (ok:(chainsOk q && opensWell r.prog && (frees r.toRowW && r.within.isEmpty))=true) (hb:r.prog.bare) (hw:r.toRowW.promised) (sX:WalkC q loose XP YP r.toRowW d):r.Holds:=by
 obtain ⟨ok1,ok2⟩:=gb.mp ok;obtain ⟨hch,hop⟩:=gb.mp ok1;obtain ⟨hfr,hwi⟩:=gb.mp ok2;obtain ⟨hsame,hu,ha,hap,hm⟩:=frees_parts hfr;have hi:=ident_freeW hu ha hap;have hwi':r.toRowW.claim.within=[]:=List.isEmpty_iff.mp hwi;refine ⟨k1,hw,⟨hb,hop,by show r.makers.map _=[]; rw [hm]; rfl⟩,hw.witness,fun w=>⟨(left.behind hX hch w).1,fun z hz=>?_⟩⟩;obtain ⟨s₀,e1,e2,s,T,sl,g0,ns,G0,y⟩:=(left.behind (XP:=fun mg h=>XP mg h/\RecFacts r.records h) (fun s hs=>⟨hX s hs,hRf s hs⟩) hch w).2 z hz;have G1:Ground q loose [] XP w s (s.heap.nsMap bS) (s.heap.nsMap zB) s.heap:=⟨G0.T,G0.B,G0.D,G0.TE,G0.TD,G0.W,G0.X.1,G0.cls,G0.has,G0.apart,G0.once,G0.K⟩;have RF:=G0.X.2;have gs:s.gens=#[]:=k8 (beq_iff_eq.mp g0);refine ⟨s₀,e1,e2,s,T,fun n hn=>?_,RF.1,RF.2.1,?_⟩
 ·obtain rfl:n=r.name:=by split at hn <;> simp_all
  exact pinned_of_view ns G1 hdef hp hk
 have G2:Ground q loose r.records XP w s _ _ s.heap:=RF.ground G1;refine fromC (c:=r.toRowW.claim) sl gs fun args a1 a2 ord a3=>?_;obtain ⟨⟨vs,s₁⟩,hl⟩:=oR.mp (layAllW_isSome (P:=w.params) (ord:=ord) G2.has args r.args s (Ii a1).1);have kp:=layAllW_keeps _ _ _ hl;have al:=layAllW_rest _ _ _ hl;obtain ⟨as,h1,h2,h3⟩:=reads_layAllW a3 _ _ _ hl a2 s₁.heap (fun _ _ e=>e);have L:Laid r.records w s s₁ args vs as:=⟨⟨ord,a3,hl⟩,h1,h2,h3,kp,al.1.trans gs,al.2.2.1⟩;have G3:=G2.keeps hXk kp;obtain ⟨a,o,pm,cd,doc,dV,kV,f1,f2,f3,f4,f5⟩:=G3.fn hdef;have run:=sX w s s₁ _ _ G3 (hYk _ _ _ (hY w s y) kp) a dV kV kwd f5 (defOf_name hdef ▸ f1) L.gens args vs as a1 a2 L.reads L.well;refine ⟨vs,s₁,hl,top0 (R:=fun r' y=>(r.toRowW.claim.Ends s args vs s₁ r' y/\y.os=s.os/\_)/\rX y.gens=false) G3.T.g f1 (jI run fun r' y g=>?_)⟩;have z:=g.laid (c:=r.toRowW.claim) hsame hwi' hi L;have fin:(r.toRowW.claim.Ends s args vs s₁ r' y/\y.os=s.os/\(r.writes=true->namesKept r.prog r.keeps s.heap y.heap/\∀ x∈r.records,∀ a,Jj s.heap x.1=some a->recordClass y.heap a x.1 (x.2.map (·.1))=true))/\rX y.gens=false:=
  ⟨⟨z.1,z.2.1,fun q=>⟨namesKept_of T ns r.keeps kp g.2.1.old,noTable hwr q⟩⟩,leftWithCleanup_false_of_bare z.2.2⟩
 cases r' with
 | error e=>exact fin
 | ok fl =>
  rcases g.1 with ⟨v,_,_,e,_⟩ | ⟨e,_,_,e',_⟩
  ·cases e;exact fin
  ·cases e'
open PySem.W in
theorem walkC_of {l:OpenLaw} {n k:Nat} {q:aQ} {loose:List Str} {XP:(Str->Option ag)->cP->Prop} {YP:bT->cP->Prop} {d:Iz} {K:Params->ai} {CX:bT->CXT} {sp:bT->Sp} {x:Str}
  (hn:l.most=some n) (hn2:n<=aw) (hdf:d.params.defaults=[]) (hr:dj k rM) (hY:∀ (w:bT) (h:cP),YP w h->(K w.params).In h)
  (F:∀ (w:bT) (mg:Str->Option ag) (fa:ak) (h:cP),(K w.params).In h->h.Ns bS mg->mg d.name=some (.ref fa) ->
   ∃ fd:cF,(∀ (s:ah) (u:ag),tN s fd ⟨[u],[]⟩ [(x,u)])/\∀ base:cP,(K w.params).In base->base.Ns bS mg->dP l.prog w (K w.params) mg base (CX w) k fa fd [x] (sp w))
  (hsp:∀ (w:bT) (H:Hp) (a:ak) (ns:List Int),ns.length<=n->(∀ x∈ns,hV x<=1048576)->SqL (K w.params) H a (ns.map V.int)->sp w [.ref a] H (fun v _=>v=.bl true) fun _ _ _=>False)
  (hCX:∀ (w:bT) (H:Hp) (s:ah) (e:ag) (s':ah),CX w [] H s (fun _ _ _=>False) e s'->False):WalkC q loose XP YP l.row.toRowW d:=by
 intro w s₀ s₁ mg mb G Y fa dV kV kwd hD hmg hg args vals as hpre hlay hrd hwl;obtain ⟨a,vs,ns,rfl,rfl,hobj,hints,hlen⟩:=Att.script_of hn hpre hwl;obtain ⟨fd,hb,hF⟩:=F w mg fa _ (hY w _ Y) G.T.g hmg;refine jI (BA (hY w _ Y) G.T.g G.T.b G.T.builtins G.T.nolimit hg hobj hints (bN hlen hn2) hr hF hb (fun H hO hS=>hsp w H a ns hlen (Att.bits_of_lay hlay) hS) fun H e s'=>hCX w H s₁ e s') fun r s' hq=>?_;obtain ⟨rfl,h2,h3,h4⟩:=hq;exact ⟨.inl ⟨.bool true,.bool true,[],rfl,fun _=>rfl,.bool true,Att.post_true l _,fun _=>⟨List.Pairwise.nil,fun _ hm=>(nomatch hm)⟩⟩,h2,h3,h4⟩
section
variable {X:Cx} {pins:List (ak×Obj)} {σ:St} {H:Hp} {s:ah} {d:ak}
end
section
variable {P:aQ} {w:bT} {K:ai}
end
section
variable {X:Cx} {o:cI} {to:TE} {apos cpos:Pos} {elts:List cI} {x1:Nat} {pos:Pos}
end
end L2
namespace L2
open PySem PySem.Spec PyProof.Rows PySem.SeqAt
def BSc (x y:V) (b:Bool):Prop:=(∃ i j:Int,x=.int i/\y=.int j/\b=decide (i=j))\/∃ i j:Str,x=.str i/\y=.str j/\b=decide (i=j)
section
variable {P:aQ} {w:bT} {H:Hp} {s:ah}
theorem IA {A:bQ} {x y:V} {u v:ag} {b:Bool} (h:BSc x y b) (ru:RelV x u) (rv:RelV y v):EqAt A s u v b:=by
 rcases h with ⟨i,j,rfl,rfl,rfl⟩ | ⟨i,j,rfl,rfl,rfl⟩
 ·obtain ⟨t,rfl⟩:=(show ∃ t,u=Value.int i t from ru);obtain ⟨t',rfl⟩:=(show ∃ t',v=Value.int j t' from rv);have z:=EqAt.int_int (A:=A) (s:=s) i t j t';have e:(i == j)=decide (i=j):=by
   by_cases c:i=j
   ·rw [decide_eq_true c,beq_iff_eq.mpr c]
   ·rw [decide_eq_false c,beq_eq_false_iff_ne.mpr c]
  rw [e] at z;exact z
 ·obtain ⟨t,rfl⟩:=(show ∃ t,u=Value.str i t from ru);obtain ⟨t',rfl⟩:=(show ∃ t',v=Value.str j t' from rv);have z:=EqAt.str_str (A:=A) (s:=s) i t j t';have e:(i == j)=decide (i=j):=by
   by_cases c:i=j
   ·rw [decide_eq_true c,beq_iff_eq.mpr c]
   ·rw [decide_eq_false c,beq_eq_false_iff_ne.mpr c]
  rw [e] at z;exact z
end
section
variable {X:Cx}
end
end L2
namespace L2
open PySem PySem.Spec PyProof.Rows
section
variable {prog:aQ} {w:bT} {A:bQ} {E:ag->ah->Prop} {s:ah}
end
section
variable {X:Cx}
end
structure uh (K:ai) (C:ak):Prop where
 ga:cf K (.ref C) "__getattribute__"=some (some (.builtin "BaseException.__getattribute__"))
 gh:cf K (.ref C) "__getattr__"=some none
 cl:cf K (.ref C) "__class__"=some (some (.builtin "object.__class__"))
 cn:si K (.builtin "object.__class__") "__get__"=some (some (.builtin "getset_descriptor.__get__"))
 ck:tZ K (.builtin "object.__class__")=some true
 ob:oH K C (.type "object")=some true
 be:oH K C (.type "BaseException")=some true
theorem uh.cs {K:ai} {C:ak} (c:uh K C):∃ cd,iP K C=some cd:=by
 obtain ⟨cd,a,_⟩:=pq.mp c.ob;exact ⟨cd,a⟩
section
variable {prog:aQ} {w:bT} {A:bQ} {E:ag->ah->Prop} {s:ah} {K:ai} {x C:ak} {ox:Obj}
theorem BC {nameV:ag} {Q:Unit->ah->Prop} (X:K.In s.heap) (I:eE s.heap x ox C none) (c:uh K C) (h:Q () s):aY (aM prog w) A (jX "BaseException.__getattribute__" ⟨[.ref x,nameV],[]⟩) Q E s:=by
 obtain ⟨hh,g,d,t,os⟩:=s;have hk:builtinKind "BaseException.__getattribute__"=some .slot:=by decide +kernel
 have hsplit:splitId "BaseException.__getattribute__"=some ("BaseException","__getattribute__"):=by decide +kernel
 have ha:=F.args_bexc_ga (.ref x) nameV;have L0:=I.type (M:=aM prog w);have L1:=ra (M:=aM prog w) X c.be;simp only [jX,hk,hsplit];refine ae ?_;unfold Ag;refine ae (L0.at (L1.at ?_))
 repeat (first | assumption | wp_step)
theorem BD {Q:Option ag->ah->Prop} (X:K.In s.heap) (I:eE s.heap x ox C none) (c:uh K C) (h:Q (some (.ref C)) {s with toks:=s.toks + 1}):aY (aM prog w) A (Fq (.ref x) "__class__") Q E s:=by
 have L0:=I.type (M:=aM prog w);have L1:=eP (M:=aM prog w) X c.ga;have L2':=eP (M:=aM prog w) X c.gh;have hf:p0 K C none "__class__"=some (.bind (.builtin "getset_descriptor.__get__") (.builtin "object.__class__")):=by
  obtain ⟨cd,hc⟩:=c.cs;unfold p0;rw [hc,pw,c.cl,pw];simp [c.cn,c.ck]
 have L3:=rN (M:=aM prog w) X I hf;obtain ⟨hh,g,d,t,os⟩:=s;unfold Fq getAttrBy? getAttrBy;refine ae (Dl (ae (qC (bH (ae (L0.at (ae (L1.at ?_))))))));dsimp only;rw [if_neg (show ¬ ((mV (Value.ref C) && Value.builtin "BaseException.__getattribute__" == Value.builtin "object.__getattribute__")=true) by rw [show (Value.builtin "BaseException.__getattribute__" == Value.builtin "object.__getattribute__")=false by decide +kernel,gT]; decide)];unfold yP IB;rw [if_pos (show mV (Value.ref C)=true from rfl)];refine ae (L2'.at (ae (qC (bH ?_))));unfold xQ Ah;rw [if_neg (show ¬ ((false && mV (Value.builtin "BaseException.__getattribute__"))=true) by decide),ig.ga.bind];refine ae (av (kJ (nX ig.ga.plain xR (BC (s:=⟨hh,g,d,t + 1,os⟩) X I c ?_))));have fin:∀ (A':bQ) (R:mO->ah->Prop),R (.ok (.ret (.ref C))) ⟨hh,g,d,t + 1,os⟩->qg (aM prog w) A' (.call (.builtin "getset_descriptor.__get__") ⟨[.builtin "object.__class__",.ref x,.ref C],[]⟩) R ⟨hh,g,d,t + 1,os⟩:=fun A' R q=>AU (s:=⟨hh,g,d,t + 1,os⟩) X I c.ob q;unfold oZ.«object.__getattribute__» slotArgs;refine ae (av ?_);refine ae (av ?_);refine ae (L0.at (ae (L3.at ?_)));unfold rb;refine ae (bH (kJ (fin _ _ ?_)));refine av ?_;exact sA rfl (av h)
theorem Dm (c:uh K C):Fs K (.ref x) (.ref C) (fun h=>eE h x ox C none) where
 ty:=fun _ _ _ I=>I.type
 it:=fun _ _ X _=>by
  obtain ⟨cd,hc⟩:=c.cs;unfold iP at hc
  split at hc
  ·rename_i c' d' cd' sl' ho
   intro A' Q' E' s' k q;unfold isType loadHead;exact ae (tf (k _ _ (X _ _ ho)) (av q))
  ·cases hc
 ne:=fun h tp dd its n sl X htp=>by
  obtain ⟨cd,hc⟩:=c.cs;refine Do.mpr fun q=>?_;have e:C=tp:=Value.ref.inj (beq_iff_eq.mp q);subst e;unfold iP at hc
  split at hc
  ·rename_i c' d' cd' sl' ho
   have z:=(X _ _ ho).symm.trans htp
   cases z
  ·cases hc
 ca:=fun X I k=>BD X I c k
end
section
variable {X:Cx} {pins:List (ak×Obj)} {σ:St} {H:Hp} {s:ah}
end
section
variable {P:aQ} {w:bT} {H:Hp} {h h':cP} {a:ak} {o:HO} {fs ex:List ak}
theorem Un.laidN (k:∀ b u,h.get? b=some u->h'.get? b=some u) (hp:h.get? a=none) (hn:H a=none):Un fs ex H (upd H a o) h h' where
 keep:=fun b u q _ _ _=>k b u q
 slot:=fun b u q _ _ _=>⟨u.slots,k b u q⟩
 free:=fun b u q n _=>by
  rw [aT (fun z=>by rw [z,hp] at q; cases q)];exact n
 there:=fun b u q _=>⟨u,k b u q⟩
 tups:=fun b xs q=>by rw [aT (bF q hn)]; exact q
 frzs:=fun b u xs q=>by rw [aT (bF q hn)]; exact q
 tbls:=fun b ps q=>⟨#[],by rw [aT (bF q hn),q]; simp⟩
theorem HOk.laidN (x:HOk P w H h) (k:∀ b u,h.get? b=some u->h'.get? b=some u) (hn:H a=none) (new:gB P w (upd H a o) h' a o):HOk P w (upd H a o) h':=fun b u e=>by
 by_cases hb:b=a
 ·subst hb; rw [ao] at e; cases e; exact new
 ·rw [aT hb] at e;exact (x b u e).stay (fun c v _ q=>k c v q) (fun c q=>by rw [aT (bF q hn)]; exact q) fun c xs q=>by rw [aT (bF q hn)]; exact q
end
section
variable {X:Cx} {pins:List (ak×Obj)} {σ:St} {H:Hp} {s:ah} {C:ak} {x:Str} {p pos:Pos} {e:cI} {es:List cI} {t:TA}
end
section
variable {X:Cx} {CX:CXT} {k:Nat} {f C:ak} {fd:cF} {ps:List Str} {sp:Sp} {E:XK} {m:Str} {pos apos:Pos} {o:cI} {ta:TE}
end
section
variable {X:Cx} {pins:List (ak×Obj)} {σ:St} {H:Hp} {s:ah}
theorem BE {M:mB} {A:bQ} {E:ag->ah->Prop} {i:Nat} {x:Str} {v:V} {Q:Unit->ah->Prop} (I:Inv X pins σ H s) (hN:X.N.Nodup) (hi:X.N[i]?=some x) (hk:X.env.scope.names.lookup x=some .local) (hv:σ[i]?=some (some v))
  (h:∀ s',Inv X pins (σ.set i none) H s'->Q () s'):aY M A (unbindName X.env x) Q E s:=by
 obtain ⟨m,hn,hl⟩:=id I.loc;have hcls:(X.env.scope.kind == .class || (X.env.scope.kind == .module && X.env.locals != X.env.globals))=false:=by rw [I.ok.kind]; rfl
 have hkd:X.env.kindOf x=some .local:=hk;have hmx:(m x).isSome=true:=by
  obtain ⟨u,_,q⟩:=hl i x v hi hv (.inl hk)
  rcases q with ⟨_,e⟩ | ⟨k,_⟩
  ·rw [e]; rfl
  ·rw [hkd] at k
   rcases k with k | k <;> cases k
 unfold unbindName;refine ae (qk (ae ?_));unfold deleteName;simp only [hkd,hcls];rw [if_neg (by decide)];refine ae (wpAny_nsDel_keeps hn fun h' v' hn' hs=>?_);rw [hmx];simp only [IC,j0,if_false];refine av (qk (h _ ?_));obtain ⟨oL,_,_,hoL,_⟩:=id hn;have cne:=I.cne;have below:∀ b o,X.s₀.heap.get? b=some o->b≠X.env.locals:=fun b o e=>bz (bc (ba e) I.ok.above);refine ⟨I.ok,I.os,I.bare,⟨fun b o e n hb hx=>(hs.2 b (below b o e)).trans (I.base.keep b o e n hb hx),fun b o e n hb hx=>?_,I.base.free,fun b o e hx=>?_,I.base.tups,I.base.frzs,I.base.tbls⟩,⟨_,hn',fun j y v2 e1 e2 e3=>?_⟩,fun y c e=>?_,I.free,I.freeC,fun p hp=>?_,fun b ob e=>?_,by simpa using I.len⟩
 ·obtain ⟨sl,e1⟩:=I.base.slot b o e n hb hx;exact ⟨sl,(hs.2 b (below b o e)).trans e1⟩
 ·obtain ⟨o',e1⟩:=I.base.there b o e hx;exact ⟨o',(hs.2 b (below b o e)).trans e1⟩
 ·by_cases hj:j=i
  ·subst hj;have hlt:j < σ.length:=(bg.mp hv).1;rw [kB hlt] at e2
   cases e2
  ·rw [rn (eW hj)] at e2;obtain ⟨u',r',q⟩:=hl j y v2 e1 e2 e3;refine ⟨u',r',?_⟩
   rcases q with ⟨k,e⟩ | ⟨k,c,e,z⟩
   ·refine .inl ⟨k,?_⟩;have hne:y≠x:=fun e=>hj (uF hN e1 (e ▸ hi));simp [hne,e]
   ·exact .inr ⟨k,c,e,z.sameBut hs (cne y c e)⟩
 ·obtain ⟨w',z⟩:=I.cell y c e;exact ⟨w',z.sameBut hs (cne y c e)⟩
 ·obtain ⟨e,n,ne,nf,d⟩:=I.pin p hp;exact ⟨(hs.2 p.1 ne).trans e,n,ne,nf,d⟩
 ·refine (I.hok b ob e).stay (fun c w' hc q=>(hs.2 c ?_).trans q) (fun _ q=>q) fun _ _ q=>q;rintro rfl
  rcases hc with rfl | hc
  ·rw [I.free] at e; cases e
  ·rw [I.free] at hc; cases hc
def Dp (i:Nat) (D:Ends):Ends:={nx:=fun σ H=>D.nx (σ.set i none) H,rt:=D.rt,bk:=fun σ H=>D.bk (σ.set i none) H,ct:=fun σ H=>D.ct (σ.set i none) H}
theorem uu {M:mB} {A:bQ} {E:ag->ah->Prop} {i:Nat} {x:Str} {pos:Pos} {Q:Unit->ah->Prop} (I:Inv X pins σ H s) (hN:X.N.Nodup) (hi:X.N[i]?=some x) (hk:X.env.scope.names.lookup x=some .local)
  (h:∀ s',Inv X pins (σ.set i none) H s'->Q () s'):aY M A (do bindName X.env x .none; tE X.env x pos) Q E s:=by
 have hlt:i < σ.length:=by
  rw [I.len];exact (bg.mp hi).1
 refine ae (Ab (oS (v:=.non) I hN hi (.inl hk) rfl (fun s1 I1=>?_) (.inr hk)));unfold tE;refine wpAny_onRaise (BE (v:=.non) I1 hN hi hk (kB hlt) fun s2 I2=>h s2 ?_);rw [List.set_set] at I2;exact I2
end
section
variable {X:Cx} {pins:List (ak×Obj)} {σ:St} {H:Hp} {s s2:ah} {h':cP}
end
section
variable {P:aQ} {w:bT} {K:ai}
end
section
variable {X:Cx} {elts:List cI} {x1:Nat} {tpos pos p:Pos}
end
section
variable {prog:aQ} {w:bT} {A:bQ} {E:ag->ah->Prop} {s:ah}
end
section
variable {X:Cx} {e:cI} {t:TA} {p pos kp bp:Pos} {j:Nat}
end
section
variable {X:Cx}
end
section
variable {X:Cx} {CX:CXT} {k:Nat} {ι:Type} {fm C:ι->ak} {fd:ι->cF} {ps:List Str} {sp:ι->Sp} {E:XK} {m:Str} {pos apos:Pos} {o:cI} {ta:TE}
end
section
variable {X:Cx}
def rSlS:V->Option Int->Option Int->Hp->VK->Prop:=fun x lo hi H Q=>∃ y,x=.str y/\y.length<=aw/\Q (.str (eV y lo hi)) H
theorem Dq:SlR X rSlS:=by
 intro pins s σ H x v vl vu lo hi sl Q I rx hs pl pu h;obtain ⟨y,rfl,hy,q⟩:=h;obtain ⟨t,rfl⟩:=rx;have fin:∀ (l u:Option (Int×Tok)),eV y (l.map (·.1)) (u.map (·.1))=eV y lo hi->s.heap.IsSlice sl l u none->∃ T id,uN (.type T) "__getitem__"=pure (some (.builtin id))/\s.TypeIs (.str y t) T/\aY (aM X.prog X.w) X.A (rH (.str y t) (.ref sl)) (EP X pins σ Q) X.xe s:=fun l u e h=>by
  refine ⟨"str",_,F.slot_str_getitem.lookup,mQ _ _ _,wpAny_getItem_str_slice (l:=l) (u:=u) (st:=none) h rfl (post_val_or_str ⟨bN (Ai y (l.map (·.1)) (u.map (·.1))) hy,fun t' k=>?_⟩)⟩;exact ⟨.str (eV y lo hi),H,I.tok _,⟨t',by rw [<- e]; rfl⟩,q⟩
 cases pl with
 | none=>cases pu with
  | none=>exact fin none none rfl hs
  | int j u=>exact fin none (some (j,u)) rfl hs
 | int i u=>cases pu with
  | none=>exact fin (some (i,u)) none rfl hs
  | int j u'=>exact fin (some (i,u)) (some (j,u')) rfl hs
end
end L2
namespace L2
open PySem PySem.Spec PyProof.Rows PySem.Builtin.Str
def Its (x:Str):It:=⟨fun i _=>i < x.cps.size,fun i H v H'=>H'=H/\∃ c,x.cps[i]?=some c/\v=.str ⟨#[c]⟩,fun i _=>i=x.cps.size⟩
theorem uv (x:Str):qm x="str_ascii_iterator"\/qm x="str_iterator":=by
 unfold qm
 split <;> simp
theorem BF {P:aQ} {w:bT} {K:ai} {tg:cI} (it:ak) (x:Str) (t:Tok):Cs P w K tg (Its x) [it] it (fun i h=>h.IsStrIter it (qm x) x t i) where
 mem:=by simp
 obj:=fun i h st b hb=>by
  have e:b=it:=by simpa using hb
  subst e;obtain ⟨o,e,c,d⟩:=st;exact ⟨o,e,fun v z=>by rw [d] at z; cases z⟩
 keep:=fun i h h' st k=>by
  obtain ⟨o,e,r⟩:=st;exact ⟨o,k it (by simp) o e,r⟩
 item:=by
  intro X hP hw hK hc i pins s σ H E I hf st hg;subst hP hw hK;obtain ⟨f0,f1,f2,f3,f4,f5⟩:=hf it (by simp);have go:∀ (v:ag) (h':cP) (tk:Nat),SignAt x i v->h'.IsStrIter it (qm x) x t (i + 1)->(∀ b o,b∉[it]->s.heap.get? b=some o->h'.get? b=some o)->∃ u,some v=some u /\
   aY (aM X.prog X.w) X.A (jm tg (.ref it) u) (fun _ s2=>∃ y H',Inv X pins σ H' s2/\RelV y u/\(Its x).yld i H y H'/\s2.heap.IsStrIter it (qm x) x t (i + 1)/\∀ b∈[it],H' b=none) E {s with heap:=h',toks:=tk}:=by
   rintro v h' tk ⟨c,u,hc',rfl⟩ st' kk;have I1:Inv X pins σ H {s with heap:=h',toks:=tk}:=I.turned (fun b o hb e=>kk b o (by simpa using hb) e) f0 f1 f3 f4 f5;obtain ⟨o,e,cl,d⟩:=id st';refine ⟨_,rfl,Az (s:={s with heap:=h',toks:=tk}) e cl d (by rcases uv x with z | z <;> rw [z] <;> decide) ⟨.str ⟨#[c]⟩,H,I1,⟨u,rfl⟩,⟨rfl,c,hc',rfl⟩,st',fun b hb=>(hf b hb).1⟩⟩
  rcases uv x with z | z
  ·rw [z] at st go |-;exact (Ft (prog:=X.prog) (w:=X.w) (I.ok.hd hc) it x t).item i s _ _ hg st fun v h' tk a b c=>go v h' tk a b c
  ·rw [z] at st go |-;exact (Gx (prog:=X.prog) (w:=X.w) (I.ok.hd hc) it x t).item i s _ _ hg st fun v h' tk a b c=>go v h' tk a b c
 done:=by
  intro X hP hw hK hc i pins s σ H E I hf st hg;subst hP hw hK;obtain ⟨f0,f1,f2,f3,f4,f5⟩:=hf it (by simp)
  cases (show i=x.cps.size from hg)
  rcases uv x with z | z
  ·rw [z] at st;exact (Ft (prog:=X.prog) (w:=X.w) (I.ok.hd hc) it x t).done s _ _ st fun h' tk kk=>⟨rfl,I.turned (fun b o hb e=>kk b o (by simpa using hb) e) f0 f1 f3 f4 f5⟩
  ·rw [z] at st;exact (Gx (prog:=X.prog) (w:=X.w) (I.ok.hd hc) it x t).done s _ _ st fun h' tk kk=>⟨rfl,I.turned (fun b o hb e=>kk b o (by simpa using hb) e) f0 f1 f3 f4 f5⟩
 self:=fun A i s Q E st h=>by
  rcases uv x with z | z
  ·rw [z] at st;exact wpAny_pyIter_striter_ascii st h
  ·rw [z] at st;exact wpAny_pyIter_striter_wide st h
section
variable {X:Cx} {tg:cI}
def Gy (tl:TE):TI:=fun σ H R=>tl σ H fun x H1=>∃ y,x=.str y/\R (Its y) H1
theorem Fu {l:cI} {tl:TE} (hl:PE X l tl):PI X tg l (Gy tl):=by
 intro pins s σ H R I h;refine thn (hl pins s σ H _ I h) fun v s1 ⟨x,H1,I1,r1,y,e,q⟩=>?_;subst e;obtain ⟨t,rfl⟩:=r1;refine wpAny_pyIter_strU ?_;refine ⟨s1.heap.objs.size,[s1.heap.objs.size],_,_,H1,rfl,I1.kept (t':=s1.toks) fun b o e=>aD _ e,BF _ y t,⟨_,bV _ rfl,rfl,rfl⟩,fun b hb=>?_,q⟩;have e:b=s1.heap.objs.size:=by simpa using hb
 subst e;exact I1.fpOk (ay _) (I1.hok.fresh (ay _))
end
section
variable {x:Str} {n:Nat} {g:TG} {tc:TT} {te:TE} {σ:St} {H:Hp} {Q:VK}
theorem BG (Pv:Nat->List V->Hp->Prop) (h0:Pv 0 [] H) (hl:∀ i ys H,i<=x.cps.size->Pv i ys H->ys.length < aw)
  (hs:∀ i c ys H,x.cps[i]?=some c->Pv i ys H->g (.str ⟨#[c]⟩) (aJ n none++σ) H fun σ2 H2=>σ2.drop n=σ/\tc σ2 H2 fun b H3=>if b=true then te σ2 H3 fun y H4=>Pv (i + 1) (ys++[y]) H4 else Pv (i + 1) ys H3)
  (hd:∀ ys H,Pv x.cps.size ys H->∀ p,H p=none->Q (.ref p) (upd H p (.lst ys))) :
  ∃ W:Nat->Nat->List V->Hp->Prop,(∃ m,W 0 m [] H)/\∀ i m ys H,W i m ys H->ys.length < aw/\(((Its x).stop i H/\∀ p,H p=none->Q (.ref p) (upd H p (.lst ys))) \/
   ((Its x).go i H/\∃ N:List V->Hp->Prop,(∀ ys' H',N ys' H'->∃ m',m' < m/\W (i + 1) m' ys' H')/\∀ v H',(Its x).yld i H v H'->g v (aJ n none++σ) H' fun σ2 H2=>σ2.drop n=σ/\tc σ2 H2 fun b H3 =>
    if b=true then te σ2 H3 fun y H4=>N (ys++[y]) H4 else N ys H3)):=by
 refine ⟨fun i m ys H=>m=x.cps.size - i/\i<=x.cps.size/\Pv i ys H,⟨x.cps.size,by simp,aU _,h0⟩,?_⟩;rintro i m ys H ⟨rfl,hi,p⟩;refine ⟨hl i ys H hi p,?_⟩
 by_cases hlt:i < x.cps.size
 ·refine .inr ⟨hlt,Pv (i + 1),fun ys' H' p'=>⟨x.cps.size - (i + 1),by omega,rfl,hlt,p'⟩,fun v H' y=>?_⟩;obtain ⟨rfl,c,hc,rfl⟩:=y;exact hs i c ys _ hc p
 ·have e:i=x.cps.size:=by omega
  subst e;exact .inl ⟨rfl,hd ys H p⟩
end
def Itv (K:ai) (a:ak) (xs:List V):It:=⟨fun i H=>SqL K H a xs/\i < xs.length,fun i H v H'=>H'=H/\xs[xs.length - 1 - i]?=some v,fun i _=>i=xs.length⟩
theorem Ds {P:aQ} {w:bT} {K:ai} {tg:cI} (a it:ak) (xs:List V):Cs P w K tg (Itv K a xs) [it] it (fun i h=>h.IsRevIter it a ((xs.length:Int) - 1 - i)) where
 mem:=by simp
 obj:=fun i h st b hb=>by
  have e:b=it:=by simpa using hb
  subst e;obtain ⟨o,e,c,d⟩:=st;exact ⟨o,e,fun v z=>by rw [d] at z; cases z⟩
 keep:=fun i h h' st k=>st.at fun o e=>k it (by simp) o e
 item:=by
  intro X hP hw hK hc i pins s σ H E I hf st hg;subst hP hw hK;obtain ⟨hq,hi⟩:=hg;obtain ⟨its,rv,p,hz⟩:=I.list hq;obtain ⟨f0,f1,f2,f3,f4,f5⟩:=hf it (by simp);have e:(xs.length:Int) - 1 - (i:Int)=((xs.length - 1 - i:Nat):Int):=by omega
  rw [e] at st;have hx:xs[xs.length - 1 - i]?=some xs[xs.length - 1 - i]:=aL (by omega);obtain ⟨u,hu,ru⟩:=rv.get hx;refine wpAny_pyNext_rev_item st p.isList (x:=u) (by simpa using hu) fun h' st' sb=>?_;have I1:Inv X pins σ H {s with heap:=h'}:=I.turned (t':=s.toks) (fun b o hb e=>(sb.2 b hb).trans e) f0 f1 f3 f4 f5;have e2:((xs.length - 1 - i:Nat):Int) - 1=(xs.length:Int) - 1 - ((i + 1:Nat):Int):=by omega
  rw [e2] at st';obtain ⟨o,e,c,d⟩:=id st';exact ⟨u,rfl,Az (s:={s with heap:=h'}) e c d (by decide) ⟨_,H,I1,ru,⟨rfl,hx⟩,st',fun b hb=>(hf b hb).1⟩⟩
 done:=by
  intro X hP hw hK hc i pins s σ H E I hf st hg;subst hP hw hK
  cases (show i=xs.length from hg);obtain ⟨f0,f1,f2,f3,f4,f5⟩:=hf it (by simp);have e:(xs.length:Int) - 1 - (xs.length:Int)=-1:=by omega
  rw [e] at st;exact wpAny_pyNext_rev_end (I.ok.hd hc) st fun h' eb=>⟨rfl,I.turned (t':=s.toks) (fun b o hb e=>eb b o hb e) f0 f1 f3 f4 f5⟩
 self:=fun _ _ _ _ _ st h=>Fv st h
section
variable {X:Cx} {tg:cI}
theorem boot_reversed:eC "reversed"=some (.type "reversed"):=by decide +kernel
def iRev (K:ai) (ta:TA):TI:=fun σ H R=>ta σ H fun vs H1=>∃ a xs,vs=[.ref a]/\SqL K H1 a xs/\R (Itv K a xs) H1
theorem ID {a:cI} {ta:TA} {p pos:Pos} (hg:Gl X "reversed") (hm:X.mg "reversed"=none) (ha:PA X [a] ta) (hs:bB [a] X.env=[(false,dE a X.env)]:=by rfl):PI X tg (.Call (.Name "reversed" p) [a] [] pos) (iRev X.K ta):=by
 intro pins s σ H R I h;refine Call_ (oF I hg hm boot_reversed (eI (thn (ha pos pins s σ H _ I h) fun us s1 ⟨vs,H1,I1,r1,q1⟩=>?_) hs rfl));obtain ⟨l,xs,e,hq,q⟩:=q1;subst e;obtain ⟨u,rfl,ru⟩:=vals1 r1
 cases ru;obtain ⟨its,rv,pl,hz⟩:=I1.list hq;refine IE pl.isList ?_;have sz:((its.toArray.size:Nat):Int) - 1=(xs.length:Int) - 1 - ((0:Nat):Int):=by
  rw [aI,<- rv.length];omega
 have st:(s1.heap.push (revObj l ((its.toArray.size:Int) - 1))).IsRevIter s1.heap.objs.size l ((xs.length:Int) - 1 - ((0:Nat):Int)):=by
  rw [sz];exact ⟨_,bV _ rfl,rfl,rfl⟩
 refine Fv st ?_;refine ⟨s1.heap.objs.size,[s1.heap.objs.size],_,_,H1,rfl,I1.kept (t':=s1.toks) fun b o e=>aD _ e,Ds l _ xs,st,fun b hb=>?_,q⟩;have e:b=s1.heap.objs.size:=by simpa using hb
 subst e;exact I1.fpOk (ay _) (I1.hok.fresh (ay _))
theorem Fw {K:ai} {a:ak} {xs:List V} {g:TG} {tb:TS} {D:Ends} {σ:St} {H:Hp} (Pv:Nat->St->Hp->Prop) (h0:Pv 0 σ H) (hl:∀ i σ H,i<=xs.length->Pv i σ H->SqL K H a xs)
  (hs:∀ i x σ H,xs[xs.length - 1 - i]?=some x->i < xs.length->Pv i σ H->g x σ H fun σ2 H2=>tb {D with nx:=Pv (i + 1),ct:=Pv (i + 1),bk:=D.nx} σ2 H2) (hd:∀ σ H,Pv xs.length σ H->D.nx σ H) :
  ∃ W:Nat->Nat->St->Hp->Prop,(∃ m,W 0 m σ H)/\∀ i m σ H,W i m σ H ->
   ((Itv K a xs).stop i H/\D.nx σ H)\/((Itv K a xs).go i H/\∃ N:St->Hp->Prop,(∀ σ' H',N σ' H'->∃ m',m' < m/\W (i + 1) m' σ' H')/\∀ x H',(Itv K a xs).yld i H x H'->g x σ H' fun σ2 H2=>tb {D with nx:=N,ct:=N,bk:=D.nx} σ2 H2):=by
 refine ⟨fun i m σ H=>m=xs.length - i/\i<=xs.length/\Pv i σ H,⟨xs.length,by simp,aU _,h0⟩,?_⟩;rintro i m σ H ⟨rfl,hi,p⟩
 by_cases hlt:i < xs.length
 ·refine .inr ⟨⟨hl i σ H hi p,hlt⟩,Pv (i + 1),fun σ' H' p'=>⟨xs.length - (i + 1),by omega,rfl,hlt,p'⟩,fun x H' y=>?_⟩;obtain ⟨rfl,y⟩:=y;exact hs i x σ _ y hlt p
 ·have e:i=xs.length:=by omega
  subst e;exact .inl ⟨rfl,hd σ H p⟩
def IF:V->List V->Hp->VK->Prop:=fun x vs H Q=>∃ t z,x=.str t/\vs=[.str z]/\(z.length == 0)=false/\t.length<=100000/\∀ l,H l=none->Q (.ref l) (upd H l (.lst ((hZ t z).map V.str)))
theorem sC:∀ {l:List (Str×Tok)},dv ((l.map (·.1)).map V.str) (strValues l)
 | []=>.nil
 |(x,t) :: l=>.cons ⟨t,rfl⟩ sC
theorem sD:MtR X "str.split" IF:=by
 intro pins s σ H x vs v us Q I rx rv h;obtain ⟨t,z,rfl,rfl,hz,hl,q⟩:=h;obtain ⟨k,rfl⟩:=rx;obtain ⟨u,rfl,ru⟩:=rv.one;obtain ⟨k2,rfl⟩:=ru;have big:(1000000:Nat)<=aw:=by decide
 have fin:∀ (l:List (Str×Tok)) (k:Nat),l.map (·.1)=hZ t z->EP X pins σ Q (.ref s.heap.objs.size) {s with heap:=s.heap.push {cls:=.type "list",data:=.seq (strValues l).toArray},toks:=k}:=fun l k e=>by
  refine ⟨.ref s.heap.objs.size,upd H s.heap.objs.size (.lst ((hZ t z).map V.str)),I.laid (t':=k) (fun b u e=>aD _ e) (ay _) ?_,rfl,q _ (I.hok.fresh (ay _))⟩;rw [<- e];refine ⟨?_,strValues l,0,sC,bV _ rfl⟩;have:=PyProof.Rows.split_le t z;rw [e,aa];omega
 have hn:(partsBetween t (occurrences t z 0 t.length (t.length + 1)) z.length).length<=aw:=by
  have e1:=StrLaws.occ_length_le t z 0 t.length (t.length + 1);rw [length_partsBetween];omega
 cases h1:(decide (t.length < z.length) || decide (strKind t < strKind z))
 ·cases hf:(occurrences t z 0 t.length (t.length + 1)).isEmpty
  ·refine rJ vX (mQ _ _ _) vd (uj _ _) (meets_str_split_sep t z k k2 h1 hz hf (by omega) hn) ?_;show wants _ _ _ {s with toks:=_,heap:=s.heap.push {cls:=.type "list",data:=.seq (strsFrom s.toks (partsBetween t (occurrences t z 0 t.length (t.length + 1)) z.length)).toArray}};rw [strsFrom_eq];exact fin (numbered s.toks _) _ ((numbered_texts _ _).trans ((if_neg (ne_true_of_eq_false h1)).trans (if_neg (ne_true_of_eq_false hf))).symm)
  ·exact rJ vX (mQ _ _ _) vd (uj _ _) (meets_str_split_not_found t z k k2 h1 hz hf) (fin [(t,k)] s.toks ((if_neg (ne_true_of_eq_false h1)).trans (if_pos hf)).symm)
 ·exact rJ vX (mQ _ _ _) vd (uj _ _) (meets_str_split_cannot_occur t z k k2 h1) (fin [(t,k)] s.toks (if_pos h1).symm)
def sw (x y:Str):Bool:=decide (0 + y.length<=x.length) && subAt x y 0
theorem tF:MtR X "str.startswith" (fun x vs H Q=>∃ t z,x=.str t/\vs=[.str z]/\Q (.bl (sw t z)) H):=by
 intro pins s σ H x vs v us Q I rx rv h;obtain ⟨t,z,rfl,rfl,q⟩:=h;obtain ⟨k,rfl⟩:=rx;obtain ⟨u,rfl,ru⟩:=rv.one;obtain ⟨k2,rfl⟩:=ru;exact call_gives F.slot_str_startswith (mQ _ _ _) F.entry_str_startswith (F.args_str_startswith_2 _ _) (gives_str_startswith t z k k2) ⟨.bl (sw t z),H,I,rfl,q⟩
theorem wN:OpR X (dA .LtE) (fun x y H Q=>∃ i j,x=.str i/\y=.str j/\Q (.bl (!decide (j.cps.toList < i.cps.toList))) H):=by
 intro pins s σ H x y v u Q I rx ry h;obtain ⟨i,j,rfl,rfl,q⟩:=h;obtain ⟨t,rfl⟩:=rx;obtain ⟨t',rfl⟩:=ry;exact PySem.P.le_str (ej I q rfl)
theorem yQ {a:ak} {D:List (Str×Str)} (h:Tab X.K a D):OpR X (dA .NotIn) (fun x y H Q=>∃ k,x=.str k/\y=.ref a/\Q (.bl (!xK k (xI D))) H):=by
 intro pins s σ H x y v u Q I rx ry q;obtain ⟨k,rfl,rfl,q⟩:=q;obtain ⟨t,rfl⟩:=rx
 cases ry;exact KTD.notin_text (h₀:=s.heap) ⟨Fi (fun b o e=>I.kIn b o e) h,fun _ _ e=>e⟩ ⟨.bl _,H,I.tok _,rfl,q⟩
theorem AV:∀ {ns:List Int} {us:List ag},dv (ns.map V.int) us->CV us ns
 | [],_,.nil=>.nil
 | _ :: _,_,.cons ⟨t,e⟩ r=>e ▸ .cons _ t (AV r)
theorem BH (hc:X.calm=true):oj X (.builtin "max") (fun xs H Q=>∃ l ns,xs=[V.ref l]/\SqL X.K H l (ns.map V.int)/\ns≠[]/\∀ M,M∈ns->(∀ a∈ns,a<=M)->Q (.int M) H):=by
 intro pins s σ H xs us Q I r h;obtain ⟨l,ns,rfl,hl,ne,q⟩:=h;obtain ⟨u,rfl,ru⟩:=vals1 r
 cases ru;obtain ⟨its,rv,pl,hz⟩:=I.list hl;have hi:=AV rv;obtain ⟨ys,e⟩:=hi.allInts.items;have hns:ns=ys.toList.map (·.1):=by
  rw [<- hi.numsOf,<- nums_intItems,<- e]
 have hsz:0 < ys.size:=by
  have:=dH.mpr ne;rw [hns,aa,cJ] at this;exact this
 have pl':=pl.isList;rw [e] at pl';refine max_intList (I.ok.hd hc) pl' hsz fun v h' tk hv hk=>?_;obtain ⟨t,rfl⟩:=intItems_at hv;obtain ⟨h1,h2⟩:=argBest_gt (numAt ys) (ys.size - 1);refine ⟨.int _,H,I.kept (t':=tk) hk,⟨t,rfl⟩,q _ ?_ fun a ha=>?_⟩
 ·rw [hns,numAt_eq];exact getD_mem (by rw [aa,cJ]; omega)
 ·rw [hns] at ha;obtain ⟨j,hj,rfl⟩:=mem_getD ha;rw [aa,cJ] at hj;rw [<- numAt_eq];exact h2 j (by omega)
theorem BI:∀ (bs:List Bool),(jZ bs.length).all (fun i=>(bs[i]?).getD false)=bs.all id:=fun bs=>by
 cases h:bs.all id with
 | true =>
  rw [iA] at h |-;intro i hi;rw [rm] at hi;rw [aL hi];exact h _ (ei hi)
 | false =>
  rw [List.all_eq_false] at h |-;obtain ⟨x,hx,e⟩:=h;obtain ⟨i,hi,rfl⟩:=List.mem_iff_getElem.mp hx;exact ⟨i,rm.mpr hi,by rw [aL hi]; exact e⟩
theorem BJ (hc:X.calm=true):oj X (.builtin "all") (fun xs H Q=>∃ (l:ak) (bs:List Bool),xs=[V.ref l]/\SqL X.K H l (bs.map V.bl)/\Q (.bl (bs.all id)) H):=by
 intro pins s σ H xs us Q I r h;obtain ⟨l,bs,rfl,hl,q⟩:=h;obtain ⟨u,rfl,ru⟩:=vals1 r
 cases ru;obtain ⟨its,rv,pl,hz⟩:=I.list hl;have ltl:l < s.heap.objs.size:=let ⟨_,ho,_⟩:=pl.isList; ba ho;have hlen:its.toArray.size=bs.length:=by
  rw [aI,<- rv.length,aa]
 refine call_all_walk (vQ pl.isList ?_);refine ⟨s.heap.objs.size,[s.heap.objs.size,l],[s.heap.objs.size],its.toArray.size,_,_,fun i=>(bs[i]?).getD false,rfl,Walks.list (A:=X.A.in1) (I.ok.hd hc) s.heap.objs.size l (bz ltl) its.toArray,⟨⟨_,bV _ rfl,rfl,rfl⟩,pl.isList.at fun o e=>aD _ e⟩,?_,?_⟩
 ·intro i v z Q' E' hv hQ;have hv':its[i]?=some v:=by simpa using hv
  have li:i < bs.length:=by
   have:=(bg.mp hv').1;have:=rv.length;rw [aa] at this;omega
  have eb:(bs.map V.bl)[i]?=some (.bl bs[i]):=by rw [cb,aL li]; rfl
  obtain ⟨w',hw,rw'⟩:=rv.get eb;rw [hv'] at hw
  cases hw
  cases rw';have e0:(bs[i]?).getD false=bs[i]:=by rw [aL li]; rfl
  have hQ':Q' ((bs[i]?).getD false) z:=hQ;rw [e0] at hQ';exact dO hQ'
 ·intro h' tk kk;rw [hlen,BI];refine ⟨.bl _,H,I.kept (t':=tk) fun b o e=>kk b o ?_ (aD _ e),rfl,q⟩;have:=ba e;intro z;have z':b=s.heap.objs.size:=by simpa using z
  exact absurd (z' ▸ this) (d8 _)
end
end L2
namespace L2
open PySem PySem.Spec PyProof.Rows
theorem Dt:uN (.type "list_reverseiterator") "__len__"=pure none:=by rw [typeLookup_type,EG]; kernel_rfl
theorem Fx:uN (.type "list_reverseiterator") "__length_hint__"=pure (some (.builtin "list_reverseiterator.__length_hint__")):=by rw [typeLookup_type,EG]; kernel_rfl
section
variable {prog:aQ} {w:bT} {A:bQ} {E:ag->ah->Prop} {s:ah}
variable {I:ak} {fp wr:List ak} {G:Array EJ->Array EJ->Prop} {n:Nat} {P:Nat->ag->Prop} {St:Nat->ah->Prop} {R:mO->ah->Prop}
theorem Fy (W:WalksS prog w A.in1 I fp wr G n P St) (hT:∀ i z,St i z->z.TypeIs (.ref I) "list_reverseiterator") (S:ak) (res:ag) (c₀:Nat) (hst:St 0 s) (hSf:S∉fp) (hI:I∈fp) (hS:s.heap.get? S=some {cls:=.type "list",data:=.seq #[] c₀})
  (hR:∀ z acc c,Moved (S :: wr) G s z->z.heap.get? S=some {cls:=.type "list",dict:=none,data:=.seq acc c,slots:=#[]}->ItemsOf P acc n->R (.ok (.ret res)) z) (hn:n<=aw) :
  aY (aM prog w) A.in1 (iH (.ref S) (.ref I) res) (fun fin z=>match fin with | .done f=>R (.ok f) z | .again d=>d.quiet=true/\qg (aM prog w) A d R z) (fun e z=>R (.error e) z) s:=by
 have hSI:S≠I:=fun e=>hSf (e ▸ hI);have h1:tR (.ref S) (.ref I)=false:=by simp [tR,hSI]
 unfold iH;refine ae (wpAny_typeOf (hT 0 _ hst) ?_);rw [if_neg (by rw [h1]; decide)];refine ae (W.self 0 _ _ _ hst ?_);refine ae (bH ?_);unfold Builtin.List.listLengthHint;refine ae (rW (hT 0 _ hst) Dt ?_);show aY _ A.in1 (specialOf (Value.ref I) (bj "__length_hint__") >>= _) _ _ _;refine ae (rW (hT 0 _ hst) Fx ?_);generalize hid:("list_reverseiterator.__length_hint__":String)=id0
 wp_delta
 rw [show splitId id0=some ("list_reverseiterator","__length_hint__") from by subst hid; decide +kernel];subst hid;refine ae (wpAny_isInstance (b:=true) (hT 0 _ hst) (by rw [isSubtype_type]; kernel_rfl) ?_);refine av ?_;rw [if_neg (by decide)];exact av ⟨Bu F.plain_extend_loop _,codeAny_extend_loopS W hn _ hSf _ n 0 _ _ _ rfl (aU _) hst hS (ItemsOf.nil P) hR⟩
theorem Du {Q:ag->ah->Prop} (W:WalksS prog w A.in1.in1 I fp wr G n P St) (hT:∀ i z,St i z->z.TypeIs (.ref I) "list_reverseiterator") (hst:St 0 s) (hfp:∀ b∈fp,b < s.heap.objs.size) (hI:I∈fp)
  (hQ:∀ z acc c,Moved (s.heap.objs.size :: wr) G {s with heap:=s.heap.push {cls:=.type "list",data:=.seq #[]}} z->z.heap.get? s.heap.objs.size=some {cls:=.type "list",dict:=none,data:=.seq acc c,slots:=#[]}->ItemsOf P acc n->Q (.ref s.heap.objs.size) z) (hn:n<=aw) :
  aY (aM prog w) A (sX (.type "list") [.ref I]) Q E s:=by
 have hSf:s.heap.objs.size∉fp:=fun hm=>d8 _ (hfp _ hm);refine callType_codes (Q₁:=fun obj z=>obj=.ref s.heap.objs.size/\z={s with heap:=s.heap.push {cls:=.type "list",data:=.seq #[]}}) F.called_list (F.typeCall_list_1 _) F.entry_list_init (code_list_new _ ⟨rfl,rfl⟩) fun obj z hz=>?_;obtain ⟨rfl,rfl⟩:=hz;have hS:(s.heap.push {cls:=.type "list",data:=.seq #[]}).get? s.heap.objs.size=some {cls:=.type "list",data:=.seq #[]}:=bV _ rfl;refine ⟨⟨_,hS,rfl⟩,F.args_list_init_2 _ _,?_⟩;have st1:=W.frame 0 s (s.heap.push {cls:=.type "list",data:=.seq #[]}) s.toks hst (ay _) fun b _ o e=>aD _ e;show aY _ A.in1.in1 (do let old <- uw (.ref s.heap.objs.size); Builtin.List.listUpdate (.ref s.heap.objs.size) (fun _=>#[]); letGo old.toList.reverse; iH (.ref s.heap.objs.size) (.ref I) .none) _ _ _;refine ae ?_;unfold uw;refine ae (wpAny_seqItems hS rfl (av ?_));show aY _ A.in1.in1 (updateSeq s.heap.objs.size (fun _=>#[]) >>= fun _=>letGo (#[]:Array ag).toList.reverse >>= fun _=>iH (.ref s.heap.objs.size) (.ref I) .none) _ _ _;refine ae (wpAny_updateSeq hS rfl ?_);have hS2:=fz (oJ (fun _=>(#[]:Array ag))) hS rfl;have oth:∀ b o,b≠s.heap.objs.size->(s.heap.push {cls:=.type "list",data:=.seq #[]}).get? b=some o->((s.heap.push {cls:=.type "list",data:=.seq #[]}).update s.heap.objs.size (oJ (fun _=>(#[]:Array ag)))).get? b=some o:=
  fun b o hb e=>(cZ _ _ (eW hb)).trans e
 refine ae (wpAny_letGo ?_);refine Fy W hT s.heap.objs.size .none _ (W.frame 0 _ _ s.toks st1 (ay _) fun b hb o e=>oth b o (fun y=>hSf (y ▸ hb)) e) hSf hI hS2 (fun z acc c hm hz ha=>?_) hn;exact ⟨rfl,hQ z acc c (Moved.trans W.gtrans ((Moved.refl W.grefl).then_heap (ay _) fun b o hb e=>oth b o (fun y=>hb (y ▸ aA)) e) hm) hz ha⟩
end
section
variable {X:Cx}
def Dv (K:ai) (te:TE):TE:=fun σ H Q=>te σ H fun x H1=>∃ a xs,x=.ref a/\SqL K H1 a xs/\∀ l,H1 l=none->Q (.ref l) (upd H1 l (.lst xs.reverse))
theorem Aj {a:cI} {te:TE} {p1 p2 p3 p4:Pos} (hc:X.calm=true) (hg:Gl X "reversed") (hm:X.mg "reversed"=none) (hg2:Gl X "list") (hm2:X.mg "list"=none) (ha:PE X a te) (hs:bB [a] X.env=[(false,dE a X.env)]:=by rfl)
  (hs2:bB [.Call (.Name "reversed" p1) [a] [] p2] X.env=[(false,dE (.Call (.Name "reversed" p1) [a] [] p2) X.env)]:=by rfl):PE X (.Call (.Name "list" p3) [.Call (.Name "reversed" p1) [a] [] p2] [] p4) (Dv X.K te):=by
 intro pins s σ H Q I h;refine Call_ (oF I hg2 hm2 boot_list (eI (e:=.Call (.Name "reversed" p1) [a] [] p2) (rest:=[]) ?_ hs2 rfl));rw [hs2];refine nO ?_;refine Call_ (oF I hg hm boot_reversed (eI (e:=a) (rest:=[]) ?_ hs rfl));rw [hs];refine nO (thn (ha pins s σ H _ I h) fun v s1 z=>oQ ?_);obtain ⟨x,H1,I1,r1,l,xs,rfl,hq,q⟩:=z
 cases r1;obtain ⟨its,rv,pl,hz⟩:=I1.list hq;refine IE pl.isList (oQ ?_);have ltl:l < s1.heap.objs.size:=let ⟨_,ho,_⟩:=pl.isList; ba ho;have sz:=rv.length;generalize hh:s1.heap.push (revObj l ((its.toArray.size:Int) - 1))=h2;have keep:∀ b o,s1.heap.get? b=some o->h2.get? b=some o:=fun b o e=>by rw [<- hh]; exact aD _ e
 have new:h2.get? s1.heap.objs.size=some (revObj l ((its.toArray.size:Int) - 1)):=by rw [<- hh]; exact bV _ rfl
 have szh:h2.objs.size=s1.heap.objs.size + 1:=by rw [<- hh]; exact kC ..
 have I2:Inv X pins σ H1 {s1 with heap:=h2}:=I1.kept (t':=s1.toks) keep;refine Du (s:={s1 with heap:=h2}) (Walks.listRev (A:=X.A.in1.in1) (I1.ok.hd hc) s1.heap.objs.size l (bz ltl) its.toArray).toS (fun i z st=>st.2.1.typeIs) ⟨aU _,?_,pl.isList.at fun o e=>keep _ _ e⟩ (fun b hb=>?_) (by simp) (fun z acc c mv ho it=>?_) (by rw [aI,<- sz]; exact hz)
 ·have e:((its.toArray.size:Nat):Int) - 1 - ((0:Nat):Int)=(its.toArray.size:Int) - 1:=by omega
  rw [e];exact ⟨_,new,rfl,rfl⟩
 ·rw [szh]
  rcases ar.mp hb with e | e
  ·rw [e];exact lE _
  ·rw [au.mp e];exact t9 ltl
 ·obtain ⟨asz,ait⟩:=it;have el:acc.toList=its.reverse:=by
   apply Dw;intro j
   by_cases hj:j < its.length
   ·have hj':j < acc.size:=by rw [asz,aI]; exact hj
    have e1:=ait j acc[j] (oO hj');rw [List.getElem?_reverse hj,qz,oO hj',<- e1,aI,List.getElem?_toArray]
   ·rw [gW (by rw [cJ,asz,aI]; omega),gW (by rw [iz]; omega)]
  have ne:∀ b o,s1.heap.get? b=some o->b∉[h2.objs.size,s1.heap.objs.size]:=fun b o e hm=>by
   have lt:=ba e
   rcases ar.mp hm with y | y
   ·rw [y,szh] at lt;exact absurd (Nat.lt_of_succ_lt lt) (d8 _)
   ·rw [au.mp y] at lt;exact absurd lt (d8 _)
  have kp:∀ b o,s1.heap.get? b=some o->z.heap.get? b=some o:=fun b o e=>mv.heap b o (ne b o e) (aD _ (keep b o e));obtain ⟨zh,zg,zd,zt,zo⟩:=z;obtain rfl:zg=s1.gens:=mv.gens;obtain rfl:zd=s1.drawn:=mv.drawn;obtain rfl:zo=s1.os:=mv.os;have hD:s1.heap.objs.size<=h2.objs.size:=by rw [szh]; exact ib _
  refine ⟨.ref h2.objs.size,upd H1 h2.objs.size (.lst xs.reverse),I1.laid (t':=zt) kp hD ⟨by rw [iz]; exact hz,acc.toList,c,?_,by rw [lJ]; exact ho⟩,rfl,q _ (I1.hok.fresh hD)⟩;rw [el];exact rv.reverse
end
def FlE (dc:Option ak) (B:cP) (l:List Env) (e:ak) (cls fl:ag) (h:cP):Prop:=
 B.StaysIn h/\B.get? e=none/\h.FunFrames B l/\∃ oe vs T oT ts,h.get? e=some oe/\oe.cls=cls/\oe.dict=dc/\oe.data=.fields vs/\vs[1]?=some (.ref T)/\B.get? T=none/\T≠e/\h.get? T=some oT/\oT.data=.fields ts/\ts[3]?=some fl
section
variable {M:mB} {A:bQ} {E:ag->ah->Prop} {s:ah} {B:cP} {env:Env} {outer l:List Env} {L e:ak} {cls fl:ag} {Q:Unit->ah->Prop} {dc:Option ak}
theorem yR {oe:Obj} {vs:Array ag} {head:ag} {nx:Bool} (hfr:A.frames=some (env :: outer)) (hl:s.heap.FunFrames B (env :: outer)) (hf:env.frame=some L) (he:s.heap.get? e=some oe) (hB:B.StaysIn s.heap) (hn:B.get? e=none)
  (hd:oe.data=.fields vs) (hz:1 < vs.size) (hdc:oe.dict=dc) (k:∀ h',FlE dc B (env :: outer) e oe.cls (mJ L) h'->s.heap.UpToSlots h'->Q () {s with heap:=h'}) :
  aY M A (do let a <- frameOf env; let pl <- entryPlaceOf L nx; let b <- k7 head a .none (mJ L) .none pl; setField (.ref e) 1 b) Q E s:=by
 have ef:e∉(env :: outer).filterMap (·.frame):=fun hm=>by
  obtain ⟨_,o,ho,q⟩:=hl.mem hm;rw [he] at ho
  cases ho;exact q vs hd
 refine ae (Jf hfr hl hf fun h1 g1=>ae (Il fun pl hpl=>?_));unfold k7 newFields;refine ae (gH ?_ (hpl.sizeOk5 _ _ _ _ _));have e1:h1.get? e=some oe:=(g1.2.1 e ef).trans he;have b1:B.StaysIn h1:=fun b o z=>(g1.2.1 b fun hm=>by rw [(hl.mem hm).1] at z; cases z).trans (hB b o z);have ne:h1.objs.size≠e:=nM (ba e1);generalize hob:({cls:=.type "traceback",dict:=none,data:=.fields ([head,.ref L,.none,mJ L,.none]++(if pl.isEmpty then aJ 6 Value.none else pl)).toArray}:Obj)=ob;have e2:(h1.push ob).get? e=some oe:=aD _ e1;have t2:(h1.push ob).get? h1.objs.size=some ob:=bV h1 (by rw [<- hob]; rfl);refine pK e2 hd hz (k _ ?_ ?_)
 ·have d3:=iU hd (·.setIfInBounds 1 (Value.ref h1.objs.size));have keep:∀ b o,b≠e->h1.get? b=some o->((h1.push ob).update e (lO (·.setIfInBounds 1 (Value.ref h1.objs.size)))).get? b=some o:=fun b o q z=>by
   rw [cZ _ _ (eW q)];exact aD _ z
  refine ⟨fun b o z=>keep b o (fun q=>by rw [q,hn] at z; cases z) (b1 b o z),hn,hl.of_keeps fun b o z q=>?_,_,_,h1.objs.size,ob,_,fz _ e2 (lu d3),EE _ _,(wJ _ _).trans hdc,d3,by simp [hz],b1.fresh,ne,?_,by rw [<- hob],?_⟩
  ·obtain ⟨sl,w⟩:=g1.2.2 b o z;exact ⟨_,keep b _ (fun y=>by rw [y,he] at z; cases z; exact q vs hd) w,rfl⟩
  ·rw [cZ _ _ (eW ne)];exact t2
  ·first | (simp; done) | (rcases hpl with rfl | ⟨_,_,_,_,_,_,_,rfl⟩ <;> simp)
 ·intro b o z q;obtain ⟨sl,w⟩:=g1.2.2 b o z;refine ⟨sl,?_⟩;rw [cZ _ _ (fun y=>by rw [<- y,he] at z; cases z; exact q vs hd)];exact aD _ w
theorem AW (hfr:A.frames=some (env :: outer)) (hf:env.frame=some L) (x:FlE dc B (env :: outer) e cls .none s.heap) (k:∀ h',FlE dc B (env :: outer) e cls (mJ L) h'->s.heap.UpToSlots h'->Q () {s with heap:=h'}) :
  aY M A (jw (.ref e) env) Q E s:=by
 obtain ⟨hB,hn,hl,oe,vs,T,oT,ts,he,rfl,hdc,hd,h1,nT,Te,hT,dT,h3⟩:=x;unfold jw;simp only [hf];refine ae (i5 he hd h1 ?_);rw [if_pos (show (Value.ref T != Value.none)=true from by simp)];refine ae (i5 hT dT h3 ?_);rw [if_neg (show ¬ ((Value.none == mJ L)=true) from by simp [mJ])];refine ae (pK hT dT (gP.mp h3).1 ?_);have ot:∀ b,b≠T->(s.heap.update T (lO (·.setIfInBounds 3 Value.none))).get? b=s.heap.get? b:=fun b hb=>cZ _ _ (eW hb);refine yR (s:={s with heap:=s.heap.update T (lO (·.setIfInBounds 3 Value.none))}) hfr (hl.of_keeps fun b o z q=>⟨o,(ot b (qP hT dT z q)).trans z,rfl⟩) hf ((ot e (eW Te)).trans he)
  (fun b o z=>(ot b fun y=>by rw [y,nT] at z; cases z).trans (hB b o z)) hn hd (gP.mp h1).1 hdc fun h' y1 y2=>k h' y1 fun b o z q=>y2 b o ((ot b (qP hT dT z q)).trans z) q
theorem sE (x:FlE dc B l e cls fl s.heap) (k:∀ h',FlE dc B l e cls .none h'->s.heap.UpToSlots h'->Q () {s with heap:=h'}):aY M A (xE (.ref e) none) Q E s:=by
 obtain ⟨hB,hn,hl,oe,vs,T,oT,ts,he,hc,hdc,hd,h1,nT,Te,hT,dT,h3⟩:=x;have z3:3 < ts.size:=(gP.mp h3).1;have ot:∀ b,b≠T->(s.heap.update T (lO (·.setIfInBounds 3 ((none:Option ak).elim Value.none fun f=>mJ f)))).get? b=s.heap.get? b:=fun b hb=>cZ _ _ (eW hb);unfold xE;refine ae (i5 he hd h1 ?_);rw [if_pos (show (Value.ref T != Value.none)=true from by simp)];refine pK hT dT z3 (k _ ⟨fun b o z=>(ot b fun y=>by rw [y,nT] at z; cases z).trans (hB b o z),hn,hl.of_keeps fun b o z q=>⟨o,(ot b (qP hT dT z q)).trans z,rfl⟩,oe,vs,T,_,_,(ot e (eW Te)).trans he,hc,hdc,hd,h1,nT,Te,fz _ hT (lu (iU dT _)),iU dT _,by simp [z3]⟩
  fun b o z q=>⟨o.slots,(ot b (qP hT dT z q)).trans z⟩)
theorem FlE.tail (x:FlE dc B (env :: outer) e cls fl s.heap):FlE dc B outer e cls fl s.heap:=by
 obtain ⟨a,b,⟨_,_,c⟩,d⟩:=x;exact ⟨a,b,c,d⟩
theorem FlE.there {h:cP} (x:FlE dc B l e cls fl h):∃ ob,h.get? e=some ob/\ob.cls=cls:=by
 obtain ⟨_,_,_,oe,_,_,_,_,he,hc,_⟩:=x;exact ⟨oe,he,hc⟩
theorem BK (hfr:A.frames=some (env :: outer)) (hf:env.frame=some L) (x:FlE dc B (env :: outer) e cls .none s.heap) (k:∀ h',FlE dc B outer e cls .none h'->s.heap.UpToSlots h'->Q () {s with heap:=h'}):aY M A (tO env (.ref e)) Q E s:=by
 unfold tO;refine ae (AW hfr hf x fun h1 x1 u1=>sE (s:={s with heap:=h1}) x1 fun h2 x2 u2=>k h2 (FlE.tail (s:={s with heap:=h2}) x2) (u1.trans u2))
theorem Fz {oe:Obj} {vs:Array ag} (hfr:A.frames=some (env :: outer)) (hf:env.frame=some L) (hB:B.StaysIn s.heap) (hn:B.get? e=none) (hl:s.heap.FunFrames B (env :: outer)) (he:s.heap.get? e=some oe) (hd:oe.data=.fields vs) (h1:vs[1]?=some .none) (hdc:oe.dict=dc)
  (k:∀ h',FlE dc B outer e oe.cls .none h'->s.heap.UpToSlots h'->Q () {s with heap:=h'}):aY M A (tO env (.ref e)) Q E s:=by
 unfold tO jw;simp only [hf];refine ae (ae (i5 (x:=Value.none) he hd h1 ?_));rw [if_neg (show ¬ ((Value.none != Value.none)=true) by decide)];exact yR hfr hl hf he hB hn hd (gP.mp h1).1 hdc fun h1 x1 u1=>sE (s:={s with heap:=h1}) x1 fun h2 x2 u2=>k h2 (FlE.tail (s:={s with heap:=h2}) x2) (u1.trans u2)
end
theorem IG {h h':cP} {a:ak} {m:Str->Option ag} (x:h.Ns1 a m) (sm:h.UpToSlots h'):h'.Ns1 a m:=by
 obtain ⟨o,es,ep,e,d,r⟩:=x;obtain ⟨sl,e'⟩:=sm a o e (fun vs q=>by rw [d] at q; cases q);exact ⟨_,es,ep,e',d,r⟩
structure vY (K:ai) (C D f:ak):Prop where
 mro:(iP K C).any (fun cd=>cd.mro == [.ref C,.ref D,.type "ValueError",.type "Exception",.type "BaseException",.type "object"] && cd.hasDict)=true
 made:(K.lookup C).any (fun ob=>ob.cls == .type "type" && (match ob.data,ob.slots.toList with | .cls cd,[_,_,_,_,some (.builtin n),_]=>n == "ValueError.__new__" && !cd.hasDel | _,_=>false))=true
 tail:rq K D Im "ValueError.__new__"=true
 init:cf K (.ref C) "__init__"=some (some (.ref f))
 fn:j6 K (.ref f)=true
 kp:dY K (.ref C)=true
 sa:cf K (.ref C) "__setattr__"=some (some (.builtin "object.__setattr__"))
 nl:cf K (.ref C) "line"=some none
 x:uh K C
def FA (C D:ak):List ag:=[.ref C,.ref D,.type "ValueError",.type "Exception",.type "BaseException",.type "object"]
theorem vY.cd {K:ai} {C D f:ak} (c:vY K C D f):∃ cd,iP K C=some cd/\cd.mro=FA C D/\cd.hasDict=true:=by
 obtain ⟨cd,a,b⟩:=sZ c.mro;rw [cY,beq_iff_eq] at b;exact ⟨cd,a,b.1,b.2⟩
theorem vY.obj {K:ai} {C D f:ak} {h:cP} (c:vY K C D f) (X:K.In h):∃ nm q N bs hdct sn sub ab col dd k0 k1 k2 k3 k5,h.get? C=some (excClassObj nm q C N bs [.ref D,.type "ValueError",.type "Exception",.type "BaseException",.type "object"] hdct sn sub ab col dd k0 k1 k2 k3 k5 "ValueError.__new__"):=by
 obtain ⟨cd,hcd,hmro,hhd⟩:=c.cd;obtain ⟨ob,e1,e2⟩:=sZ c.made;have e3:=X _ _ e1;obtain ⟨oc,od,odt,osl⟩:=ob
 cases odt with
 | cls cd' =>
  obtain ⟨sl⟩:=osl;unfold iP at hcd;rw [e1] at hcd
  cases hcd;dsimp only at e2;rw [cY,beq_iff_eq] at e2;obtain ⟨rfl,e2⟩:=e2
  split at e2
  ·rename_i _ _ cd2 k0 k1 k2 k3 n k5 hdd
   cases hdd;rw [cY,beq_iff_eq,je] at e2;obtain ⟨rfl,hdel⟩:=e2;obtain ⟨nm,bs,mro,ns,qn,hd,sn,sub,ab,col,del⟩:=cd;dsimp only at hmro hdel;subst hmro hdel;exact ⟨nm,qn,ns,bs,hd,sn,sub,ab,col,od,k0,k1,k2,k3,k5,e3⟩
  ·cases e2
 | _=>rw [cY] at e2; exact absurd e2.2 (by simp)
section
variable {prog:aQ} {w:bT} {A:bQ} {E:ag->ah->Prop} {s:ah} {K:ai} {x C D f:ak} {ox:Obj} {v:ag}
theorem BL {Q:Unit->ah->Prop} (X:K.In s.heap) (hx:s.heap.get? x=some ox) (hc:ox.cls=.ref C) (hnc:j9 ox=true) (hdn:ox.dict=none) (c:vY K C D f)
  (h:∀ h',h'.get? x=some {ox with dict:=some s.heap.objs.size}->h'.Ns1 s.heap.objs.size (fun y=>if y="line" then some v else none)->(∀ b o,b≠x->s.heap.get? b=some o->h'.get? b=some o)->Q () {s with heap:=h',toks:=s.toks + 2}) :
  aY (aM prog w) A (setAttr (.ref x) "line" v) Q E s:=by
 have I:eE s.heap x ox C none:=⟨hx,hc,hnc,by rw [hdn]; trivial⟩;obtain ⟨cd,hcd,hmro,hhd⟩:=c.cd;refine AG X I c.sa ?_;have SF:=PySem.F.store_object;have hm:vZ (aM prog w) s.heap (mroOf (.ref C)) (FA C D):=by
  have z:=(q8 (M:=aM prog w) X hcd).andThen (f:=fun cd=>pure cd.mro) .now;rw [hmro] at z;exact z
 have sub:vZ (aM prog w) s.heap (Ag (.ref x) (.type "object")) true:=I.type.andThen (ra X c.x.ob);refine nX SF.slot.plain SF.entry (@PySem.W.check_slot (aM prog w) _ _ {s with toks:=s.toks + 1} "object.__setattr__" "object" "__setattr__" (.ref x) [.str "line" s.toks,v] [] _ SF.kind SF.split sub (SF.args (.ref x) (.str "line" s.toks) v) ?_);rw [PySem.W.osa_eq,refuse_eq];have I':eE ({s with toks:=s.toks + 1}:ah).heap x ox C none:=I;refine ae (ae (I'.type.here (ae (kY (s:={s with toks:=s.toks + 1}) hm ?_))));rw [show refuseLoop (.ref x) "__setattr__" (FA C D)=pure () from by
  unfold FA;rw [refuseLoop_ref,refuseLoop_ref];exact PySem.F.store_ValueError.passes (.ref x)]
 refine av (ae (I'.type.here (ae (kY (s:={s with toks:=s.toks + 1}) (eP X c.nl) ?_))));refine ae (av ?_);obtain ⟨hh,g,d,t,os⟩:=s;dsimp only at hx h;refine ae (av (ae (ae (tf hx ?_))));rw [hc];refine ae (kY (s:=⟨hh,g,d,t + 1,os⟩) (q8 X hcd) ?_);rw [hhd,hdn];have hxs:x≠hh.objs.size:=bz (ba hx);have hx1:(hh.push {cls:=.type "dict",data:=.dict #[]}).get? x=some ox:=aD _ hx;have nf:(({ox with dict:=some hh.objs.size}:Obj)).isFreed=false:=by
  have z:=(Heap.get?_some_iff.mp hx).2;obtain ⟨oc,od,odt,osl⟩:=ox
  cases odt <;> first | rfl | exact z
 have hnd:((hh.push {cls:=.type "dict",data:=.dict #[]}).update x fun o=>{o with dict:=some hh.objs.size}).Ns hh.objs.size (fun _=>none):=
  ⟨_,#[],_,(BM _ _ _ _ hxs.symm).trans (Heap.get?_push_at rfl rfl),rfl,fun e he=>absurd he (by simp),fun _=>rfl⟩
 have fin:aY (aM prog w) A.in1 (EH hh.objs.size (.str "line" t) "line" v) (fun fin s'=>match fin with | .done f=>(match (Except.ok f:mO) with | .ok (.ret _)=>Q () s' | .ok _=>False | .error e=>E e s') | .again c'=>c'.quiet=true/\qg (aM prog w) A c' (fun r s'=>match r with | .ok (.ret _)=>Q () s' | .ok _=>False | .error e=>E e s') s') (fun e s'=>E e s') ⟨(hh.push {cls:=.type "dict",data:=.dict #[]}).update x fun o=>{o with dict:=some hh.objs.size},g,d,t + 1,os⟩:=by
  refine ae (av (ae (wpAny_nsSet1 (zJ hnd) fun h' hn' hs=>?_)));obtain ⟨oD,esD,epD,hoD,hdD,hcD⟩:=hn'.count (Within.cons "line" v Within.nil);refine ae (wpAny_lookBehind hoD (by rw [hdD]; exact pastItsLine_dict (bN hcD (by rw [aG,jW,qf]; omega))) ?_);refine av (h _ ?_ hn' fun b o hb e=>?_)
  ·exact (hs.2 x hxs).trans (fz _ hx1 nf)
  ·exact (hs.2 b (bz (ba e))).trans ((BM _ _ _ _ hb).trans (aD _ e))
 rw [if_neg (by decide)];dsimp only;rw [if_neg (by simp [typeHasDict])]
 split
 ·rename_i c' hcd'
  rw [j9,hcd'] at hnc
  cases hnc
 ·exact ae (wpAny_alloc' (ae (wpAny_update' hx1 (av fin))))
theorem Dx {rest:List ag} {Q:ag->ah->Prop} (X:K.In s.heap) (c:vY K C D f) (hrest:rest.length<=aw)
  (h:∀ h' e,Gw s.heap h' e (.ref C) rest->aY (aM prog w) (A.under (.builtin "type.__call__" ⟨.ref C :: rest,[]⟩)) (sX (.ref f) (.ref e :: rest)) (fun r s'=>r=.none/\Q (.ref e) s') E {s with heap:=h'}) :
  aY (aM prog w) A (sX (.ref C) rest) Q E s:=by
 obtain ⟨cd,hcd,hmro,hhd⟩:=c.cd;have FB:=PySem.F.excBase_ValueError;obtain ⟨hh,g,d,t,os⟩:=s;obtain ⟨nm,q,N,bs,hdct,sn,sub,ab,col,dd,k0,k1,k2,k3,k5,hC⟩:=c.obj X;have T:OwnTail hh Im [.ref D,.type "ValueError",.type "Exception",.type "BaseException",.type "object"]:=by
  obtain ⟨bm,N,nm,q,bs,hdct,sn,sub,ab,col,dd,k0,k1,k2,k3,k5,mN,hD,hN,hni,_⟩:=Fb X c.tail;exact .own hD hN hni .base
 have f1:=tc_lookup;have f2:=tc_bind (.ref C);have hT:(⟨hh,g,d,t,os⟩:ah).TypeIs (.ref C) "type":=⟨_,hC,rfl⟩;refine kJ (codeAny_of_tree ?_);show aY _ _ (Jh (.ref C) _) _ _ _
 repeat (any_goals (first | assumption | with_reducible refine qo hC ?_ | wp_step))
 refine ⟨rfl,?_⟩;refine codeAny_call_builtin_at (ou _ (by decide +kernel)) entry_typeCall (wpAny_check_type_call_sub hC ?_)
 repeat (first | with_reducible refine qo hC ?_ | with_reducible refine wpAny_madeBy_exc hC ?_ | wp_step)
 refine codeAny_call_builtin_code (ou _ FB.quiet) (wpAny_check_new_subT FB T hC ?_);refine codeAny_exc_new_subT FB T hC ?_ hrest;show aY _ _ _ _ _ _;generalize hto:({cls:=.type "tuple",data:=.seq rest.toArray}:Obj)=ot;generalize heo:({cls:=.ref C,data:=.fields #[.ref hh.objs.size,.none,.none,.none,.bool false,.none]}:Obj)=oe;have kp:∀ b o,hh.get? b=some o->((hh.push ot).push oe).get? b=some o:=fun b o e=>aD _ (aD _ e);have hget:((hh.push ot).push oe).get? (hh.objs.size + 1)=some oe:=by
  have z:=bV (hh.push ot) (o:=oe) (by rw [<- heo]; rfl);rw [kC] at z;exact z
 have X1:K.In ((hh.push ot).push oe):=X.keeps kp;have J:eE ((hh.push ot).push oe) (hh.objs.size + 1) oe C none:=⟨hget,by rw [<- heo],by rw [<- heo]; rfl,by rw [<- heo]; trivial⟩;have et:({cls:=.type "tuple",data:=.seq ([].append rest).toArray}:Obj)=ot:=hto;show aY _ _ _ _ _ ⟨(hh.push ({cls:=.type "tuple",data:=.seq ([].append rest).toArray}:Obj)).push oe,g,d,t,os⟩;rw [et];unfold Ag;refine ae (ae (J.type.here (s:=⟨(hh.push ot).push oe,g,d,t,os⟩) (Gz (kp _ _ hC) ?_)));rw [show (Value.ref C :: [.ref D,.type "ValueError",.type "Exception",.type "BaseException",.type "object"]).contains (.ref C)=true by simp,if_neg (by decide)];refine ae (bH (PySem.W.special_fn (s:=⟨(hh.push ot).push oe,g,d,t,os⟩) X1 J c.init (beq_iff_eq.mp c.fn) ?_));refine cE (h ((hh.push ot).push oe) (hh.objs.size + 1) ⟨kp,lN (ib _),hh.objs.size,?_,lN (ay _),?_⟩) (fun r s' z=>?_) fun _ _ z=>z
 ·rw [heo];exact hget
 ·rw [hto];exact aD _ (bV hh (by rw [<- hto]; rfl))
 ·obtain ⟨rfl,z⟩:=z;exact av z
end
def FX (a:ak) (ob:Obj):HO:=.ext (fun h=>h.get? a=some ob)
def lineM (u:ag):Str->Option ag:=fun y=>if y="line" then some u else none
def yS (d n:Nat) (h:cP):Prop:=∃ u,RelV (.int n) u/\h.Ns1 d (lineM u)
def LD (d n:Nat):HO:=.ext (yS d n)
def XeOk (a C d:ak) (h:cP):Prop:=∃ ob,h.get? a=some ob/\ob.cls=.ref C/\ob.dict=some d/\j9 ob=true
def XE (a C d:ak):HO:=.ext (XeOk a C d)
section
variable {P:aQ} {w:bT} {H H':Hp} {h h':cP} {a b C d:ak} {n:Nat} {o:HO} {ob:Obj} {fs ex:List ak}
theorem FX.ok (e:h.get? a=some ob):gB P w H h a (FX a ob):=⟨e,⟨_,e⟩,fun h1 h2 x k=>k _ x⟩
theorem LD.ok (x:yS d n h):gB P w H h d (LD d n):=by
 obtain ⟨u,r,y⟩:=id x;obtain ⟨o,_,_,e,_⟩:=y;refine ⟨x,⟨o,e⟩,fun h1 h2 z k=>?_⟩;obtain ⟨u,r,y⟩:=z;exact ⟨u,r,y.at k⟩
theorem XE.ok (x:XeOk a C d h):gB P w H h a (XE a C d):=by
 obtain ⟨ob,e,r⟩:=id x;refine ⟨x,⟨ob,e⟩,fun h1 h2 z k=>?_⟩;obtain ⟨ob,e,r⟩:=z;exact ⟨ob,k _ e,r⟩
theorem yS.sl (x:yS d n h) (sm:h.UpToSlots h'):yS d n h':=by
 obtain ⟨u,r,y⟩:=x;exact ⟨u,r,IG y sm⟩
theorem Un.twoL (he:H a=some o) (hno:∀ xs,o≠.tup xs) (hno2:∀ q u,o≠.frz q u) (hno3:∀ ps,o≠.tbl ps) (hd:H d=none) (nd:h.get? d=none) (hna:∃ q,h'.get? a=some q) (k:∀ b q,b≠a->h.get? b=some q->h'.get? b=some q) {o1 o2:HO}:Un fs ex H (upd (upd H d o1) a o2) h h' where
 keep:=fun b u q n _ _=>k b u (fun z=>by rw [z,he] at n; cases n) q
 slot:=fun b u q n _ _=>⟨u.slots,k b u (fun z=>by rw [z,he] at n; cases n) q⟩
 free:=fun b u q n _=>by
  rw [aT (fun z=>by rw [z,he] at n; cases n),aT (fun z=>by rw [z,nd] at q; cases q)];exact n
 there:=fun b u q _=>by
  by_cases z:b=a
  ·rw [z]; exact hna
  ·exact ⟨u,k b u z q⟩
 tups:=fun b xs q=>by
  rw [aT (fun z=>by rw [z,he] at q; exact hno xs (bC q)),aT (bF q hd)];exact q
 frzs:=fun b u xs q=>by
  rw [aT (fun z=>by rw [z,he] at q; exact hno2 _ _ (bC q)),aT (bF q hd)];exact q
 tbls:=fun b ps q=>⟨#[],by rw [aT (fun z=>by rw [z,he] at q; exact hno3 _ (bC q)),aT (bF q hd),q]; simp⟩
end
section
variable {X:Cx} {pins:List (ak×Obj)} {σ:St} {H H1:Hp} {s:ah}
theorem Inv.lessL (I:Inv X pins σ H s) (sub:∀ a o,H1 a=some o->H a=some o) (ext:∀ a o,H a=some o->H1 a=some o\/∃ φ,o=.ext φ):Inv X pins σ H1 s:=by
 have no:∀ {a:ak},H a=none->H1 a=none:=fun {a} z=>by
  cases q:H1 a with
  | none=>rfl
  | some o=>rw [sub a o q] at z; cases z
 refine ⟨I.ok,I.os,I.bare,⟨I.base.keep,I.base.slot,fun b o e n hx=>no (I.base.free b o e n hx),I.base.there,fun b xs e=>?_,fun b o u e=>?_,fun b ps e=>?_⟩,I.loc,I.cell,no I.free,fun x c e=>no (I.freeC x c e),fun p hp=>?_,fun b u e=>?_,I.len⟩
 ·rcases ext _ _ (I.base.tups b xs e) with z | ⟨φ,z⟩
  ·exact z
  ·cases z
 ·rcases ext _ _ (I.base.frzs b o u e) with z | ⟨φ,z⟩
  ·exact z
  ·cases z
 ·obtain ⟨more,z⟩:=I.base.tbls b ps e
  rcases ext _ _ z with z | ⟨φ,z⟩
  ·exact ⟨more,z⟩
  ·cases z
 ·obtain ⟨e1,e2,e3⟩:=I.pin p hp;exact ⟨e1,no e2,e3⟩
 ·refine (I.hok b u (sub b u e)).stay (fun _ _ _ q=>q) (fun c q=>?_) fun c xs q=>?_
  ·rcases ext _ _ q with z | ⟨φ,z⟩
   ·exact z
   ·cases z
  ·rcases ext _ _ q with z | ⟨φ,z⟩
   ·exact z
   ·cases z
theorem Inv.trackL {b:ak} {o:HO} (I:Inv X pins σ H s) (hz:H b=none) (nl:b≠X.env.locals) (nc:∀ v,¬ s.heap.IsCell b v) (old:∀ q,X.s₀.heap.get? b=some q->b∈X.ex) (np:∀ p∈X.pn++pins,p.1≠b) (ok:gB X.prog X.w (upd H b o) s.heap b o):Inv X pins σ (upd H b o) s:=by
 have ne:∀ {c:ak} {q:HO},H c=some q->c≠b:=fun {c q} z=>bF z hz;refine ⟨I.ok,I.os,I.bare,⟨I.base.keep,I.base.slot,fun c q e n hx=>?_,I.base.there,fun c xs e=>?_,fun c q u e=>?_,fun c ps e=>?_⟩,I.loc,I.cell,?_,fun x c e=>?_,fun p hp=>?_,fun c u e=>?_,I.len⟩
 ·rw [aT]
  ·exact I.base.free c q e n hx
  ·rintro rfl;exact hx (old _ e)
 ·have z:=I.base.tups c xs e;rw [aT (ne z)];exact z
 ·have z:=I.base.frzs c q u e;rw [aT (ne z)];exact z
 ·obtain ⟨more,z⟩:=I.base.tbls c ps e;exact ⟨more,by rw [aT (ne z)]; exact z⟩
 ·rw [aT (eW nl)];exact I.free
 ·rw [aT]
  ·exact I.freeC x c e
  ·rintro rfl;obtain ⟨v,z⟩:=I.cell x _ e;exact nc v z
 ·obtain ⟨e1,e2,e3⟩:=I.pin p hp;exact ⟨e1,by rw [aT (np p hp)]; exact e2,e3⟩
 ·by_cases hb:c=b
  ·subst hb;rw [ao] at e
   cases e;exact ok
  ·rw [aT hb] at e;exact (I.hok c u e).stay (fun _ _ _ q=>q) (fun c q=>by rw [aT (ne q)]; exact q) fun c xs q=>by rw [aT (ne q)]; exact q
end
section
variable {X:Cx} {C D f:ak} {o value:cI} {ta tv:TE} {pos pos':Pos}
def sLine (C:ak) (ta tv:TE):TS:=fun Z σ H=>tv σ H fun y H1=>ta σ H1 fun x H2=>∃ (e:ak) (ob:Obj) (n:Nat),x=.ref e/\y=.int n/\H2 e=some (FX e ob)/\ob.cls=.ref C/\ob.dict=none/\j9 ob=true /\
 ∀ d,H2 d=none->d≠e->Z.nx σ (upd (upd H2 d (LD d n)) e (FX e {ob with dict:=some d}))
theorem FC (c:vY X.K C D f) (ha:PE X o ta) (hv:PE X value tv) (hs:mI value (some (.Attribute o "line" pos')) pos.line X.env=pure false):PS X (.Assign [.Attribute o "line" pos'] value pos) (sLine C ta tv):=by
 intro pins s σ H Z I h;refine wy (thn (hv pins s σ H _ I h) fun u s1 ⟨y,H1,I1,ry,q⟩=>thn (ha pins s1 σ H1 _ I1 q) fun ov s2 ⟨x,H2,I2,rx,e,ob,n,ex,ey,he,hc,hd,hn,q2⟩=>?_) hs;subst ex ey;obtain rfl:ov=Value.ref e:=rx;have e1:s2.heap.get? e=some ob:=(I2.hok e _ he).1;refine BL I2.kIn e1 hc hn hd c fun h' x1 x2 x3=>⟨σ,_,?_,q2 s2.heap.objs.size (I2.hok.fresh (ay _)) (nM (ba e1))⟩;have nd:s2.heap.get? s2.heap.objs.size=none:=lN (ay _);have hz:H2 s2.heap.objs.size=none:=I2.hok.fresh (ay _);refine I2.un (t':=s2.toks + 2) (Un.twoL he (fun _ z=>by cases z) (fun _ _ z=>by cases z) (fun _ z=>by cases z) hz nd ⟨_,x1⟩ x3) fun b u eb=>?_
 by_cases hb:b=e
 ·subst hb;rw [ao] at eb
  cases eb;exact FX.ok x1
 ·rw [aT hb] at eb
  by_cases hb2:b=s2.heap.objs.size
  ·subst hb2;rw [ao] at eb
   cases eb;exact LD.ok ⟨u,ry,x2⟩
  ·rw [aT hb2] at eb;have ne:∀ {c:ak} {q:HO},H2 c=some q->(∀ φ,q≠.ext φ)->c≠e:=fun {c q} z hq y=>by
    rw [y,he] at z;exact hq _ (bC z).symm
   refine (I2.hok b u eb).stay (fun c v hcc qq=>x3 c v ?_ qq) (fun c qq=>?_) fun c xs qq=>?_
   ·rcases hcc with rfl | hcc
    ·exact hb
    ·exact ne hcc fun _ z=>by cases z
   ·rw [aT (ne qq fun _ z=>by cases z),aT (bF qq hz)];exact qq
   ·rw [aT (ne qq fun _ z=>by cases z),aT (bF qq hz)];exact qq
end
inductive GA (C:ak) (vs:List V) (H:Hp) (Q:VK) (_e:XK):Prop where
 | mk (e:ak) (ob:Obj) (n:Nat) (_:vs=[.ref e,.int n]) (_:H e=some (FX e ob)) (_:ob.cls=.ref C) (_:ob.dict=none) (_:j9 ob=true) (_:∀ d,H d=none->d≠e->Q .non (upd (upd H d (LD d n)) e (FX e {ob with dict:=some d}))):GA C vs H Q _e
def Dy (C:ak):Sp:=fun vs H Q _e=>GA C vs H Q _e
def IH (B:cP) (stk:List Env) (ea C:ak) (n:Nat) (h:cP):Prop:=
 ∃ d,FlE (some d) B stk ea (.ref C) .none h/\d≠ea/\B.get? d=none/\d∉frs stk/\yS d n h
def CXl (P:aQ) (w:bT):CXT:=fun outer H s E e s' =>
 ∃ (ea C:ak) (n:Nat) (H':Hp) (B:cP),e=.ref ea/\E (.ref C) (some n) H'/\s'.os=s.os/\rD s'.gens/\Un (frs outer) [] H H' s.heap s'.heap/\HOk P w H' s'.heap/\IH B outer ea C n s'.heap /\
  ∀ b o,(H' b≠none\/∃ o',s.heap.get? b=some o')->b∉frs outer->s'.heap.get? b=some o->B.get? b=some o
structure tT (X:Cx) (E:XK):Prop where
 stk:X.stack=X.env :: X.outer
 fr:X.env.frame=some X.env.locals
 ex:X.ex=[]
 xe:X.xe=fun e s'=>aY (aM X.prog X.w) X.A (tO X.env e) (fun _ s''=>CXl X.prog X.w X.outer X.H₀ X.s₀ E e s'') (fun e' s''=>CXl X.prog X.w X.outer X.H₀ X.s₀ E e' s'') s'
theorem jt {P:aQ} {w:bT} {K:ai} {mg:Str->Option ag} {base:cP} {N:List Str} {qual:Str} {scope:kO} {f:ak} {cd:ag} {A:bQ} {outer:List Env} {s:ah} {H:Hp} {E:XK} :
  tT (t4 (CXl P w) P w K mg base N qual scope f cd A outer s H E) E:=⟨rfl,rfl,rfl,rfl⟩
theorem yT {env:Env} {outer:List Env} {d:ak} (h:d∉frs (env :: outer)):d∉frs outer:=fun z=>h (by
 unfold frs at z |-;obtain ⟨e,he,q⟩:=gR.mp z;exact gR.mpr ⟨e,az _ he,q⟩)
section
variable {X:Cx} {E E':XK} {pins:List (ak×Obj)} {σ:St} {H:Hp} {s:ah}
structure NewX (X:Cx) (H:Hp) (a:ak):Prop where
 no:H a=none
 old:∀ o,X.s₀.heap.get? a≠some o
 fr:a∉frs X.stack
theorem tT.raises (hb:tT X E) (I:Inv X pins σ H s) {e C d:ak} {n:Nat} {oe:Obj} {vs:Array ag} (he:s.heap.get? e=some oe) (hcl:oe.cls=.ref C) (hdc:oe.dict=some d) (hd:oe.data=.fields vs) (h1:vs[1]?=some .none) (hne:d≠e)
  (ne:NewX X H e) (nd:NewX X H d) (ns:yS d n s.heap) (q:E (.ref C) (some n) H):X.xe (.ref e) s:=by
 rw [hb.xe];have hfr:X.A.frames=some (X.env :: X.outer):=by rw [I.ok.frames,hb.stk]
 have hin:∀ env∈X.stack,∀ a,env.frame=some a->a∈frs X.stack++[e,d]:=fun env he a ha=>cS _ (gR.mpr ⟨env,he,ha⟩);have fl:s.heap.FunFrames (gY s.heap (frs X.stack++[e,d])) (X.env :: X.outer):=by
  have z:=xO I.stack hin;rw [hb.stk] at z |-;exact z
 have ub:Un X.fs [] X.H₀ H X.s₀.heap s.heap:=by
  have z:=I.base;rw [hb.ex] at z;exact z
 have keepB:∀ b o,b∉frs X.stack->(H b≠none\/∃ o',X.s₀.heap.get? b=some o')->s.heap.get? b=some o->(gY s.heap (frs X.stack++[e,d])).get? b=some o:=fun b o n c z=>by
  refine qZ _ z fun y=>?_
  rcases aN.mp y with y | y
  ·exact n y
  ·have:b=e\/b=d:=by simpa using y
   rcases this with rfl | rfl
   ·rcases c with c | ⟨o',c⟩
    ·exact c ne.no
    ·exact ne.old _ c
   ·rcases c with c | ⟨o',c⟩
    ·exact c nd.no
    ·exact nd.old _ c
 refine Fz (B:=gY s.heap (frs X.stack++[e,d])) hfr hb.fr (fun b o z=>rC _ z) (qr _ (aP _ (by simp))) fl he hd h1 hdc fun h'' x1 sm=>?_;rw [hcl] at x1;have nfo:d∉frs X.outer:=by
  have z:=nd.fr;rw [hb.stk] at z;exact yT z
 refine ⟨e,C,n,H,_,rfl,q,I.os,I.bare,ub.left (stk:=frs X.stack) x1.1 (fun b o c n e=>keepB b o n c e) I.oldfs (I.slotsOf sm),I.hok.left x1.1 (fun b o n e=>keepB b o (I.ntr b n) (.inl n) e),⟨d,x1,hne,qr _ (aP _ (by simp)),nfo,ns.sl sm⟩,?_⟩;intro b o c n e1;have nb:b∉frs X.stack:=by
  rcases c with c | ⟨o',c⟩
  ·exact I.ntr b c
  ·exact fun z=>n (I.oldfs b o' c z)
 obtain ⟨o1,e2⟩:∃ o1,s.heap.get? b=some o1:=by
  rcases c with c | ⟨o',c⟩
  ·exact I.hok.has c
  ·exact ub.there b o' c (by simp)
 have e3:h''.get? b=some o1:=x1.1 b o1 (keepB b o1 nb c e2);have e4:h''.get? b=some o:=e1;rw [e3] at e4
 cases e4;exact keepB b _ nb c e2
theorem tT.passes (hb:tT X E) (hE:∀ c d H,E' c d H->E c d H):oI (CXl X.prog X.w) X E':=fun pins σ H s e s' I h=>by
 obtain ⟨ea,C,n,H',B,rfl,q,os,bare,un,hok,⟨d,fl,dne,dB,dfr,dns⟩,cov⟩:=h;have J:Inv X pins σ H' s':=I.call' (ch:=[]) os un hok bare (fun b z=>absurd z (by simp));rw [hb.xe];have hfr:X.A.frames=some (X.env :: X.outer):=by rw [I.ok.frames,hb.stk]
 have ub:Un X.fs [] X.H₀ H' X.s₀.heap s'.heap:=by
  have z:=J.base;rw [hb.ex] at z;exact z
 have ui:Un X.fs [] X.H₀ H X.s₀.heap s.heap:=by
  have z:=I.base;rw [hb.ex] at z;exact z
 have cov1:∀ b o,(H' b≠none\/∃ o',X.s₀.heap.get? b=some o')->b∉frs X.stack->s'.heap.get? b=some o->B.get? b=some o:=fun b o c n e =>
  cov b o (c.imp_right fun ⟨o',z⟩=>ui.there b o' z (by simp)) n e
 have fl':FlE (some d) B (X.env :: X.outer) ea (.ref C) .none s'.heap:=by
  rw [<- hb.stk];exact fl
 refine BK hfr hb.fr fl' fun h'' x1 x2=>?_;refine ⟨ea,C,n,H',B,rfl,hE _ _ _ q,J.os,J.bare,ub.left (stk:=frs X.stack) x1.1 cov1 J.oldfs (J.slotsOf x2),J.hok.left x1.1 (fun b o n e=>cov1 b o (.inl n) (J.ntr b n) e),⟨d,x1,dne,dB,?_,dns.sl x2⟩,?_⟩
 ·rw [hb.stk] at dfr;exact yT dfr
 intro b o c n e1;have nb:b∉frs X.stack:=by
  rcases c with c | ⟨o',c⟩
  ·exact J.ntr b c
  ·exact fun z=>n (J.oldfs b o' c z)
 obtain ⟨o1,e2⟩:∃ o1,s'.heap.get? b=some o1:=by
  rcases c with c | ⟨o',c⟩
  ·exact J.hok.has c
  ·exact ub.there b o' c (by simp)
 have e3:h''.get? b=some o1:=x1.1 b o1 (cov1 b o1 c nb e2);have e4:h''.get? b=some o:=e1;rw [e3] at e4
 cases e4;exact cov1 b _ c nb e2
end
section
variable {X:Cx} {E:XK} {x:Str} {C D f:ak} {np cpos pos:Pos} {e₀:cI} {rest:List cI} {ta:TA} {k:Nat} {fd:cF} {ps:List Str}
def xS (C:ak) (E:XK) (ta:TA):TS:=fun _ σ H=>ta σ H fun vs H1=>∃ n:Nat,vs=[.int n]/\E (.ref C) (some n) H1
theorem wO (hb:tT X E) (hc:X.calm=true) (c:vY X.K C D f) (hg:Gl X x) (hm:X.mg x=some (.ref C)) (F:cW X.prog X.w X.K X.mg X.base CX0 k f fd ps (Dy C)) (hr:dj (k + 1) X.A) (hbn:Binds X.K fd ps []) (ha:PA X (e₀ :: rest) ta)
  (hdb:(x == ("__debug__":Str))=false:=by decide) (he:bB (e₀ :: rest) X.env=(false,dE e₀ X.env) :: bB rest X.env:=by rfl) (hpl:(eR cpos (bB rest X.env)).any (·.1)=false:=by rfl) :
  PS X (.Raise (some (.Call (.Name x np) (e₀ :: rest) [] cpos)) none pos) (xS C E ta):=by
 intro pins s σ H Z I h;have main:aY (aM X.prog X.w) X.A (dE (.Call (.Name x np) (e₀ :: rest) [] cpos) X.env) (fun v s2=>∃ (e t d:ak),v=.ref e/\s2.heap.get? e=some {cls:=.ref C,dict:=some d,data:=.fields #[.ref t,.none,.none,.none,.bool false,.none]}/\X.K.In s2.heap/\X.xe (.ref e) s2) X.xe s:=by
  refine kK (pA I hg hm ?_ hdb);refine mP (h₀:=X.base) I.ok.mod.kin c.kp (thn (ha cpos pins s σ H _ I h) fun us s1 ⟨vs,H1,I1,r,n,hvs,q⟩=>⟨I1.kIn,?_⟩) he hpl;subst hvs;obtain ⟨u,rfl,ru⟩:=vals1 r;refine Dx (D:=D) (f:=f) (rest:=[u]) I1.kIn c (by rw [kZ,qf]; omega) fun h' e m=>?_;have hn:H1 e=none:=by
   cases z:H1 e with
   | none=>rfl
   | some o =>
    obtain ⟨ob,e1⟩:=I1.hok.has (b:=e) (by rw [z]; simp);rw [m.new] at e1
    cases e1
  obtain ⟨t1,e1,_⟩:=m.there;generalize hob:({cls:=.ref C,data:=.fields #[.ref t1,.none,.none,.none,.bool false,.none]}:Obj)=ob at e1;have I2:=I1.un (t':=s1.toks) (H':=upd H1 e (FX e ob)) (Un.laidN m.keeps m.new hn) (I1.hok.laidN m.keeps hn (FX.ok e1));have hq:Dy C [.ref e,.int n] (upd H1 e (FX e ob)) (fun v H2=>v=.non/\∃ d,H1 d=none/\d≠e/\H2=upd (upd (upd H1 e (FX e ob)) d (LD d n)) e (FX e {ob with dict:=some d})) (fun _ _ _=>False):=
   ⟨e,ob,n,rfl,ao,by rw [<- hob],by rw [<- hob],by rw [<- hob]; rfl,fun d hd hde=>⟨rfl,d,by rw [<- hd,aT hde],hde,rfl⟩⟩
  have r2:dv [.ref e,.int n] [Value.ref e,u]:=.cons rfl (.cons ru .nil);have hl:([Value.ref e,u]++[]).length=ps.length:=(F.len _ _ _ _ hq).symm ▸ rfl;refine kJ (CF (F.run _ X.stack _ _ ⟨[Value.ref e,u],[]⟩ [Value.ref e,u] _ _ (fun _ _ _=>False) (hr.make C [u] []) (I2.env0.make C [u] []) (by have z:=hbn _ [Value.ref e,u] I2.kIn hl; rwa [bq] at z) r2 hq) fun r s' hq'=>?_)
  cases r with
  | error e=>exact cQ hq'
  | ok fl =>
   cases fl with
   | next=>exact cQ hq'
   | brk=>exact cQ hq'
   | cont=>exact cQ hq'
   | ret v =>
    obtain ⟨v',H',os,bare,un,hok,rv,ev,d,hd1,hde,hH⟩:=hq';have I3:=I2.call' (ch:=[]) os un hok bare (fun b z=>absurd z (by simp));subst ev;have qe:H' e=some (FX e {ob with dict:=some d}):=by rw [hH,ao]
    have qd:H' d=some (LD d n):=by rw [hH,aT hde,ao]
    have old:∀ b,s1.heap.get? b=none->∀ o,X.s₀.heap.get? b≠some o:=fun b hz o z=>by
     obtain ⟨o',z'⟩:=I1.base.there b o z (by rw [hb.ex]; simp);rw [hz] at z'
     cases z'
    have dn:s1.heap.get? d=none:=by
     cases z:s1.heap.get? d with
     | none=>rfl
     | some o =>
      have y:=un.free d o (m.keeps _ _ z) (by rw [aT hde]; exact hd1) (by simp);rw [qd] at y
      cases y
    have nf:∀ b,H' b≠none->b∉frs X.stack:=fun b hb z=>hb (I3.stkFree b z);have I4:Inv X pins σ H1 s':=by
     refine I3.lessL (fun a o z=>?_) fun a o z=>?_
     ·rw [hH,aT (bF z hn),aT (bF z hd1),aT (bF z hn)];exact z
     ·by_cases h1:a=e
      ·rw [h1,qe] at z
       cases z;exact .inr ⟨_,rfl⟩
      ·by_cases h2:a=d
       ·rw [h2,qd] at z
        cases z;exact .inr ⟨_,rfl⟩
       ·rw [hH,aT h1,aT h2,aT h1] at z;exact .inl z
    have he1:s'.heap.get? e=some {ob with dict:=some d}:=(I3.hok e _ qe).1;refine ⟨rv,e,t1,d,rfl,by rw [he1,<- hob],I4.kIn,?_⟩;exact hb.raises I4 he1 (by rw [<- hob]) rfl (by rw [<- hob]) rfl hde ⟨hn,old e m.new,nf e (by rw [qe]; simp)⟩ ⟨hd1,old d dn,nf d (by rw [qd]; simp)⟩ (I3.hok d _ qd).1 q
 obtain ⟨nm,qn,N,bs,hdct,sn,sub,ab,col,dd,k0,k1,k2,k3,k5,hC⟩:=c.obj I.kIn;rw [arm_exec_Raise];simp only [evalOpt,Jk];refine ae (bU ?_);unfold raiseStmt;refine ae (ae (cE main (fun v s2 z=>?_) fun _ _ z=>z));obtain ⟨e,t1,d1,rfl,he1,K2,hE⟩:=z;obtain ⟨nm,qn,N,bs,hdct,sn,sub,ab,col,dd,k0,k1,k2,k3,k5,hC⟩:=c.obj K2;refine ae (bU (av ?_));obtain ⟨hp,g,dr,tk,os⟩:=s2;have hcB:(Value.ref C :: [.ref D,.type "ValueError",.type "Exception",.type "BaseException",.type "object"]).contains (.type "BaseException")=true:=by simp
 repeat (first | with_reducible refine qo he1 ?_ | with_reducible refine qo hC ?_ | (with_reducible refine Gz hC ?_; rw [hcB]) | wp_step)
 exact Gv (I.ok.hd hc) hE
end
section
variable {X:Cx} {pins:List (ak×Obj)} {σ:St} {H:Hp} {s:ah} {T:ak->Nat->St->Hp->Prop}
def tryWL (X:Cx) (pins:List (ak×Obj)) (T:ak->Nat->St->Hp->Prop):ag->ah->Prop:=fun e s' =>
 ∃ ea C n B σ H,e=.ref ea/\Inv X pins σ H s'/\IH B X.stack ea C n s'.heap/\vW X pins H B s'.heap/\T C n σ H
abbrev Cx.trL (X:Cx) (pins:List (ak×Obj)) (T:ak->Nat->St->Hp->Prop):Cx:={X with xe:=tryWL X pins T,pn:=X.pn++pins}
theorem Inv.trL (I:Inv X pins σ H s) (T:ak->Nat->St->Hp->Prop):Inv (X.trL pins T) [] σ H s:=
 ⟨⟨I.ok.mod,I.ok.kind,I.ok.glob,I.ok.blt,I.ok.above,I.ok.inj,I.ok.has,I.ok.cab,I.ok.hd,I.ok.frames,I.ok.stk,I.ok.exf,I.ok.bs,I.ok.bsz,I.ok.noex,I.ok.exfs,I.ok.funs,I.ok.frf⟩,I.os,I.bare,I.base,I.loc,I.cell,I.free,I.freeC,
  fun p hp=>I.pin p (by simpa using hp),I.hok,I.len⟩
theorem Inv.untrL {pins':List (ak×Obj)} (I:Inv (X.trL pins T) pins' σ H s):Inv X pins σ H s:=
 ⟨⟨I.ok.mod,I.ok.kind,I.ok.glob,I.ok.blt,I.ok.above,I.ok.inj,I.ok.has,I.ok.cab,I.ok.hd,I.ok.frames,I.ok.stk,I.ok.exf,I.ok.bs,I.ok.bsz,I.ok.noex,I.ok.exfs,I.ok.funs,I.ok.frf⟩,I.os,I.bare,I.base,I.loc,I.cell,I.free,I.freeC,
  fun p hp=>I.pin p (cS _ hp),I.hok,I.len⟩
abbrev THL:=ak->Nat->TS
def FD (X:Cx) (hs:List nJ) (th:THL):Prop:=
 ∀ (pins:List (ak×Obj)) (s:ah) (σ:St) (H:Hp) (D:Ends) (ea C:ak) (n:Nat) (B:cP),Inv X pins σ H s->IH B X.stack ea C n s.heap->vW X pins H B s.heap->th C n D σ H ->
  aY (aM X.prog X.w) X.A (handleBy (.ref ea) X.env hs) (SP X pins D) X.xe s
def II:THL:=fun _ _ _ _ _=>False
theorem Dz:FD X [] II:=fun _ _ _ _ _ _ _ _ _ _ _ _ h=>h.elim
def thAsL (K:ai) (Ci:ak) (i:Nat) (t:TS) (th:THL):THL:=fun C n D σ H =>
 (qD K (.ref C) (.ref Ci)=some true/\∀ ea d,H ea=none->H d=none->d≠ea->t (Dp i D) (σ.set i (some (.ref ea))) (upd (upd H d (LD d n)) ea (XE ea C d)))\/(qD K (.ref C) (.ref Ci)=some false/\th C n D σ H)
theorem Inv.adoptL {B:cP} {ea C:ak} {n d:Nat} {fl:ag} (I:Inv X pins σ H s) (hst:X.stack=X.env :: X.outer) (hfr:X.env.frame=some X.env.locals) (f:FlE (some d) B X.stack ea (.ref C) fl s.heap) (dne:d≠ea) (dB:B.get? d=none) (dfr:d∉frs X.stack) (ld:yS d n s.heap) (cov:vW X pins H B s.heap) :
  H ea=none/\H d=none/\Inv X pins σ (upd (upd H d (LD d n)) ea (XE ea C d)) s:=by
 obtain ⟨hB,hn,hl,oe,vs,Tr,oT,ts,he,hc,hdc,hd,_⟩:=f;have nf:ea∉frs X.stack:=fun z=>by
  obtain ⟨_,o,ho,q⟩:=hl.mem z;rw [he] at ho
  cases ho;exact q vs hd
 obtain ⟨u,ru,od,es,ep,hod,hdd,hrest⟩:=id ld;have lf:X.env.locals∈frs X.stack:=gR.mpr ⟨X.env,by rw [hst]; exact aA ..,hfr⟩;have fresh:∀ {b:ak} {o:Obj},s.heap.get? b=some o->B.get? b=none->b∉frs X.stack->H b=none/\(∀ q,X.s₀.heap.get? b=some q->b∈X.ex)/\∀ p∈X.pn++pins,p.1≠b:=fun {b o} e nB nfr=>by
  have no:∀ {q:Prop},B.get? b=some o->q:=fun z=>by rw [nB] at z; cases z
  refine ⟨?_,fun q z=>?_,fun p hp z=>?_⟩
  ·cases z:H b with
   | none=>rfl
   | some y=>exact no (cov b o (.inl (by rw [z]; simp)) nfr e)
  ·by_cases hx:b∈X.ex
   ·exact hx
   ·exact no (cov b o (.inr (.inl ⟨hx,q,z⟩)) nfr e)
  ·exact no (cov b o (.inr (.inr ⟨p,hp,z⟩)) nfr e)
 obtain ⟨e1,e2,e3⟩:=fresh he hn nf;obtain ⟨d1,d2,d3⟩:=fresh hod dB dfr;refine ⟨e1,d1,?_⟩;have J:=I.trackL (o:=LD d n) d1 (fun z=>dfr (z ▸ lf)) (fun v ⟨o,ho,hv⟩=>by rw [hod] at ho; cases ho; rw [hdd] at hv; cases hv) d2 d3 (LD.ok ld);refine J.trackL (b:=ea) (o:=XE ea C d) (by rw [aT (eW dne)]; exact e1) (fun z=>nf (z ▸ lf)) (fun v ⟨o,ho,hv⟩=>by rw [he] at ho; cases ho; rw [hd] at hv; cases hv) e2 e3 (XE.ok ⟨oe,he,hc,hdc,?_⟩);unfold j9;rw [hd]
theorem FE {x n:Str} {Ci:ak} {np pos:Pos} {b₀:di} {suite:List di} {rest:List nJ} {t:TS} {th:THL} (i:Nat) (hg:Gl X x) (hm:X.mg x=some (.ref Ci)) (hN:X.N.Nodup) (hi:X.N[i]?=some n) (hk:X.env.scope.names.lookup n=some .local)
  (hsu:∀ ea,PSs (X.hdl ea) (b₀ :: suite) t) (hr:FD X rest th) (hd:(x == ("__debug__":Str))=false:=by decide) (hst:X.stack=X.env :: X.outer:=by rfl) (hfr:X.env.frame=some X.env.locals:=by rfl):FD X (.ExceptHandler (some (.Name x np)) (some n) (b₀ :: suite) pos :: rest) (thAsL X.K Ci i t th):=by
 intro pins s σ H D ea C m B I fl0 cov h;obtain ⟨d,fl,dne,dB,dfr,ld⟩:=id fl0;refine wpAny_handleBy_cons (codeAny_handlers_test ?_) (by intro q; cases q);refine pA (X:=X.hdl ea) (I.hdl ea) hg hm ?_ hd;obtain ⟨ob,hob,hc⟩:=fl.there;have LT:vZ (aM X.prog X.w) s.heap (CQ (.ref ea)) (.ref C):=by
  rw [<- hc];exact (PySem.W.Looks.ld hob).andThen .now
 rcases h with ⟨hx,q⟩ | ⟨hx,q⟩
 ·refine (Cf I.kIn LT hx).here ?_;refine codeAny_handlers_suite_as (sE fl fun h6 fl6 sm6=>?_);have I6:=I.landed fl6.1 cov sm6;obtain ⟨hz,hzd,J⟩:=I6.adoptL hst hfr fl6 dne dB dfr (ld.sl sm6) (vW.land I fl6.1 cov);refine oS (X:=X.hdl ea) (v:=.ref ea) (J.hdl ea) hN hi (.inl hk) rfl (fun s2 I2=>?_) (.inr hk);refine cE (hsu ea pins _ _ _ (Dp i D) I2 (q ea d hz hzd dne)) (fun f s3 z=>?_) (fun _ _ z=>cQ z);show aY _ X.A (do bindName X.env n .none; tE X.env n pos) (fun _ s₃=>SP X pins D f s₃) X.xe s3
  cases f with
  | next=>obtain ⟨σ',H',I3,q3⟩:=z; exact uu (I3.unhdl I.ok) hN hi hk fun s4 I4=>⟨_,_,I4,q3⟩
  | brk=>obtain ⟨σ',H',I3,q3⟩:=z; exact uu (I3.unhdl I.ok) hN hi hk fun s4 I4=>⟨_,_,I4,q3⟩
  | cont=>obtain ⟨σ',H',I3,q3⟩:=z; exact uu (I3.unhdl I.ok) hN hi hk fun s4 I4=>⟨_,_,I4,q3⟩
  | ret u=>obtain ⟨v,σ',H',I3,r3,q3⟩:=z; exact uu (I3.unhdl I.ok) hN hi hk fun s4 I4=>⟨v,_,_,I4,r3,q3⟩
 ·refine (Cf I.kIn LT hx).here ?_;exact hr pins s σ H D ea C m B I fl0 cov q
def tTryL (T:ak->Nat->St->Hp->Prop) (tb:TS) (th:THL):TS:=fun D σ H=>tb D σ H/\∀ C n σ' H',σ'.length=σ.length->T C n σ' H'->th C n D σ' H'
theorem DA {body:List di} {h₀:nJ} {hs:List nJ} {pos:Pos} {tb:TS} {th:THL} (T:ak->Nat->St->Hp->Prop) (hb:∀ pins,PSsC (X.trL pins T) body tb) (hh:FD X (h₀ :: hs) th)
  (hst:X.stack=X.env :: X.outer:=by rfl) (hfr:X.env.frame=some X.env.locals:=by rfl):PSC X (.Try body (h₀ :: hs) [] [] pos) (tTryL T tb th):=by
 intro pins s σ H D I h;obtain ⟨h1,h2⟩:=h;refine tryC (o5 (hb pins [] s σ H D (I.trL T) h1) (fun f s1 q=>?_) (fun e s1 q=>?_))
 ·cases f with
  | next=>obtain ⟨σ',H',J,q⟩:=q; exact fG ⟨σ',H',J.untrL,q⟩
  | ret v=>obtain ⟨v,σ',H',J,r,q⟩:=q; exact ⟨v,σ',H',J.untrL,r,q⟩
  | brk=>obtain ⟨σ',H',J,q⟩:=q; exact ⟨σ',H',J.untrL,q⟩
  | cont=>obtain ⟨σ',H',J,q⟩:=q; exact ⟨σ',H',J.untrL,q⟩
 ·obtain ⟨ea,C,n,B,σ',H',rfl,J,⟨d,fl,dne,dB,dfr,ld⟩,cov,t⟩:=q;have fl1:FlE (some d) B (X.env :: X.outer) ea (.ref C) .none s1.heap:=by
   rw [<- hst];exact fl
  refine AW (by rw [J.ok.frames,hst]) hfr fl1 fun h4 x4 s4=>?_;refine sE x4 fun h5 fl5 s5=>?_;have J5:=J.landed fl5.1 cov (s4.trans s5);rw [<- hst] at fl5;exact hh pins _ σ' H' D ea C n B J5 ⟨d,fl5,dne,dB,dfr,(ld.sl s4).sl s5⟩ (vW.land J fl5.1 cov) (h2 C n σ' H' (by rw [J.len,I.len]) t)
def tryEL (T:ak->Nat->St->Hp->Prop):St->XK:=fun σ c d H=>∃ C n,c=.ref C/\d=some n/\T C n σ H
theorem yU:AN (CXl X.prog X.w) (X.trL pins T) (tryEL T):=fun pins' σ H s e s' I h=>by
 obtain ⟨ea,C,n,H',B,rfl,⟨C',n',hC,hn,q⟩,os,bare,un,hok,fl,cov⟩:=h
 cases hC
 cases hn;have J:Inv (X.trL pins T) pins' σ H' s':=I.call' (ch:=[]) os un hok bare (fun b z=>absurd z (by simp));refine ⟨ea,C,n,B,σ,H',rfl,J.untrL,fl,fun b o c n e=>cov b o ?_ n e,q⟩
 rcases c with c | ⟨c1,o',c2⟩ | ⟨p,hp,rfl⟩
 ·exact .inl c
 ·exact .inr (I.base.there b o' c2 c1)
 ·exact .inr ⟨_,(I.pin p (cS _ hp)).1⟩
variable {CX:CXT} {k:Nat} {f:ak} {fd:cF} {ps:List Str} {sp:Sp} {E:St->XK} {x:Str} {p pos:Pos} {e:cI} {es:List cI} {t:TA}
theorem BN (F:dP X.prog X.w X.K X.mg X.base CX k f fd ps sp) (hr:dj k X.A) (hg:Gl X x) (hm:X.mg x=some (.ref f)) (hk:dY X.K (.ref f)=true) (hb:Binds X.K fd ps []) (hx:AN CX X E) (ha:PA X (e :: es) t)
  (hdb:(x == ("__debug__":Str))=false:=by decide) (he:bB (e :: es) X.env=(false,dE e X.env) :: bB es X.env:=by rfl) (hpl:(eR pos (bB es X.env)).any (·.1)=false:=by rfl) :
  PEC X (.Call (.Name x p) (e :: es) [] pos) (Io sp E t):=by
 intro pins s σ H Q I h;rw [ug];refine cM (pA I hg hm ?_ hdb);have h1:=ha pos pins s σ H _ I h;show wpC _ _ (ky pos (.ref f) [] (eR pos (bB (e :: es) X.env)) []) _ _ s;rw [he] at h1 |-;refine wM (K:=X.K) ?_ hk (lH (cE h1 (fun us s1 z=>?_) fun _ _ y=>y))
 ·show (false || (eR pos (bB es X.env)).any (·.1))=false;rw [hpl];rfl
 ·obtain ⟨vs,H1,I1,r,q⟩:=z;refine ⟨I1.kIn,?_⟩;have hl:(us++[]).length=ps.length:=by rw [bq,<- r.length]; exact F.len _ _ _ _ q
  have hb1:=hb s1 us I1.kIn hl;rw [bq] at hb1;refine xM (jI (F.run X.A X.stack s1 H1 ⟨us,[]⟩ us vs Q (E σ) hr I1.env0 hb1 r q) fun r s' hq=>?_)
  cases r with
  | error e=>exact hx pins σ H1 s1 e s' I1 hq
  | ok fl =>
   cases fl with
   | ret u=>exact I1.after hq
   | next=>exact cQ hq
   | brk=>exact cQ hq
   | cont=>exact cQ hq
end
theorem Fun.okLC {P:aQ} {w:bT} {K:ai} {mg:Str->Option ag} {base:cP} {k:Nat} {f:ak} {x qual:Str} {st:di} {fd:cF} {N ps:List Str} {sp:Sp} (F:Fun K x qual st f fd) (S:cK N ps (aZ st)) (len:∀ vs H Q E,sp vs H Q E->vs.length=ps.length)
  (hbody:∀ (cdv:ag) (A:bQ) (outer:List Env) (s:ah) (H:Hp) (vs:List V) (Q:VK) (E:XK),dj k (A.deeper (qx qual (aZ st) s.heap.objs.size f cdv))->sp vs H Q E ->
   ∃ t,PSsC (t4 (CXl P w) P w K mg base N qual (aZ st) f cdv A outer s H E) (jB st) t/\t {nx:=fun _ H'=>Q .non H',rt:=Q} (start N vs) H):dP P w K mg base (CXl P w) (k + 1) f fd ps sp:=by
 obtain ⟨oc,od,kV,doc,pm,an,cdv,ct,osl,rfl,lk,hcd⟩:=F.ex;exact Di lk hcd S len fun A outer s H vs Q E hr hsp=>hbody cdv A outer s H vs Q E hr hsp
section
variable {prog:aQ} {w:bT} {A:bQ} {E:ag->ah->Prop} {s:ah} {K:ai} {x C:ak} {ox:Obj} {od:Option Obj}
theorem vf {nameV:ag} {Q:Unit->ah->Prop} (X:K.In s.heap) (I:eE s.heap x ox C od) (c:uh K C) (h:Q () s):aY (aM prog w) A (jX "BaseException.__getattribute__" ⟨[.ref x,nameV],[]⟩) Q E s:=by
 obtain ⟨hh,g,d,t,os⟩:=s;have hk:builtinKind "BaseException.__getattribute__"=some .slot:=by decide +kernel
 have hsplit:splitId "BaseException.__getattribute__"=some ("BaseException","__getattribute__"):=by decide +kernel
 have ha:=F.args_bexc_ga (.ref x) nameV;have L0:=I.type (M:=aM prog w);have L1:=ra (M:=aM prog w) X c.be;simp only [jX,hk,hsplit];refine ae ?_;unfold Ag;refine ae (L0.at (L1.at ?_))
 repeat (first | assumption | wp_step)
theorem Ak {Q:Option ag->ah->Prop} (X:K.In s.heap) (I:eE s.heap x ox C od) (c:uh K C) (h:Q (some (.ref C)) {s with toks:=s.toks + 1}):aY (aM prog w) A (Fq (.ref x) "__class__") Q E s:=by
 have L0:=I.type (M:=aM prog w);have L1:=eP (M:=aM prog w) X c.ga;have L2':=eP (M:=aM prog w) X c.gh;have hf:p0 K C od "__class__"=some (.bind (.builtin "getset_descriptor.__get__") (.builtin "object.__class__")):=by
  obtain ⟨cd,hc⟩:=c.cs;unfold p0;rw [hc,pw,c.cl,pw];simp [c.cn,c.ck]
 have L3:=rN (M:=aM prog w) X I hf;obtain ⟨hh,g,d,t,os⟩:=s;unfold Fq getAttrBy? getAttrBy;refine ae (Dl (ae (qC (bH (ae (L0.at (ae (L1.at ?_))))))));dsimp only;rw [if_neg (show ¬ ((mV (Value.ref C) && Value.builtin "BaseException.__getattribute__" == Value.builtin "object.__getattribute__")=true) by rw [show (Value.builtin "BaseException.__getattribute__" == Value.builtin "object.__getattribute__")=false by decide +kernel,gT]; decide)];unfold yP IB;rw [if_pos (show mV (Value.ref C)=true from rfl)];refine ae (L2'.at (ae (qC (bH ?_))));unfold xQ Ah;rw [if_neg (show ¬ ((false && mV (Value.builtin "BaseException.__getattribute__"))=true) by decide),ig.ga.bind];refine ae (av (kJ (nX ig.ga.plain xR (vf (s:=⟨hh,g,d,t + 1,os⟩) X I c ?_))));have fin:∀ (A':bQ) (R:mO->ah->Prop),R (.ok (.ret (.ref C))) ⟨hh,g,d,t + 1,os⟩->qg (aM prog w) A' (.call (.builtin "getset_descriptor.__get__") ⟨[.builtin "object.__class__",.ref x,.ref C],[]⟩) R ⟨hh,g,d,t + 1,os⟩:=fun A' R q=>AU (s:=⟨hh,g,d,t + 1,os⟩) X I c.ob q;unfold oZ.«object.__getattribute__» slotArgs;refine ae (av ?_);refine ae (av ?_);refine ae (L0.at (ae (L3.at ?_)));unfold rb;refine ae (bH (kJ (fin _ _ ?_)));refine av ?_;exact sA rfl (av h)
theorem wQ (c:uh K C):Fs K (.ref x) (.ref C) (fun h=>eE h x ox C od) where
 ty:=fun _ _ _ I=>I.type
 it:=fun _ _ X _=>by
  obtain ⟨cd,hc⟩:=c.cs;unfold iP at hc
  split at hc
  ·rename_i c' d' cd' sl' ho
   intro A' Q' E' s' k q;unfold isType loadHead;exact ae (tf (k _ _ (X _ _ ho)) (av q))
  ·cases hc
 ne:=(Dm (x:=x) (ox:=ox) c).ne
 ca:=fun X I k=>Ak X I c k
theorem DC {v:ag} {o:Obj} {expr:Bool} {Q:ag->ah->Prop} (X:K.In s.heap) (I:eE s.heap x ox C (some o)) (c:uh K C) (hh:j5 K C=true) (hn:cf K (.ref C) "line"=some none) (hl:j4 "line" o=some (some v))
  (hv:sY v=true) (h:Q v {s with toks:=s.toks + 1}):aY (aM prog w) A (Cz (.ref x) "line" expr) Q E s:=by
 have L0:=I.type (M:=aM prog w);have L1:=eP (M:=aM prog w) X c.ga;have L2':=eP (M:=aM prog w) X c.gh;have L3:=rN (M:=aM prog w) X I (zr hh hn rfl hl);obtain ⟨hh,g,d,t,os⟩:=s;unfold Cz getAttrBy;refine ae (Dl (bH (ae (L0.at (ae (L1.at ?_))))));dsimp only;rw [if_neg (show ¬ ((mV (Value.ref C) && Value.builtin "BaseException.__getattribute__" == Value.builtin "object.__getattribute__")=true) by rw [show (Value.builtin "BaseException.__getattribute__" == Value.builtin "object.__getattribute__")=false by decide +kernel,gT]; decide)];unfold yP IB;rw [if_pos (show mV (Value.ref C)=true from rfl)];refine ae (L2'.at (ae (qC (bH ?_))));unfold xQ Ah;rw [if_neg (show ¬ ((expr && mV (Value.builtin "BaseException.__getattribute__"))=true) by cases expr <;> decide),ig.ga.bind];refine ae (av (kJ (nX ig.ga.plain xR (vf (s:=⟨hh,g,d,t + 1,os⟩) X I c ?_))));unfold oZ.«object.__getattribute__» slotArgs;refine ae (av ?_);refine ae (av ?_);refine ae (L0.at (ae (L3.at ?_)));refine av ?_;exact sA hv h
end
section
variable {X:Cx} {pins:List (ak×Obj)} {σ:St} {H:Hp} {s:ah}
theorem xT {a C d:ak} {n:Nat} (ok:HOk X.prog X.w H s.heap) (e:H a=some (XE a C d)) (el:H d=some (LD d n)):∃ ox od u,eE s.heap a ox C (some od)/\RelV (.int n) u/\j4 "line" od=some (some u):=by
 obtain ⟨ox,e1,c1,d1,n1⟩:=(ok a _ e).1;obtain ⟨u,ru,ns⟩:=(ok d _ el).1;obtain ⟨od,ho,hl⟩:=wt ns;refine ⟨ox,od,u,⟨e1,c1,n1,by rw [d1]; exact ho⟩,ru,?_⟩;rw [hl];rfl
theorem sF:oj X (.builtin "isinstance") (fun xs H Q=>∃ a C d n cv c b,xs=[.ref a,cv]/\RelV cv c/\(∀ u,RelV cv u->u=c)/\H a=some (XE a C d)/\H d=some (LD d n)/\uh X.K C/\mW X.K (.ref C) c=some b/\Q (.bl b) H):=by
 intro pins s σ H xs us Q I r h;obtain ⟨a,C,d,n,cv,c,b,rfl,_,hu,e,el,cl,k,q⟩:=h;obtain ⟨u,w',rfl,rx,rt⟩:=vals2 r
 cases (show u=Value.ref a from rx)
 cases hu _ rt;obtain ⟨ox,od,_,J,_⟩:=xT I.hok e el;exact PySem.W.kia_one (wQ cl) I.kIn J k (fun z=>nomatch z) fun tk=>⟨.bl b,H,I.tok _,rfl,q⟩
theorem wa:oj X (.builtin "isinstance") (fun xs H Q=>∃ a C d n tp,∃ as:List ak,∃ b,xs=[.ref a,.ref tp]/\H tp=some (.tup (as.map V.ref))/\H a=some (XE a C d)/\H d=some (LD d n)/\uh X.K C/\vg X.K (.ref C) (as.map Value.ref)=some b/\Q (.bl b) H):=by
 intro pins s σ H xs us Q I r h;obtain ⟨a,C,d,n,tp,as,b,rfl,et,e,el,cl,k,q⟩:=h;obtain ⟨u,w',rfl,rx,rt⟩:=vals2 r
 cases (show u=Value.ref a from rx)
 cases (show w'=Value.ref tp from rt);obtain ⟨ox,od,_,J,_⟩:=xT I.hok e el;obtain ⟨hlen,its,rv,ob,ho,hc,m,hd⟩:=I.hok tp _ et;have hi:its=as.map Value.ref:=by
  clear k et ho hd q hlen
  induction as generalizing its with
  | nil=>cases rv; rfl
  | cons a as ih =>
   cases rv with
   | cons h t=>rw [bY,<- ih (rv:=t)]; cases (show _=Value.ref a from h); rfl
 obtain ⟨oc,odd,odt,osl⟩:=ob;dsimp only at hc hd;subst hc hd;exact PySem.W.kia_tup (wQ cl) I.kIn J ho (by rw [hi]; exact k) (fun z=>nomatch z) fun tk=>⟨.bl b,H,I.tok _,rfl,q⟩
def tLine (C:ak) (ta:TE):TE:=fun σ H Q=>ta σ H fun x H1=>∃ a d n,x=.ref a/\H1 a=some (XE a C d)/\H1 d=some (LD d n)/\Q (.int (n:Nat)) H1
theorem FF {e:cI} {ta:TE} {pos:Pos} {C D f:ak} (c:vY X.K C D f) (he:PE X e ta) (hb:iF e "line" X.env (dE e X.env)=dE e X.env):PE X (.Attribute e "line" pos) (tLine C ta):=by
 intro pins s σ H Q I h;refine AH hb (thn (he pins s σ H _ I h) fun u s1 ⟨x,H1,I1,rx,a,d,n,ex,ea,ed,q⟩=>?_);subst ex;obtain rfl:u=Value.ref a:=rx;obtain ⟨ox,od,u,J,ru,hl⟩:=xT I1.hok ea ed;obtain ⟨cd,hcd,_,hhd⟩:=c.cd;exact DC I1.kIn J c.x (by unfold j5; rw [hcd]; exact hhd) c.nl hl (wu ru) ⟨.int n,H1,I1.tok _,ru,q⟩
end
theorem tT.own {X:Cx} {E:XK} (hb:tT X E):xk (aM X.prog X.w) X.A X.env X.xe:=by
 rw [hb.xe];exact PassesOwn.leaving
def PTC (X:Cx) (e:cI) (t:TT):Prop:=
 ∀ (whole:Sem ag) (pins:List (ak×Obj)) (s:ah) (σ:St) (H:Hp) (Q:Bool->Hp->Prop),whole=dE e X.env\/(∃ op es p,e=.BoolOp op es p)->Inv X pins σ H s->t σ H Q->wpC (aM X.prog X.w) X.A (oE e X.env whole) (TP X pins σ Q) X.xe s
def PAC (X:Cx) (es:List cI) (t:TA):Prop:=
 ∀ (pos:Pos) (pins:List (ak×Obj)) (s:ah) (σ:St) (H:Hp) (Q:List V->Hp->Prop),Inv X pins σ H s->t σ H Q->wpC (aM X.prog X.w) X.A (zq (eR pos (bB es X.env))) (AP X pins σ Q) X.xe s
section
variable {X:Cx} {a b e cc:cI} {rest es:List cI} {pos:Pos} {tA tB':TT} {te:TE} {t:TA} {ts us:TS}
theorem sI (h:PEC X e te) (he:∀ whole,oE e X.env whole=(do let v <- whole; qc e.pos; nG [v] (HM v)):=by intro _; rfl) (hn:∀ op es p,e≠.BoolOp op es p:=by intro _ _ _ z; cases z):PTC X e (tB te):=fun wh pins s σ H Q hw I q=>by
 rcases hw with rfl | ⟨op,es,p,z⟩
 ·rw [he];refine dZ (lS (h pins s σ H _ I q) fun v s1 ⟨x,H1,I1,r1,q1⟩=>?_);obtain ⟨d,rfl,q⟩:=q1
  cases r1;exact toC (ae (bU (bH (dO ⟨H1,I1,q⟩))))
 ·exact absurd z (hn op es p)
theorem sJ (ha:PTC X a tA):PTC X (.UnaryOp .Not a pos) (EL tA):=fun wh pins s σ H Q _ I q=>by
 show wpC _ _ (do return !(<- oE a X.env (dE a X.env))) _ _ s;exact dZ (lS (ha _ pins s σ H (fun c H1=>Q (!c) H1) (.inl rfl) I q) fun c s1 ⟨H1,I1,q1⟩=>toC (av ⟨H1,I1,q1⟩))
theorem ptC_and1 (ha:PTC X a tA):PTC X (.BoolOp .And [a] pos) tA:=fun wh pins s σ H Q _ I q=>by
 show wpC _ _ (oE a X.env (dE a X.env) >>= fun c=>match BoolOp.And,c with
  | .And,false=>pure false
  | .Or,true=>pure true
  | _,_=>allTrue .And [] X.env) _ _ s
 refine dZ (lS (ha _ pins s σ H Q (.inl rfl) I q) fun c s1 z=>?_)
 cases c <;> exact toC (av z)
theorem FG (ha:PTC X a tA):PTC X (.BoolOp .Or [a] pos) tA:=fun wh pins s σ H Q _ I q=>by
 show wpC _ _ (oE a X.env (dE a X.env) >>= fun c=>match BoolOp.Or,c with
  | .And,false=>pure false
  | .Or,true=>pure true
  | _,_=>allTrue .Or [] X.env) _ _ s
 refine dZ (lS (ha _ pins s σ H Q (.inl rfl) I q) fun c s1 z=>?_)
 cases c <;> exact toC (av z)
theorem IJ (ha:PTC X a tA) (hb:PTC X (.BoolOp .Or (b :: rest) pos) tB'):PTC X (.BoolOp .Or (a :: b :: rest) pos) (tOr tA tB'):=fun wh pins s σ H Q _ I q=>by
 show wpC _ _ (oE a X.env (dE a X.env) >>= fun c=>match BoolOp.Or,c with
  | .And,false=>pure false
  | .Or,true=>pure true
  | _,_=>allTrue .Or (b :: rest) X.env) _ _ s
 refine dZ (lS (ha _ pins s σ H _ (.inl rfl) I q) fun c s1 ⟨H1,I1,q1⟩=>?_)
 cases c with
 | false=>exact hb wh pins s1 σ H1 Q (.inr ⟨_,_,_,rfl⟩) I1 q1
 | true=>exact toC (av ⟨H1,I1,q1⟩)
theorem ux {x y:List di} (hc:PTC X cc tA) (ha:PSsC X x ts) (hb:PSsC X y us):PSC X (.If cc x y pos) (vO tA ts us):=by
 intro pins s σ H D I h;rw [exec_If];refine cM (bU (dZ (lS (hc _ pins s σ H _ (.inl rfl) I h) fun d s1 ⟨H1,I1,q1⟩=>?_)))
 cases d with
 | true=>exact ha pins s1 σ H1 D I1 q1
 | false=>exact hb pins s1 σ H1 D I1 q1
theorem PA.c (h:PA X es t):PAC X es t:=fun pos pins s σ H Q I q=>toC (h pos pins s σ H Q I q)
theorem iL (ha:PEC X e te) (hr:PAC X es t) (hs:bB (e :: es) X.env=(false,dE e X.env) :: bB es X.env:=by rfl):PAC X (e :: es) (gS te t):=by
 intro pos pins s σ H Q I h;rw [hs];show wpC _ _ (zq ((false,dE e X.env) :: eR pos (bB es X.env))) _ _ s;rw [zq];refine dZ (lS (ha pins s σ H _ I h) fun u s1 ⟨x,H1,I1,r1,q1⟩=>?_);simp only [j0,if_false];exact cM (av (dZ (o6 (lS (hr pos pins s1 σ H1 _ I1 q1) fun us s2 ⟨xs,H2,I2,r2,q2⟩=>toC (av ⟨x :: xs,H2,I2,.cons r1 r2,q2⟩)))))
theorem uy {x1} (h:PAC X es t):PEC X (.Tuple es x1 pos) (tTup t):=by
 intro pins s σ H Q I hq;rw [arm_eval_Tuple];refine cM (bU (dZ (lS (h pos pins s σ H _ I hq) fun us s1 ⟨xs,H1,I1,r,z,q⟩=>toC (wpAny_newTuple ?_ (by rw [<- r.length]; exact z)))));have hf:H1 s1.heap.objs.size=none:=I1.hok.fresh (ay _);refine ⟨.ref s1.heap.objs.size,upd H1 s1.heap.objs.size (.tup xs),I1.laid (t':=s1.toks) (fun b u e=>aD _ e) (ay _) ?_,rfl,q _ hf⟩;exact ⟨z,us,r,⟨_,bV _ rfl,rfl,_,rfl⟩⟩
theorem FH {op} (h:PEC X a te):PEC X (.BoolOp op [a] pos) te:=fun pins s σ H Q I hw=>h pins s σ H Q I hw
theorem FJ {ta tb:TE} (ha:PEC X a ta) (hb:PEC X (.BoolOp .And (b :: rest) pos) tb):PEC X (.BoolOp .And (a :: b :: rest) pos) (Gg ta tb):=by
 intro pins s σ H Q I h;show wpC _ _ (do
  let v <- dE a X.env
  qc pos
  let c <- nG [v] (HM v)
  match BoolOp.And,c with
  | .And,false | .Or,true=>pure v
  | _,_=>boolOp pos .And (dE b X.env :: evalEach rest X.env)) _ _ s
 refine dZ (lS (ha pins s σ H _ I h) fun v s1 ⟨x,H1,I1,r1,q1⟩=>?_);obtain ⟨c,rfl,q1⟩:=q1
 cases r1;refine cM (bU (cM (bH (dO ?_))))
 cases c with
 | true=>exact hb pins s1 σ H1 Q I1 q1
 | false=>exact toC (av ⟨.bl false,H1,I1,rfl,q1⟩)
end
section
variable {prog:aQ} {w:bT} {A:bQ} {R:mO->ah->Prop} {s:ah} {elt target iter:cI} {ifs:List cI} {scope:kO} {pos:Pos} {it acc:ag} {env:Env}
theorem BO (J:Nat->ah->Prop)
  (turn:∀ n s,J n s->aY (aM prog w) A (Ct it) (fun r s1=>match r with
   | none=>R (.ok .next) s1
   | some v=>aY (aM prog w) A (jm target it v) (fun _ s2=>aY (aM prog w) A (pF target env v) (fun _ s3 =>
     aY (aM prog w) A (forIn ifs true fun c r=>if r=true then do let ok <- oE c env (dE c env); pure (ForInStep.yield ok) else pure (ForInStep.yield r)) (fun ok s4 =>
      if ok=true then wpC (aM prog w) A (dE elt env) (fun x s5=>aY (aM prog w) A (sX (.builtin "list.append") [acc,x]) (fun _ s6=>∃ m,m < n/\J m s6) (fun _ _=>False) s5) (fun _ _=>False) s4
      else ∃ m,m < n/\J m s4) (fun _ _=>False) s3) (fun _ _=>False) s2) (fun _ _=>False) s1) (fun _ _=>False) s)
  (n:Nat) (h:J n s):gc (aM prog w) A (.compLoop (.ListComp elt [⟨target,iter,ifs,0⟩] scope pos) 0 it acc env) R s:=by
 refine Dd rfl J (fun n s hI=>?_) n h;show wpC _ A ((compTurn (.ListComp elt [⟨target,iter,ifs,0⟩] scope pos) 0 it acc env).onRaise (fun x=>do jw x env; oK x)) _ _ s;refine z9 ?_;rw [compTurn_list];refine cM (bU (cM (cE (turn n s hI) (fun r s1 h1=>?_) fun _ _ z=>z.elim)))
 cases r with
 | none=>exact toC (av h1)
 | some v =>
  refine cM (cE h1 (fun _ s2 h2=>?_) fun _ _ z=>z.elim);refine cM (cE h2 (fun _ s3 h3=>?_) fun _ _ z=>z.elim);refine cM (cE h3 (fun ok s4 h4=>?_) fun _ _ z=>z.elim)
  cases ok with
  | false=>exact toC (av (.inl ⟨rfl,h4⟩))
  | true =>
   refine dZ (dZ (o5 h4 (fun x s5 h5=>?_) fun _ _ z=>z.elim));exact toC (ae (cE h5 (fun _ s6 h6=>av (toC (av (.inl ⟨rfl,h6⟩)))) fun _ _ z=>z.elim))
theorem Al {rest:List BP} (h0:gc (aM prog w) A (.compLoop (.ListComp elt (⟨target,iter,ifs,0⟩ :: rest) scope pos) 0 it acc env) R s)
  (h:aY (aM prog w) A (HS it) (fun i2 z=>gc (aM prog w) A (.compLoop (.ListComp elt (⟨target,iter,ifs,0⟩ :: rest) scope pos) 0 i2 acc env) R z) (qj (aM prog w) A env fun x z=>R (.error x) z) s) :
  gc (aM prog w) A (.compStart (.ListComp elt (⟨target,iter,ifs,0⟩ :: rest) scope pos) 0 it acc env) R s:=by
 refine va (toC ?_);show aY _ _ (Sem.onRaise (compStart (.ListComp elt (⟨target,iter,ifs,0⟩ :: rest) scope pos) 0 it acc env) fun x=>do jw x env; qc theWindowsPlace) _ _ s;apply wpAny_notedAt;unfold compStart;show aY _ _ (ask >>= _) _ _ s;apply ae;apply wpAny_askSetting;apply wpAny_ite;have k0:(Code.compLoop (.ListComp elt (⟨target,iter,ifs,0⟩ :: rest) scope pos) 0 it acc env).quiet=true:=rfl
 split
 ·first
   | exact av ⟨k0,h0⟩
   | exact ae (av (av ⟨k0,h0⟩))
 ·have go:=cE h (fun i2 z y=>av (M:=aM prog w) (A:=A) (a:=Fin.again (Code.compLoop (.ListComp elt (⟨target,iter,ifs,0⟩ :: rest) scope pos) 0 i2 acc env)) (Q:=fun fin z=>match fin with | .done f=>R (.ok f) z | .again d=>d.quiet=true/\gc (aM prog w) A d R z) (E:=qj (aM prog w) A env fun x z=>R (.error x) z) (s:=z) ⟨rfl,y⟩) fun _ _ y=>y;apply ae;apply Ad;apply ae;apply bU;exact ae go
end
section
variable {M:mB} {A:bQ} {E:ag->ah->Prop} {s:ah} {env:Env}
theorem yV {α:Type} {c:Prop} [Decidable c] {pos:Pos} {k:PUnit->Sem α} {Q:α->ah->Prop} (h:wpC M A (k ()) Q E s):wpC M A (if c then (qc pos >>= k) else k ()) Q E s:=by
 by_cases z:c
 ·rw [if_pos z];exact cM (bU h)
 ·rw [if_neg z];exact h
theorem BQ {e:cI} {scope:kO} {pos:Pos} {newAcc first:Sem ag} {g:BP} {gs:List BP} {cl:List (Str×ak)} {use:Option (ag->Sem Unit)} {Q:ag->ah->Prop} (hcl:clausesOf e=g :: gs) (hs:∀ x,gG g.iter env x=pure x) (hclos:uU scope env=pure cl)
  (hkind:scope.kind=.function) (hnames:∀ x∈scope.names,x.2=.local->scope.names.lookup x.1=some .local)
  (h:aY M A first (fun x z1=>aY M A (HS x) (fun it z2=>aY M A newAcc (fun acc z3=>aY M A (newFunctionEnv scope env.globals cl [] env.qual none .none (some env)) (fun cenv z4 =>
    gc M A (.compStart e 0 it acc {cenv with scope:=zy scope env}) (zY M A E use Q acc cenv.locals) z4) E z3) E z2) E z1) E s):wpC M A (nI e scope env pos newAcc false first use) Q E s:=by
 unfold nI;rw [hclos,hcl];refine cM (cE h (fun x z1 h1=>cM (bU (cM (eO (hs x) ?_)))) fun _ _ y=>y);refine cM (bH (cE h1 (fun it z2 h2=>?_) fun _ _ y=>y));refine yV (cM (cE h2 (fun acc z3 h3=>cM (av (cM (cE h3 (fun cenv z4 h4=>?_) fun _ _ y=>y)))) fun _ _ y=>y));dsimp only;have hv:∀ x∈(scope.names.filter fun x=>(x.2 == .local || x.2 == .cell) && x.1 != (".0":Str)).reverse,x.2=.local->Env.kindOf {cenv with scope:=zy scope env} x.1=some .local:=fun x hx hl=>lookup_relabel_local (hnames x (vI.mp (p8.mp hx)).1 hl);refine o6 (dZ (yM (o6 (runC (jI h4 fun r z hr=>?_)))));have hv2:∀ x∈(scope.names.filter fun x=>(x.2 == .local || x.2 == .cell) && x.1 != (".0":Str)).reverse.drop 1++(scope.names.filter fun x=>(x.2 == .local || x.2 == .cell) && x.1 != (".0":Str)).reverse.take 1,x.2=.local->Env.kindOf {cenv with scope:=zy scope env} x.1=some .local:=fun x hx hl=>(aN.mp hx).elim (fun a=>hv x (ia a) hl) fun a=>hv x (dN a) hl
 cases r with
 | ok f =>
  cases use with
  | none =>
   obtain ⟨m,hn,hr⟩:=hr;exact toC (ae (bH (xU (cenv:={cenv with scope:=zy scope env}) hkind _ z m hv hn fun h' m' _ hs'=>av (hr h' hs'))))
  | some u =>
   apply toC;apply ae;apply Ad;apply ae;refine bH (cE hr (fun _ y z2=>?_) fun _ _ y=>y);obtain ⟨m,hn,k⟩:=z2;apply ae;exact xU (cenv:={cenv with scope:=zy scope env}) hkind _ y m hv2 hn fun h' m' _ hs'=>av (k h' hs')
 | error x =>
  have hr2:∃ m,z.heap.Ns cenv.locals m/\∀ h',nC cenv.locals z.heap h'->∀ c2:Env,c2.locals=cenv.locals->aY M A (passOn "comprehension.variables-let-go" x c2:Sem ag) (fun _ _=>False) E {z with heap:=h'}:=by cases use <;> exact hr
  obtain ⟨m,hn,hr⟩:=hr2;exact toC (ae (bH (xU (cenv:={cenv with scope:=zy scope env}) hkind _ z m hv hn fun h' m' _ hs'=>cE (hr h' hs' _ rfl) (fun _ _ f=>f.elim) fun _ _ y=>y)))
end
section
variable {X:Cx}
theorem BR {elt target iter:cI} {ifs:List cI} {scope:kO} {NN:List Str} {pos pos':Pos} {wi:TI} {g:TG} {tc:TT} {te:TE} {use:Option (ag->Sem Unit)} {Qv:ag->ah->Prop} (own:List Str) (ok:hW X scope NN) (hc:X.calm=true) (hi:PI X target iter wi)
  (hg:∀ fp s₂ H₂ C,PG (cxC X scope (own++NN) fp s₂ H₂ C) target g) (ht:∀ fp s₂ H₂ C,PTs (cxC X scope (own++NN) fp s₂ H₂ C) ifs tc) (he:∀ fp s₂ H₂ C,PEC (cxC X scope (own++NN) fp s₂ H₂ C) elt te)
  (hs:∀ x,gG iter X.env x=pure x) {pins:List (ak×Obj)} {s:ah} {σ:St} {H:Hp} {Q:VK} (I:Inv X pins σ H s) (h:pZ own.length wi g tc te σ H Q)
  (hfin:∀ (s4:ah) (C D:ak) (H':Hp) (m:Str->Option ag),s4.heap.Ns C m->Inv X pins σ H' s4->H' C=none->C≠X.env.locals->X.s₀.heap.objs.size<=C->(∀ x c,X.env.cells.lookup x=some c->c≠C)->(∀ p∈X.pn++pins,p.1≠C)->Q (.ref D) H' ->
   zY (aM X.prog X.w) X.A X.xe use Qv (.ref D) C (.ok .next) s4) :
  wpC (aM X.prog X.w) X.A (nI (.ListComp elt [⟨target,iter,ifs,0⟩] scope pos) scope X.env pos' (Jg []) false (dE iter X.env) use) Qv X.xe s:=by
 have hfr:∀ y∈scope.names,y.2=.free->∃ c,X.env.cells.lookup y.1=some c:=fun y hy e=>I.ok.has _ (ok.far y hy e);have okclos:uU scope X.env=pure (nU X.env scope.names []):=by
  unfold uU;rw [<- uR scope.names [] hfr];simp
 have oksub:∀ n c,(nU X.env scope.names []).lookup n=some c->X.env.cells.lookup n=some c:=fun n c e=>uS (fun n c e=>by simp at e) e;have okfar:∀ n,(scope.names.lookup n=some .cell\/scope.names.lookup n=some .free)->(∃ c,(nU X.env scope.names []).lookup n=some c)/\(X.env.kindOf n=some .cell\/X.env.kindOf n=some .free):=fun n e=>by
  rcases e with e | e
  ·exact absurd rfl (ok.nocell _ (eB e))
  ·have m:=eB e;exact ⟨uT m (hfr _ m rfl),ok.far _ m rfl⟩
 refine BQ (use:=use) rfl hs okclos ok.kind ok.names (thn (hi pins s σ H _ I h) fun xv s1 h1=>thn h1 fun itv s2 h2=>?_);obtain ⟨it,fp,tn,J,H2,e,I2,T,st2,f2,W,⟨m0,w0⟩,turn⟩:=h2;subst e;have fpLt:∀ b∈fp,b < s2.heap.objs.size:=fun b hb=>by
  obtain ⟨o,e,_⟩:=T.obj _ _ st2 b hb;exact ba e
 refine gH (Fd ok.nocell (by intro y hy; simp at hy) (fun h1 hns hsb=>?_) ok.kind);dsimp only at hns hsb |-;generalize hP:s2.heap.push {cls:=.type "list",dict:=none,data:=.seq ([]:List ag).toArray}=P at hns hsb |-;have hC:P.objs.size=s2.heap.objs.size + 1:=by rw [<- hP,kC]
 have hDC:s2.heap.objs.size≠P.objs.size:=by rw [hC]; exact bz (lE _)
 have leC:s2.heap.objs.size<=P.objs.size:=by rw [hC]; exact ib _
 have old:∀ b o,s2.heap.get? b=some o->h1.get? b=some o:=fun b o e =>
  hsb.extBut b o (by rw [hC]; exact bz (t9 (ba e))) (aD _ (hP ▸ aD _ e))
 have accAt:h1.get? s2.heap.objs.size=some {cls:=.type "list",data:=.seq ([]:List ag).toArray 0}:=hsb.extBut _ _ hDC (aD _ (hP ▸ bV _ rfl))
 have okC:(cxC X scope (own++NN) fp s2 H2 P.objs.size).Ok:=by
  refine ⟨I.ok.mod,ok.kind,I.ok.glob,I.ok.blt,by show s2.heap.objs.size<=P.objs.size; omega,fun y z c a b=>I.ok.inj y z c (oksub _ _ a) (oksub _ _ b),fun y hy=>(okfar y (rK hy)).1,fun y c z _=>um z,I.ok.hd,I.ok.frames,.inl rfl,
   fun b hb=>⟨fun z=>?_,fun y c e=>(f2 b hb).2.2.2.2.1 y c (oksub _ _ e)⟩,I2.bs,bN I.ok.bsz I2.sz,fun b o e hb=>?_,fun b hb z=>?_,I2.stack,I2.stkFree⟩
  ·exact bz (bc (fpLt b hb) leC) z
  ·rcases (f2 b hb).2.2.2.1 with q | q
   ·exact I.ok.noex b o e q
   ·exact absurd (bc (ba e) (bN I.ok.bsz q)) (d8 _)
  ·rcases ar.mp (I2.stkSub b z) with q | q
   ·exact (f2 b hb).2.1 q
   ·exact (f2 b hb).2.2.1 q
 have fpOk:∀ {H':Hp} {o:Obj},(∀ b∈fp,H' b=none)->∀ b∈fp,xm (cxC X scope (own++NN) fp s2 H2 P.objs.size) [(s2.heap.objs.size,o)] H' b:=fun {H' o} hn b hb=>by
  have lt:=fpLt b hb;refine ⟨hn b hb,fun z=>?_,fun z=>okC.exfs b hb z,.inl hb,fun y c e=>(okC.exf b hb).2 y c e,fun p hp z=>?_⟩
  ·exact bz (bc lt leC) z
  ·have hp':p=(s2.heap.objs.size,o):=by simpa using hp
   subst hp';exact bz lt (Fe z)
 have cellNe:∀ y c,(nU X.env scope.names []).lookup y=some c->c < s2.heap.objs.size:=fun y c e=>by
  obtain ⟨v,q⟩:=I2.cell y c (oksub _ _ e);exact q.lt
 have start:Inv (cxC X scope (own++NN) fp s2 H2 P.objs.size) [] (aJ own.length none++σ) H2 {s2 with heap:=h1,toks:=s2.toks + ([]:List (Str×ag)).length}:=by
  refine ⟨okC,rfl,I2.bare,Un.kept old,⟨_,hns,fun i y v e1 e2 e3=>?_⟩,fun y c e=>?_,I2.hok.fresh (by show s2.heap.objs.size<=P.objs.size; omega),fun y c e=>I2.freeC y c (oksub _ _ e),fun p hp=>absurd (show p∈([]:List (ak×Obj)) from by simpa using hp) (by simp),I2.hok.kept old,?_⟩
  ·by_cases hi:i < own.length
   ·rw [dw (by simpa using hi),gq,if_pos hi] at e2
    cases e2
   ·have e1n:NN[i - own.length]?=some y:=by
     have z:(own++NN)[i]?=some y:=e1;rw [cG (by omega)] at z;exact z
    rw [cG (by simpa using hi),cU] at e2;obtain ⟨ap1,ap2⟩:=ok.apart _ y e1n
    rcases e3 with e3 | e3
    ·exact absurd (uQ e3) ap1
    ·obtain ⟨⟨c,hcl⟩,kc⟩:=okfar y (rK e3);have e1':X.N[i - own.length]?=some y:=by
      rcases ap2 with z | z
      ·exact z
      ·rcases rK e3 with q | q <;> (rw [z] at q; cases q)
     obtain ⟨m,hn,hl⟩:=I2.loc;obtain ⟨u,r,l⟩:=hl (i - own.length) y v e1' e2 (.inr kc);refine ⟨u,r,.inr ⟨e3,c,hcl,?_⟩⟩
     rcases l with ⟨l,_⟩ | ⟨_,c',e',q⟩
     ·rcases kc with kc | kc <;> (rw [l] at kc; cases kc)
     ·rw [oksub _ _ hcl] at e'
      cases e';exact q.keeps old
  ·obtain ⟨v,q⟩:=I2.cell y c (oksub _ _ e);exact ⟨v,q.keeps old⟩
  ·show (aJ own.length none++σ).length=(own++NN).length;rw [af,af,cU,I2.len,ok.len]
 have nDC:s2.heap.objs.size≠P.objs.size:=hDC;have nDf:s2.heap.objs.size∉frs X.stack:=fun z=>by
  rcases ar.mp (I2.stkSub _ z) with q | q
  ·exact bz I2.lt (Fe q)
  ·exact I2.nofs (ay _) q
 have loop:∀ s₃:ah,s₃={s2 with heap:=h1,toks:=s2.toks + ([]:List (Str×ag)).length} ->
   gc (aM X.prog X.w) X.A (.compLoop (.ListComp elt [⟨target,iter,ifs,0⟩] scope pos) 0 (.ref it) (.ref s2.heap.objs.size) (compEnvC scope (nU X.env scope.names []) P.objs.size X.env))
    (zY (aM X.prog X.w) X.A X.xe use Qv (.ref s2.heap.objs.size) P.objs.size) s₃:=by
  rintro s₃ rfl;refine BO (fun n s'=>∃ (i:Nat) (ys:List V) (H':Hp) (its:List ag) (k:Nat),Inv (cxC X scope (own++NN) fp s2 H2 P.objs.size) [] (aJ own.length none++σ) H' s'/\tn i s'.heap/\(∀ b∈fp,H' b=none)/\H' s2.heap.objs.size=none/\dv ys its /\
   s'.heap.get? s2.heap.objs.size=some {cls:=.type "list",data:=.seq its.toArray k}/\W i n ys H') ?_ m0
   ⟨0,[],H2,[],0,start,T.keep _ _ _ st2 (fun b _ o e=>old b o e),fun b hb=>(f2 b hb).1,I2.hok.fresh (ay _),.nil,accAt,w0⟩
  rintro n s3 ⟨i,ys,H3,its,k,I3,st3,fr3,nD,rv,hD,w3⟩;have Ip:Inv (cxC X scope (own++NN) fp s2 H2 P.objs.size) [(s2.heap.objs.size,{cls:=.type "list",data:=.seq its.toArray k})] (aJ own.length none++σ) H3 s3:=I3.pins_of fun p hp=>by
   have hp':p=(s2.heap.objs.size,{cls:=.type "list",data:=.seq its.toArray k}):=by simpa using hp
   subst hp';exact ⟨hD,nD,nDC,nDf,fun v z=>by cases z⟩
  obtain ⟨hl,hw⟩:=turn i n ys H3 w3
  rcases hw with ⟨stop,fin⟩ | ⟨go,N,hN,step⟩
  ·refine thn (T.done (cxC X scope (own++NN) fp s2 H2 P.objs.size) rfl rfl rfl hc i _ s3 _ H3 _ Ip (fpOk fr3) st3 stop) fun r s4 z=>?_;obtain ⟨hr,I4⟩:=z;subst hr;obtain ⟨m,hn,_⟩:=I4.loc;have hD4:s4.heap.get? s2.heap.objs.size=some {cls:=.type "list",data:=.seq its.toArray k}:=(I4.pin _ (aP _ aA)).1;obtain ⟨h',eh'⟩:∃ h',h'=s4.heap:=⟨_,rfl⟩;have sb':∀ b o,b≠P.objs.size->s4.heap.get? b=some o->h'.get? b=some o:=fun b o hb e=>by rw [eh']; exact e
   have oldNe:∀ b o,s2.heap.get? b=some o->b≠P.objs.size/\b≠s2.heap.objs.size:=fun b o e=>by
    have lt:=ba e;exact ⟨bz (bc lt leC),bz lt⟩
   have trNe:∀ b u,H3 b=some u->b≠P.objs.size/\b≠s2.heap.objs.size:=fun b u e=>by
    refine ⟨fun z=>?_,fun z=>?_⟩
    ·have q:H3 P.objs.size=none:=I4.free;rw [<- z,e] at q
     cases q
    ·rw [z,nD] at e
     cases e
   have un:Un (frs X.stack) fp H2 (upd H3 s2.heap.objs.size (.lst ys)) s2.heap h':=by
    have B:=I4.base;refine ⟨fun b o e q hb hx=>sb' b o (oldNe b o e).1 (B.keep b o e q hb hx),fun b o e q hb hx=>?_,fun b o e q hx=>?_,fun b o e hx=>?_,fun b xs e=>?_,fun b o u e=>?_,fun b ps e=>?_⟩
    ·obtain ⟨sl,e1⟩:=B.slot b o e q hb hx;exact ⟨sl,sb' _ _ (oldNe b o e).1 e1⟩
    ·rw [aT (oldNe b o e).2];exact B.free b o e q hx
    ·obtain ⟨o',e1⟩:=B.there b o e hx;exact ⟨o',sb' _ _ (oldNe b o e).1 e1⟩
    ·have q:=B.tups b xs e;rw [aT (trNe _ _ q).2];exact q
    ·have q:=B.frzs b o u e;rw [aT (trNe _ _ q).2];exact q
    ·obtain ⟨more,q⟩:=B.tbls b ps e;refine ⟨more,?_⟩;rw [aT (trNe _ _ q).2];exact q
   have hok:HOk X.prog X.w (upd H3 s2.heap.objs.size (.lst ys)) h':=fun b u e=>by
    by_cases hb:b=s2.heap.objs.size
    ·subst hb;rw [ao] at e
     cases e;exact ⟨kE hl,its,k,rv,sb' _ _ nDC hD4⟩
    ·rw [aT hb] at e;refine (I4.hok b u e).stay (fun c v hc q=>sb' c v ?_ q) (fun c q=>?_) fun c xs q=>?_
     ·rcases hc with z | z
      ·rw [z];exact (trNe _ _ e).1
      ·exact (trNe _ _ z).1
     ·rw [aT (trNe _ _ q).2];exact q
     ·rw [aT (trNe _ _ q).2];exact q
   have J:=I2.call' (s':={s4 with heap:=h'}) (ch:=fp) I4.os un hok I4.bare fun b hb=>⟨(f2 b hb).2.2.2.1,(f2 b hb).2.1,(f2 b hb).2.2.2.2.1,(f2 b hb).2.2.2.2.2⟩;subst eh';refine hfin s4 P.objs.size s2.heap.objs.size (upd H3 s2.heap.objs.size (.lst ys)) m hn J ?_ ?_ ?_ (fun y c e=>?_) (fun q hq=>?_) (fin _ nD)
   ·rw [aT nDC.symm];exact I4.free
   ·exact nM (bc I2.lt leC)
   ·exact bN I2.sz leC
   ·obtain ⟨v,z⟩:=I2.cell y c e;exact bz (bc z.lt leC)
   ·exact bz (bc (ba (I2.pin q hq).1) leC)
  ·refine thn (T.item (cxC X scope (own++NN) fp s2 H2 P.objs.size) rfl rfl rfl hc i _ s3 _ H3 _ Ip (fpOk fr3) st3 go) fun r s4 z=>?_;obtain ⟨u,hr,h4⟩:=z;subst hr;refine thn h4 fun _ s5 z=>?_;obtain ⟨x,H5,I5,r5,y5,st5,fr5⟩:=z;have I5':=I5.pinned (fpOk fr5) (T.obj _ _ st5);refine thn (hg fp s2 H2 P.objs.size _ s5 _ H5 x u _ I5' r5 (step x H5 y5)) fun _ s6 z=>?_;obtain ⟨σ6,H6,I6,hσ,q6⟩:=z;refine thn (ht fp s2 H2 P.objs.size _ s6 σ6 H6 _ I6 q6) fun okb s7 z=>?_;obtain ⟨H7,I7,q7⟩:=z;have pinD:∀ {H8:Hp} {s8:ah},Inv (cxC X scope (own++NN) fp s2 H2 P.objs.size) ([(s2.heap.objs.size,{cls:=.type "list",data:=.seq its.toArray k})]++pG fp s5.heap) σ6 H8 s8 ->
     s8.heap.get? s2.heap.objs.size=some {cls:=.type "list",data:=.seq its.toArray k}/\H8 s2.heap.objs.size=none:=fun I8=>by
    have z:=I8.pin (s2.heap.objs.size,{cls:=.type "list",data:=.seq its.toArray k}) (aP _ (cS _ aA));exact ⟨z.1,z.2.1⟩
   have pinF:∀ {H8:Hp} {s8:ah},Inv (cxC X scope (own++NN) fp s2 H2 P.objs.size) ([(s2.heap.objs.size,{cls:=.type "list",data:=.seq its.toArray k})]++pG fp s5.heap) σ6 H8 s8 ->
     tn (i + 1) s8.heap/\∀ b∈fp,H8 b=none:=fun {H8 s8} I8=>by
    refine ⟨T.keep _ _ _ st5 fun b hb o e=>(I8.pin (b,o) (aP _ (aP _ (i8 hb e)))).1,fun b hb=>?_⟩;obtain ⟨o,e,_⟩:=T.obj _ _ st5 b hb;exact (I8.pin (b,o) (aP _ (aP _ (i8 hb e)))).2.1
   have len6:(aJ own.length none++σ).length=σ6.length:=by rw [I6.len,start.len]
   cases okb with
   | false =>
    have q7':N ys H7:=q7;obtain ⟨m',lt,w'⟩:=hN _ _ q7';obtain ⟨d1,d2⟩:=pinD I7;obtain ⟨p1,p2⟩:=pinF I7;have J7:Inv (cxC X scope (own++NN) fp s2 H2 P.objs.size) [] σ6 H7 s7:=I7.pins_of (fun p hp=>absurd hp (by simp));exact ⟨m',lt,i + 1,ys,H7,its,k,J7.weak len6 (sr hσ),p1,p2,d2,rv,d1,w'⟩
   | true =>
    refine lS (he fp s2 H2 P.objs.size _ s7 σ6 H7 _ I7 q7) fun v8 s8 z=>?_;obtain ⟨y,H8,I8,r8,n8⟩:=z;obtain ⟨m',lt,w'⟩:=hN _ _ n8;obtain ⟨d1,d2⟩:=pinD I8;obtain ⟨p1,p2⟩:=pinF I8;refine append_at (hsz:=by rw [aI,<- rv.length]; exact kE hl) d1 fun h9 sb hD9=>?_;have J8:Inv (cxC X scope (own++NN) fp s2 H2 P.objs.size) [] σ6 H8 s8:=I8.pins_of (fun p hp=>absurd hp (by simp));have J9:Inv (cxC X scope (own++NN) fp s2 H2 P.objs.size) [] σ6 H8 {s8 with heap:=h9}:=J8.turned (t':=s8.toks) (it:=s2.heap.objs.size) (fun b o hb e=>sb.extBut b o hb e) d2 nDC (.inr (ay _)) (fun y c e=>bz (cellNe y c e)) (fun p hp=>absurd hp (by simp));refine ⟨m',lt,i + 1,ys++[y],H8,its++[v8],k + 1,J9.weak len6 (sr hσ),T.keep _ _ _ p1 (fun b hb o e=>sb.extBut b o (bz (fpLt b hb)) e),p2,d2,rv.append (.cons r8 .nil),?_,w'⟩;show h9.get? _=_;rw [hD9,C3]
 exact Al (loop _ rfl) (T.self X.A 0 _ _ _ (T.keep _ _ _ st2 (fun b _ o e=>old b o e)) (loop _ rfl))
theorem DG {elt target iter:cI} {ifs:List cI} {scope:kO} {NN:List Str} {pos pos' spos:Pos} {wi:TI} {g:TG} {tc:TT} {te:TE} {i:Nat} {x:Str} (own:List Str) (ok:hW X scope NN) (hc:X.calm=true) (hN:X.N.Nodup) (hx0:X.N[i]?=some x) (hx:Loc X.env.scope x) (hi:PI X target iter wi)
  (hg:∀ fp s₂ H₂ C,PG (cxC X scope (own++NN) fp s₂ H₂ C) target g) (ht:∀ fp s₂ H₂ C,PTs (cxC X scope (own++NN) fp s₂ H₂ C) ifs tc) (he:∀ fp s₂ H₂ C,PEC (cxC X scope (own++NN) fp s₂ H₂ C) elt te)
  (hs:∀ x,gG iter X.env x=pure x:=by intro _; rfl) (hf:X.fn x=true\/X.env.scope.names.lookup x=some .local:=by first | exact .inl rfl | exact .inr rfl | assumption)
  (hsw:mI (.ListComp elt [⟨target,iter,ifs,0⟩] scope pos) (some (.Name x pos')) spos.line X.env=pure true:=by rfl):PSC X (.Assign [.Name x pos'] (.ListComp elt [⟨target,iter,ifs,0⟩] scope pos) spos) (Bk (pZ own.length wi g tc te) (uG i)):=by
 intro pins s σ H D I h;rw [EF _ _ _ _ hsw];refine cM (bU (dZ ?_));show wpC _ X.A (do let _ <- nI (.ListComp elt [⟨target,iter,ifs,0⟩] scope pos) scope X.env _ (Jg []) false (dE iter X.env) (some (pF (.Name x pos') X.env))) _ _ s;refine dZ (o5 (BR (use:=some (pF (.Name x pos') X.env)) (Qv:=fun _ s'=>SP X pins D .next s') own ok hc hi hg ht he hs I h fun s4 C DD H' m hn J n1 n2 n3 n4 n5 q=>?_) (fun _ s' hq=>toC (av (toC (av hq)))) fun _ _ e=>e);show aY _ X.A (pF (.Name x pos') X.env (.ref DD)) _ _ s4;refine vP (sW J hN hx0 hx (show RelV (.ref DD) (.ref DD) from rfl) (fun s' J' z=>?_) hf);obtain ⟨a,sb,ha⟩:=z;have na:C≠a:=by
  rcases ha with ha | ha
  ·rw [ha];exact n2
  ·exact (n4 x a ha).symm
 refine ⟨m,hn.at' fun o e=>sb.extBut C o na e,fun h' sb2=>⟨_,H',J'.turned (t':=s'.toks) (it:=C) (fun b o hb e=>sb2.extBut b o hb e) n1 n2 (.inr n3) n4 n5,q⟩⟩
end
section
variable {prog:aQ} {w:bT} {A:bQ} {E:ag->ah->Prop} {s:ah}
theorem BS (ys:Array ag) {j:Nat} (n:Nat) (l:j < ys.size):(ys.toList.drop j).take (n + 1)=ys[j] :: (ys.toList.drop (j + 1)).take n:=by
 rw [xV (by simpa using l),mY];simp
theorem vh {u l:ak} {ys:Array ag} (nu:l≠u):∀ (n j:Nat) (s:ah) (R:List ag->ah->Prop),s.heap.IsListIter u l j->s.heap.IsList l ys->j + n<=ys.size ->
  (∀ g:cP,g.IsListIter u l (j + n)->nC u s.heap g->R ((ys.toList.drop j).take n) {s with heap:=g})->aY (aM prog w) A (draw (.ref u) n) R E s
 | 0,j,s,R,hu,_,_,kR=>av (by simpa using kR s.heap hu (Heap.SameBut.refl ..))
 | n + 1,j,s,R,hu,hy,hb,kR=>by
  have lj:j < ys.size:=by omega
  refine ae (m:=Ct (.ref u)) (Cu hu hy (x:=ys[j]) (by simp [lj]) fun g1 u1 s1=>ae (bH (vh nu n (j + 1) _ _ u1 (hy.extBut s1.extBut nu) (by omega) fun g2 u2 s2=>av ?_)));have z:=kR g2 (by rw [<- fY,Nat.add_right_comm]; exact u2) (s1.trans s2);rw [BS ys n lj] at z;exact z
theorem xW {l:ak} {ys:Array ag} {R:List ag->ah->Prop} (hd:A.handled=none) (hy:s.heap.IsList l ys)
  (kR:∀ g,Heap.ExtBut s.heap.objs.size s.heap g->R ys.toList {s with heap:=g}):aY (aM prog w) A (unpackItems (.ref l) ys.size none) R E s:=by
 have ne:l≠s.heap.objs.size:=by
  obtain ⟨o,e,_⟩:=hy;exact bz (ba e)
 unfold unpackItems notIterableAtAll;refine ae (ae (rW hy.typeIs slot_list_iter.lookup (av ?_)));simp only [j0,if_false];refine ae (bH (vQ hy (ae (bH (vh ne ys.size 0 _ _ ⟨_,bV _ rfl,rfl,rfl⟩ (hy.push _) (by omega) fun g1 u1 s1=>?_)))));rw [GC,c7 (by simp),if_neg (by simp)];refine ae (bH (ED hd u1 ((hy.push _).extBut s1.extBut ne) (by simp) fun g2 e2=>?_));simp only [Option.isSome_none,j0,if_false];exact av (kR g2 fun b o nb e=>e2 b o nb (s1.extBut b o nb (aD _ e)))
end
section
variable {X:Cx} {pos:Pos}
def gLst (K:ai) (n:Nat) (t:TGs):TG:=fun v σ H Q=>∃ a xs,v=.ref a/\SqL K H a xs/\xs.length=n/\t xs σ H Q
theorem DJ {es:List cI} {k:Nat} {t:TGs} {n:Nat} (hc:X.calm=true) (h:PGs X es t) (hn:(kG es X.env).length=n:=by rfl) (hf:(kG es X.env).findIdx? (·.1)=none:=by rfl):PG X (.Tuple es k pos) (gLst X.K n t):=by
 intro pins s σ H v u Q I r ⟨a,xs,ea,hq,hl,hw⟩;subst ea
 cases r;obtain ⟨its,rv,hp,_⟩:=I.list hq;rw [assign_Tuple];refine ae (bU ?_);unfold unpack;rw [show (kG es X.env).length=its.toArray.size by simp [hn,<- hl,rv.length],hf];refine ae (bH (xW (I.ok.hd hc) hp.isList fun g ex=>?_));exact h pins _ σ H xs _ Q (I.kept (t':=s.toks) fun b o e=>ex b o (bz (ba e)) e) (by simpa using rv) hw
end
section
variable {X:Cx} {a b e c:cI} {es:List cI} {ta tb te:TE} {t:TA} {pos:Pos}
theorem GG {M:mB} {A:bQ} {E:ag->ah->Prop} {s:ah} {Q:ag->ah->Prop} {vs:List ag} {m:Sem ag} (h:aY M A m Q E s):aY M A (Jc vs m) Q E s:=fun Γ p i=>by
 rw [Sem.wp_operate];exact h Γ p i
theorem FK {op:Ca} {r:R2} (ho:OpR X (dA op) r) (ha:PEC X a ta) (hb:PE X b tb) (hm:nF op b=false):PEC X (.Compare a [op] [b] pos) (tOp r ta tb):=by
 intro pins s σ H Q I h;rw [eval_Compare1,markedBehindIn_of_false hm];refine dZ (lS (ha pins s σ H _ I h) fun v s1 ⟨x,H1,I1,r1,q1⟩=>?_);refine cM (bH (thn (hb pins s1 σ H1 _ I1 q1) fun u s2 ⟨y,H2,I2,r2,q2⟩=>?_));exact cM (bU (toC (GG (ho pins s2 σ H2 x y v u Q I2 r1 r2 q2))))
theorem DK {op:zF} {r:R2} (ho:OpR X (jG op) r) (ha:PE X a ta) (hb:PEC X b tb):PEC X (.BinOp a op b pos) (tOp r ta tb):=by
 intro pins s σ H Q I h;rw [eval_BinOp];refine cM (thn (ha pins s σ H _ I h) fun v s1 ⟨x,H1,I1,r1,q1⟩=>?_);refine dZ (o6 (lS (hb pins s1 σ H1 _ I1 q1) fun u s2 ⟨y,H2,I2,r2,q2⟩=>?_));exact cM (bU (toC (GG (ho pins s2 σ H2 x y v u Q I2 r1 r2 q2))))
theorem BU {tA:TT} (hc:PT X c tA) (ha:PEC X a ta) (hb:PEC X b tb):PEC X (.IfExp c a b pos) (tIf tA ta tb):=by
 intro pins s σ H Q I h;rw [arm_eval_IfExp];refine cM (thn (hc pins s σ H _ I h) fun d s1 ⟨H1,I1,q1⟩=>?_)
 cases d with
 | true=>exact ha pins s1 σ H1 Q I1 q1
 | false=>exact hb pins s1 σ H1 Q I1 q1
theorem DU {T:String} {name:Str} {id:String} {o:cI} {to:TE} {r:V->List V->Hp->VK->Prop} {apos cpos:Pos} (pa:zV T) (slot:Slot T name id) (hty:CQ (.builtin id)=pure (.type "method_descriptor")) (hm:MtR X id r) (ho:PE X o to) (ha:PAC X (e :: es) t)
  (hbase:iF o name X.env (dE o X.env)=dE o X.env:=by rfl)
  (hfew:((eR cpos (bB (e :: es) X.env)).all (fun x=>!x.1) && (pI cpos (jH [] X.env)).all (fun x=>x.1.isSome)
   && decide ((e :: es).length + ([]:List oW).length + (if ([]:List oW).isEmpty then 0 else 1) < 30))=true:=by rfl)
  (hline:(apos.endLine == cpos.line)=true:=by rfl) (hs:bB (e :: es) X.env=(false,dE e X.env) :: bB es X.env:=by rfl) (hplain:(eR cpos (bB es X.env)).any (·.1)=false:=by rfl) :
  PEC X (.Call (.Attribute o name apos) (e :: es) [] cpos) (tBM X.K T r to t):=by
 intro pins s σ H Q I h;rw [arm_eval_Call,hbase];refine cM (thn (ho pins s σ H _ I h) fun v s1 ⟨x,H1,I1,r1,ty,q1⟩=>?_);obtain ⟨h1,h2⟩:=zU I1 r1 ty;have hform:methodCallForm ((e :: es).length + ([]:List oW).length) (eR cpos (bB (e :: es) X.env)) (pI cpos (jH [] X.env))=true:=hfew;have hpos:methodCallPos true o X.env apos cpos=pure cpos:=by
  unfold methodCallPos;simp [hline]
 refine cM (bU ?_);unfold methodCall;rw [hform];refine cM (bH (getMethod_builtin h1 pa slot hty h2 (cM (eO hpos ?_))));have hA:=ha cpos pins s1 σ H1 _ I1 q1;rw [hs] at hA |-;show wpC _ _ (ky cpos (.builtin id) [v] _ []) _ _ _;unfold ky;refine dZ (o6 ?_);unfold evalArgs;show wpC _ _ (zq (eR cpos ((false,dE e X.env) :: bB es X.env)) >>= _) _ _ _;refine dZ (lS hA fun us s2 ⟨vs,H2,I2,r2,q2⟩=>toC ?_);refine bH (ae (av (ae (av (av (cM (bU ?_)))))));have hp2:(eR cpos ((false,dE e X.env) :: bB es X.env)).any (fun x=>x.1)=false:=by
  show (false || (eR cpos (bB es X.env)).any (·.1))=false;rw [hplain];rfl
 simp only [hp2,List.any_nil,Ic];refine cM (av ?_);exact toC (ae (thn (hm pins s2 σ H2 x vs v us Q I2 r1 r2 q2) fun r s3 hr=>ae (bH (qk (av hr)))))
theorem yW (he:PEC X e te) (hs:mI e none pos.line X.env=pure false:=by rfl):PSC X (.Expr e pos) (Gh te):=by
 intro pins s σ H D I h;rw [exec_Expr X.env e pos I.quiet hs];exact cM (bU (dZ (lS (he pins s σ H _ I h) fun v s1 ⟨x,H1,I1,r1,q1⟩=>toC (wpAny_dropValue ⟨σ,H1,I1,q1⟩))))
theorem vi (a:Array Nat):∀ (n:Nat) (acc:Array Nat),((aJ n a).foldl (·++·) acc).size=acc.size + n * a.size
 | 0,acc=>by simp
 | n + 1,acc=>by
  rw [da,iZ,vi a n,kz,kL];omega
def rRepS:R2:=fun x y H Q=>∃ (z:Str) (n:Nat),x=.str z/\y=.int n/\z.length<=100/\n<=100/\Q (.str ⟨(aJ n z.cps).foldl (·++·) #[]⟩) H
theorem xX:OpR X (jG .Mult) rRepS:=by
 intro pins s σ H x y v u Q I rx ry h;obtain ⟨z,n,rfl,rfl,lz,ln,q⟩:=h;obtain ⟨t,rfl⟩:=rx;obtain ⟨t',rfl⟩:=ry;have big:100000 < aw:=by decide
 have mul:z.length * n<=10000:=Nat.mul_le_mul lz ln;refine P.mul_str (by simp; omega) (fun h1 _=>?_) (fun _ _=>?_) ?_
 ·have:((2 ^ 63 - 1:Int) / (n:Int)) ≥ 100:=by
   refine Int.le_ediv_of_mul_le (by omega) ?_;omega
  omega
 ·rw [eH];unfold Builtin.Str.tooLong;exact decide_eq_false (by omega)
 ·by_cases c1:((n:Int) < 1)
  ·rw [if_pos c1];have:n=0:=by omega
   subst this;exact ⟨aU _,.str zu,H,I.tok _,⟨_,rfl⟩,q⟩
  ·rw [if_neg c1]
   by_cases c2:(((n:Int) == 1) || z.length == 0)=true
   ·rw [if_pos c2];have ez:(⟨(aJ n z.cps).foldl (·++·) #[]⟩:Str)=z:=by
     rcases Bool.or_eq_true_iff.mp c2 with h | h
     ·have h':(n:Int)=1:=by simpa using h
      have:n=1:=by omega
      subst this;refine iI ?_;show #[]++z.cps=z.cps;simp
     ·have z0:z.cps=#[]:=k8 (show z.length=0 by simpa using h);refine iI ?_;show (aJ n z.cps).foldl (·++·) #[]=z.cps;rw [z0];clear q c1 c2 h mul ln
      induction n with
      | zero=>rfl
      | succ n ih=>rw [da,iZ]; exact ih
    rw [ez] at q;exact ⟨.str z,H,I,⟨_,rfl⟩,q⟩
   ·rw [if_neg c2];rw [eH];refine ⟨?_,.str _,H,I.tok _,⟨_,rfl⟩,q⟩;show ((aJ n z.cps).foldl (·++·) #[]).size<=aw;rw [vi];have e1:n * z.cps.size=z.length * n:=Nat.mul_comm _ _;rw [e1];show 0 + _<=_;omega
theorem IK {prog:aQ} {w:bT} {A:bQ} {R:mO->ah->Prop} {s:ah} {test:cI} {body:List di} {env:Env} (I:Nat->ah->Prop)
  (turn:∀ n z,I n z->aY (aM prog w) A (oE test env (dE test env)) (fun d z2 =>
    if d then wpC (aM prog w) A (vL body env) (fun f y=>match f with
      | .next | .cont=>∃ m,m < n/\I m y
      | .brk=>R (.ok .next) y
      | .ret v=>R (.ok (.ret v)) y) (qj (aM prog w) A env fun e y=>R (.error e) y) z2
    else R (.ok .next) z2)
    (qj (aM prog w) A env fun e y=>R (.error e) y) z)
  (n:Nat) (h:I n s):gc (aM prog w) A (.whileLoop test body [] env) R s:=by
 refine Dd rfl I (fun n z hI=>?_) n h;show wpC _ A ((whileTurn test body [] env).onRaise (fun x=>do jw x env; oK x)) _ _ z;refine z9 ?_;simp only [whileTurn];refine cM (cE (turn n z hI) (fun d z2 h2=>?_) fun _ _ y=>y)
 cases d with
 | false =>
  rw [if_neg (by decide)] at h2 |-;exact toC (ae (fG (av h2)))
 | true =>
  rw [if_pos rfl] at h2 |-;refine dZ (lS h2 fun f y h3=>?_)
  cases f with
  | next=>exact toC (av (.inl ⟨rfl,h3⟩))
  | cont=>exact toC (av (.inl ⟨rfl,h3⟩))
  | brk=>exact toC (av h3)
  | ret v=>exact toC (av h3)
theorem qS {body:List di} {tc:TT} {tb:TS} (hp:xk (aM X.prog X.w) X.A X.env X.xe) (hc:PT X c tc) (hb:PSsC X body tb):PSC X (.While c body [] pos) (Cq tc tb):=by
 intro pins s σ H D I h;obtain ⟨W,⟨m0,w0⟩,turn⟩:=h;rw [exec_While];refine cM (bU (AR ?_));refine IK (fun n s'=>∃ σ' H',Inv X pins σ' H' s'/\W n σ' H') ?_ m0 ⟨σ,H,I,w0⟩;rintro n s1 ⟨σ1,H1,I1,w1⟩;refine eA hp (thn (hc pins s1 σ1 H1 _ I1 (turn n σ1 H1 w1)) fun d s2 ⟨H2,I2,q2⟩=>?_)
 cases d with
 | true =>
  obtain ⟨N,hN,q2⟩:=q2;rw [if_pos rfl];refine o5 (hb pins s2 σ1 H2 _ I2 q2) (fun f s3 q3=>?_) (fun e z y=>hp e z y)
  cases f with
  | next =>
   obtain ⟨σ3,H3,I3,n3⟩:=q3;obtain ⟨m',hm,w3⟩:=hN σ3 H3 n3;exact ⟨m',hm,σ3,H3,I3,w3⟩
  | cont =>
   obtain ⟨σ3,H3,I3,n3⟩:=q3;obtain ⟨m',hm,w3⟩:=hN σ3 H3 n3;exact ⟨m',hm,σ3,H3,I3,w3⟩
  | brk=>exact q3
  | ret v=>exact q3
 | false=>exact ⟨σ1,H2,I2,q2⟩
end
end L2
namespace My
open PySem L2
def top (i:Nat):di:=PySem.Challenge.pw_momentloom_k75_lines_of_no_model.main.body.getD i (.Pass ⟨0,0,0,0⟩)
abbrev oP:di:=qO (top 5) 0
abbrev iQ:di:=top 11
abbrev qT:di:=top 12
abbrev mZ:di:=top 13
abbrev pR:di:=top 14
abbrev jM:di:=top 15
abbrev ng:di:=top 16
abbrev jf:di:=top 17
abbrev lU:di:=qO (top 19) 0
abbrev gd:di:=qO (top 19) 1
abbrev gC:di:=qO (top 19) 2
abbrev gD:di:=qO (top 19) 3
abbrev dQ:di:=qO (top 19) 4
abbrev ka:di:=top 20
abbrev jg:di:=top 21
abbrev kb:di:=top 22
abbrev kQ:di:=top 23
abbrev kd:di:=top 24
abbrev kf:di:=top 25
abbrev ju:di:=top 26
abbrev la:di:=top 27
abbrev o7:di:=top 28
abbrev qU:di:=top 29
abbrev oA:di:=top 31
abbrev fc:di:=top 32
abbrev jN:di:=top 33
abbrev iB:di:=top 34
abbrev iR:di:=top 35
abbrev nj:di:=top 36
abbrev jO:di:=top 37
abbrev iS:di:=top 38
abbrev jh:di:=top 39
abbrev jP:di:=top 40
abbrev ip:di:=top 41
abbrev gf:di:=top 42
abbrev jQ:di:=top 43
abbrev qV:di:=top 44
abbrev oB:di:=top 45
abbrev o8:di:=top 46
abbrev kM:di:=top 47
abbrev lp:di:=top 48
abbrev kS:di:=top 49
abbrev kT:di:=top 50
abbrev jR:di:=top 51
abbrev lr:di:=top 52
abbrev DV:di:=top 53
structure Df (K:ai) (mg:Str->Option ag) (x:Str) (st:di) (ps:List Str) (f:ak) (fd:cF):Prop where
 F:Fun K x x st f fd
 b:Binds K fd ps []
 m:mg x=some (.ref f)
structure Bl (mg:Str->Option ag):Prop where
 len:mg "len"=none
 abs:mg "abs"=none
 isi:mg "isinstance"=none
 list:mg "list"=none
 tuple:mg "tuple"=none
 str:mg "str"=none
 int:mg "int"=none
 bool:mg "bool"=none
 range:mg "range"=none
 max:mg "max"=none
 dict:mg "dict"=none
theorem boot_abs:eC "abs"=some (.builtin "abs"):=by decide +kernel
theorem vj:eC "isinstance"=some (.builtin "isinstance"):=by decide +kernel
theorem boot_tuple:eC "tuple"=some (.type "tuple"):=by decide +kernel
theorem boot_str:eC "str"=some (.type "str"):=by decide +kernel
theorem boot_int:eC "int"=some (.type "int"):=by decide +kernel
theorem boot_max:eC "max"=some (.builtin "max"):=by decide +kernel
def But (p:ak) (H H':Hp):Prop:=∀ b o,H b=some o->b≠p->H' b=some o
theorem But.refl (p:ak) (H:Hp):But p H H:=fun _ _ e _=>e
theorem But.trans {p:ak} {H H1 H2:Hp} (a:But p H H1) (b:But p H1 H2):But p H H2:=fun c o e n=>b c o (a c o e n) n
theorem But.upd (p:ak) (H:Hp) (o:HO):But p H (upd H p o):=fun b u e n=>by rw [aT n]; exact e
theorem But.same {p:ak} {H H1 H2:Hp} (a:But p H H1) (b:cO H1 H2):But p H H2:=fun c o e n=>b c o (a c o e n)
theorem ax {H:Hp} {p:ak} (h:H p=none) (o:HO):cO H (upd H p o):=fun b u q=>by rw [aT (bF q h)]; exact q
theorem GJ {c:Prop} [Decidable c] (h:decide c=true):c:=of_decide_eq_true h
theorem lt2:2<=aw:=by decide
def GK (K:ai):List V->Hp->VK->Prop:=fun xs H Q=>∃ p ys,xs=[.ref p]/\(SqL K H p ys\/SqT K H p ys)/\Q (.int ys.length) H
theorem dz {X:Cx} (K:ai) (hK:X.K=K):oj X (.builtin "len") (GK K):=by
 rw [<- hK];exact xD
theorem qE {X:Cx} (K:ai) (hK:X.K=K):IxR X (EZ K):=by
 rw [<- hK];exact cw
theorem uz {X:Cx} (K:ai) (hK:X.K=K):IxR X (rIxT K):=by
 rw [<- hK];exact d6
theorem dR {te:TE} {D:Ends} {σ:St} {H:Hp} (h:te σ H D.rt):vN te D σ H:=h
section
variable {X:Cx} {es:List cI} {te:TE} {t:TA}
theorem vk {es':List cI} {k:Nat} {p:Pos} {env:Env}:bB (.Tuple es' k p :: es) env=(false,dE (.Tuple es' k p) env) :: bB es env:=by rfl
theorem vn {es':List cI} {k:Nat} {p:Pos} (ha:PE X (.Tuple es' k p) te) (hr:PA X es t):PA X (.Tuple es' k p :: es) (gS te t):=ft ha hr (by rfl)
theorem rO {es':List cI} {p:Pos} (ha:PE X (.List es' p) te) (hr:PA X es t):PA X (.List es' p :: es) (gS te t):=ft ha hr (by rfl)
theorem bo {c:Const} {k:Nat} {p:Pos} (ha:PE X (.Constant c k p) te) (hr:PA X es t):PA X (.Constant c k p :: es) (gS te t):=ft ha hr (by rfl)
theorem bD {x:Str} {p:Pos} (ha:PE X (.Name x p) te) (hr:PA X es t):PA X (.Name x p :: es) (gS te t):=ft ha hr (by rfl)
theorem iM {g:cI} {as:List cI} {ks:List oW} {p:Pos} (ha:PE X (.Call g as ks p) te) (hr:PA X es t):PA X (.Call g as ks p :: es) (gS te t):=ft ha hr (by rfl)
theorem gF {a b:cI} {p:Pos} (ha:PE X (.Subscript a b p) te) (hr:PA X es t):PA X (.Subscript a b p :: es) (gS te t):=ft ha hr (by rfl)
theorem hU {a b:cI} {o:zF} {p:Pos} (ha:PE X (.BinOp a o b p) te) (hr:PA X es t):PA X (.BinOp a o b p :: es) (gS te t):=ft ha hr (by rfl)
end
theorem fj {D:Ends} {σ:St} {H:Hp} (h:D.nx σ H):dX D σ H:=h
def Det (t:L2.TT) (σ:St) (H:Hp) (b:Bool):Prop:=∀ Q:Bool->Hp->Prop,Q b H->t σ H Q
theorem Det.and {tA tB:L2.TT} {σ:St} {H:Hp} {x y:Bool} (a:Det tA σ H x) (b:x=true->Det tB σ H y):Det (HN tA tB) σ H (x && y):=fun Q q=>a _ (by
 cases x with
 | true=>exact cT (b rfl Q q)
 | false=>exact c9 q)
theorem Det.or {tA tB:L2.TT} {σ:St} {H:Hp} {x y:Bool} (a:Det tA σ H x) (b:x=false->Det tB σ H y):Det (tOr tA tB) σ H (x || y):=fun Q q=>a _ (by
 cases x with
 | true=>exact cT q
 | false=>exact c9 (b rfl Q q))
theorem pU {t:L2.TT} {a b:TS} {D:Ends} {σ:St} {H:Hp} {c:Bool} (h:Det t σ H c) (k1:c=true->a D σ H) (k2:c=false->b D σ H):vO t a b D σ H:=h _ (by
 cases c with
 | true=>exact cT (k1 rfl)
 | false=>exact c9 (k2 rfl))
theorem vo {i:Nat} {w k:Int} {σ:St} {H:Hp} (hv:σ[i]?=some (some (.int w))):Det (sf (tOp rEq (kF i) (tC (.int k)))) σ H (decide (w=k)):=fun Q q=>⟨_,hv,rfl,_,rfl,by
 rw [show decide (V.int w=V.int k)=decide (w=k) from by
  by_cases c:w=k
  ·subst c;rw [decide_eq_true rfl,decide_eq_true rfl]
  ·rw [decide_eq_false c,decide_eq_false (fun z=>c (by cases z; rfl))]]
 exact q⟩
theorem xY {i:Nat} {w k:Int} {σ:St} {H:Hp} (hv:σ[i]?=some (some (.int w))):Det (sf (tOp (rI0 fun i j=>.bl (decide (i < j))) (kF i) (tC (.int k)))) σ H (decide (w < k)):=fun Q q=>⟨_,hv,_,_,rfl,rfl,_,rfl,q⟩
theorem IL {i:Nat} {w k:Int} {σ:St} {H:Hp} (hv:σ[i]?=some (some (.int w))):Det (sf (tOp (rI0 fun i j=>.bl (decide (j < i))) (kF i) (tC (.int k)))) σ H (decide (k < w)):=fun Q q=>⟨_,hv,_,_,rfl,rfl,_,rfl,q⟩
section
variable {X:Cx} {e:cI} {ta:TE} {f:Str} {pos:Pos}
theorem lV (K:ai) (hK:X.K=K) (he:PE X e ta) (hb:iF e f X.env (dE e X.env)=dE e X.env):PE X (.Attribute e f pos) (EU K ta f):=by
 rw [<- hK];exact HZ he hb
end
theorem aH {t u:TS} {D:Ends} {σ:St} {H:Hp} (h:t {D with nx:=u D} σ H):EM t u D σ H:=h
theorem bW {te:TE} {g:TG} {D:Ends} {σ:St} {H:Hp} (h:te σ H fun x H1=>g x σ H1 D.nx):Bk te g D σ H:=h
theorem aF {i:Nat} {v:V} {σ:St} {H:Hp} {Q:St->Hp->Prop} (h:Q (σ.set i (some v)) H):uG i v σ H Q:=h
theorem dC:1000 < aw:=by decide
def abc:Str:="abcdefghijklmnopqrstuvwxyz"
theorem FL:abc.cps.toList.length=26:=by decide +kernel
theorem wR:abc.length<=aw:=by decide +kernel
theorem DX {z:Int} (h0:0<=z) (h1:z < 26):∃ c,atI abc.cps.toList z=some c:=by
 obtain ⟨j,rfl⟩:∃ j:Nat,z=(j:Int):=⟨z.toNat,by omega⟩;have l:j < abc.cps.toList.length:=by rw [FL]; omega
 exact ⟨abc.cps.toList[j],dg (aL l)⟩
theorem bf (x y:Str):(x++y).length=x.length + y.length:=by
 show (x++y).cps.size=x.cps.size + y.cps.size;show (x.cps++y.cps).size=_;rw [kz]
section
variable {P:aQ} {w:bT} {K:ai} {mg:Str->Option ag} {base:cP} {f fT fW:ak} {fd fdT fdW:cF}
seal PS PSs PE PA PT PW PI PG PGs PC
def eU (H:Hp) (p:ak):Prop:=∃ x y:Int,H p=some (.lst [.int x,.int y])
theorem eU.same {H H':Hp} {p:ak} (a:eU H p) (b:cO H H'):eU H' p:=by
 obtain ⟨x,y,e⟩:=a;exact ⟨x,y,b _ _ e⟩
theorem tG (x:Int):-(2 ^ 64) < x % 2147483629/\x % 2147483629 < 2 ^ 64:=by
 have h1:=gz x (show (2147483629:Int)≠0 by decide);have h2:=eS x (show (0:Int) < 2147483629 by decide);omega
theorem wU {n:Nat} {ti:TE} {g:TG} {tc:L2.TT} {te:TE} {σ:St} {H:Hp} {Q:VK} (P:Nat->Hp->Prop) (hi:∀ R:VK,(∀ (m:Nat) (H1:Hp),P m H1->R (.int m) H1)->ti σ H R) (hb:∀ m H1,P m H1->m < 1000) (Pv:Nat->Hp->Nat->List V->Hp->Prop) (h0:∀ m H1,P m H1->Pv m H1 0 [] H1) (hl:∀ m H1,P m H1->∀ i ys H,i<=m->Pv m H1 i ys H->ys.length < aw)
  (hs:∀ m H1,P m H1->∀ i ys H,i < m->Pv m H1 i ys H->g (.int (0 + i)) (aJ n none++σ) H fun σ2 H2=>σ2.drop n=σ/\tc σ2 H2 fun b H3=>if b=true then te σ2 H3 fun y H4=>Pv m H1 (i + 1) (ys++[y]) H4 else Pv m H1 (i + 1) ys H3)
  (hd:∀ m H1,P m H1->∀ ys H,Pv m H1 m ys H->∀ p,H p=none->Q (.ref p) (upd H p (.lst ys))):pZ n (Gj (gS ti q9)) g tc te σ H Q:=
 hi _ fun m H1 p=>⟨(m:Int),rfl,by have:=hb m H1 p; omega,by have:=hb m H1 p; omega,by
  rw [eH];exact C9 (Pv m H1) (h0 m H1 p) (hl m H1 p) (hs m H1 p) (hd m H1 p)⟩
theorem nY {p:ak} {G:Hp} {a:ak} (h:eU G p) (n:G a=none):a≠p:=by
 obtain ⟨x,y,e⟩:=h;exact (bF e n).symm
theorem tH {p:ak} {G:Hp} (h:eU G p) {a:ak} {o:HO} (n:a≠p):eU (upd G a o) p:=by
 obtain ⟨x,y,e⟩:=h;exact ⟨x,y,by rw [aT n.symm]; exact e⟩
theorem vp {K:ai} {n:Nat} {ti:TE} {g:TG} {tc:L2.TT} {te:TE} {σ:St} {H:Hp} {Q:VK} {a:ak} {xs:List V} (hi:∀ R:VK,R (.ref a) H->ti σ H R) (hx:SqL K H a xs) (Pv:Nat->List V->Hp->Prop) (h0:Pv 0 [] H) (hl:∀ i ys H,i<=xs.length->Pv i ys H->SqL K H a xs/\ys.length < aw)
  (hs:∀ i x ys H,xs[i]?=some x->Pv i ys H->g x (aJ n none++σ) H fun σ2 H2=>σ2.drop n=σ/\tc σ2 H2 fun b H3=>if b=true then te σ2 H3 fun y H4=>Pv (i + 1) (ys++[y]) H4 else Pv (i + 1) ys H3)
  (hd:∀ ys H,Pv xs.length ys H->∀ p,H p=none->Q (.ref p) (upd H p (.lst ys))):pZ n (wm K ti) g tc te σ H Q:=
 hi _ ⟨a,rfl,⟨xs,hx⟩,qQ Pv h0 hl hs hd⟩
theorem FM {xs:List V} {lo hi:Option Int} {v:V} (h:v∈gU xs lo hi):v∈xs:=by
 unfold gU at h;exact ia (dN h)
theorem DY {xs:List V} (h:xs≠[]) (z:Int):∃ v,atI xs (z % (xs.length:Int))=some v/\v∈xs:=by
 have hl:0 < xs.length:=dH.mpr h;have h0:=gz z (show (xs.length:Int)≠0 by omega);have h1:=eS z (show (0:Int) < (xs.length:Int) by omega);obtain ⟨j,hj⟩:∃ j:Nat,z % (xs.length:Int)=(j:Int):=⟨(z % (xs.length:Int)).toNat,by omega⟩;rw [hj] at h1 |-;have hj2:j < xs.length:=by omega
 exact ⟨xs[j],dg (aL hj2),ei hj2⟩
abbrev nT:List Str:=["_law_purse_here","_law_many","_law_at","_law_found"]
abbrev pT:List Str:=["_law_purse_here","_law_many"]
theorem scT:cK nT pT (aZ fc):={}
inductive AX (vs:List V) (H:Hp) (Q:VK) (_e:XK):Prop where
 | mk (p:ak) (n:Int) (_:vs=[.ref p,.int n]) (_:eU H p) (_:0 < n) (_:n < 2 ^ 64) (_:∀ (r:Int) (H':Hp),0<=r->r < n->eU H' p->But p H H'->Q (.int r) H'):AX vs H Q _e
def lK:Sp:=fun vs H Q _e=>AX vs H Q _e
theorem lW (D:Df K mg "_law_take" fc pT f fd) (B:Bl mg):cW P w K mg base CX0 1 f fd pT lK:=by
 refine D.F.ok scT (fun vs H Q E h=>?_) (fun cdv A outer s H vs Q E hr h=>?_)
 ·obtain ⟨p,n,rfl,_⟩:=h;rfl
 obtain ⟨p,n,rfl,⟨x,y,hp⟩,hn,hn2,q⟩:=h;refine ⟨_,aE (bJ (i:=2) scT.nd rfl (Or.inl rfl) (iO wq (by rfl) B.int boot_int (ft (qM eD (cg cw (pv 0) aq (fun _ _=>rfl)) aq (bR _)) aj)))
  (aE (bJ (i:=3) scT.nd rfl (Or.inl rfl) (bI mL (cg cw (pv 0) (pv 2) (fun _ _=>rfl)) (pv 1)))
  (aE (zD (bI yJ (cg cw (pv 0) (pv 2) (fun _ _=>rfl)) (pv 1)) (Cp (pv 0) (pv 2) yA))
  (aO (bO (pv 3))))),?_⟩
 refine aH (bW ?_);refine ⟨_,rfl,p,_,_,_,rfl,rfl,SqL.of hp,rfl,rfl,.inr ⟨_,rfl,?_⟩⟩;refine aF ?_;dsimp only;generalize hb:decide (V.int x=V.int 0)=b;refine aH (bW ?_)
 cases b with
 | true =>
  refine ⟨_,rfl,_,rfl,p,_,_,_,rfl,rfl,SqL.of hp,rfl,_,rfl,_,_,rfl,rfl,hn,?_⟩;refine aF ?_;dsimp only;refine ⟨_,rfl,_,rfl,p,_,_,_,rfl,rfl,SqL.of hp,rfl,_,rfl,_,_,rfl,rfl,⟨hn,hn2⟩,_,rfl,_,rfl,p,_,_,_,rfl,rfl,hp,rfl,?_⟩;refine ⟨_,rfl,?_⟩;exact q _ _ (gz _ (by omega)) (eS _ hn) ⟨_,_,ao⟩ (But.upd p H _)
 | false =>
  refine ⟨_,rfl,_,rfl,p,_,_,_,rfl,rfl,SqL.of hp,rfl,_,rfl,_,_,rfl,rfl,hn,?_⟩;refine aF ?_;dsimp only;refine ⟨_,rfl,_,rfl,p,_,_,_,rfl,rfl,SqL.of hp,rfl,_,rfl,_,_,rfl,rfl,⟨hn,hn2⟩,_,rfl,_,rfl,p,_,_,_,rfl,rfl,hp,rfl,?_⟩;refine ⟨_,rfl,?_⟩;exact q _ _ (gz _ (by omega)) (eS _ hn) ⟨_,_,ao⟩ (But.upd p H _)
abbrev nW:List Str:=["_law_purse_here","_law_sort"]
abbrev pW:List Str:=["_law_purse_here"]
theorem scW:cK nW pW (aZ iB):={}
def xZ:Sp:=fun vs H Q _=>∃ p:ak,vs=[.ref p]/\eU H p/\∀ (r:Int) (H':Hp),-(10 ^ 15)<=r->r<=10 ^ 15->eU H' p->But p H H'->Q (.int r) H'
theorem yX (D:Df K mg "_law_worth" iB pW f fd) (DT:Df K mg "_law_take" fc pT fT fdT) (B:Bl mg):cW P w K mg base CX0 2 f fd pW xZ:=by
 have GT:cW P w K mg base CX0 1 fT fdT pT lK:=lW DT B;refine D.F.ok scW (fun vs H Q E h=>?_) (fun cdv A outer s H vs Q E r1 h=>?_)
 ·obtain ⟨p,rfl,_⟩:=h;rfl
 obtain ⟨p,rfl,hp,q⟩:=h;refine ⟨_,aE (bJ (i:=1) scW.nd rfl (Or.inl rfl) (br GT r1 (by rfl) DT.m DT.F.kp DT.b .nil bM (bD (pv 0) (bo aq aj))))
  (aE (du (bh eD (pv 1) aq (bR _)) (aO (bO (bI kI (br GT r1 (by rfl) DT.m DT.F.kp DT.b .nil bM (bD (pv 0) (hU (bI fJ (bI rE aq (bI qt aq aq)) aq) aj))) (bI qt aq aq)))) bX)
  (aE (du (bh eD (pv 1) aq (bR _)) (aO (bO (cg cw (cA (hU (bI qt aq aq) (ft (AA xo (bI qt aq aq)) (hU (bI kI (bI qt aq aq) aq) (bo aq aj))))) (br GT r1 (by rfl) DT.m DT.F.kp DT.b .nil bM (bD (pv 0) (bo aq aj))) (fun _ _=>rfl)))) bX)
  (aO (bO (bI kI (br GT r1 (by rfl) DT.m DT.F.kp DT.b .nil bM (bD (pv 0) (bo aq aj))) aq))))),?_⟩
 have big:=dC;have c15:EO 10 15:=⟨by decide,by decide,by decide⟩;have e15:(10:Int) ^ (15:Int).toNat=1000000000000000:=by decide
 have e15':(10:Int) ^ 15=1000000000000000:=by decide
 refine aH (bW ?_);refine ⟨_,rfl,p,8,rfl,hp,by decide,by decide,fun way H1 w0 w1 hp1 b1=>?_⟩;refine aF ?_;dsimp only;refine aH ?_;refine pU (vo rfl) (fun _=>?_) (fun _=>?_)
 ·refine ⟨_,rfl,_,_,rfl,rfl,c15,_,_,rfl,rfl,.inl ⟨by decide,by decide⟩,_,_,rfl,rfl,p,_,rfl,hp1,?_,?_,fun r1 H2 r10 r11 hp2 b2=>?_⟩
  ·rw [e15]; decide
  ·rw [e15]; decide
  ·refine ⟨_,_,rfl,rfl,c15,_,_,rfl,rfl,?_⟩;rw [e15] at r11 |-;exact q _ _ (by omega) (by omega) hp2 (b1.trans b2)
 refine aH ?_;refine pU (vo rfl) (fun _=>?_) (fun _=>?_)
 ·refine ⟨_,_,rfl,rfl,c15,_,_,rfl,rfl,c15,_,rfl,_,_,rfl,rfl,c15,_,_,rfl,rfl,?_⟩;rw [e15];refine ⟨by show 4<=aw; omega,fun l hl=>?_⟩;have sl:=ax hl (.lst [V.int 1000000000000000,V.int (-1000000000000000),V.int (1000000000000000 - 1),V.int 10]);refine ⟨_,rfl,p,4,rfl,hp1.same sl,by decide,by decide,fun r H2 r0 r1' hp2 b2=>?_⟩;obtain ⟨z,hz,z1,z2⟩:∃ z:Int,atI [V.int 1000000000000000,V.int (-1000000000000000),V.int (1000000000000000 - 1),V.int 10] r=some (.int z)/\-1000000000000000<=z/\z<=1000000000000000:=by
   have:r=0\/r=1\/r=2\/r=3:=by omega
   rcases this with rfl | rfl | rfl | rfl
   ·exact ⟨_,rfl,by decide,by decide⟩
   ·exact ⟨_,rfl,by decide,by decide⟩
   ·exact ⟨_,rfl,by decide,by decide⟩
   ·exact ⟨_,rfl,by decide,by decide⟩
  refine ⟨l,_,_,_,rfl,rfl,SqL.of (b2 _ _ ao (nY hp1 hl)),hz,?_⟩;exact q _ _ (by omega) (by omega) hp2 ((b1.same sl).trans b2)
 refine ⟨_,rfl,p,9,rfl,hp1,by decide,by decide,fun r1 H2 r10 r11 hp2 b2=>?_⟩;refine ⟨_,_,rfl,rfl,?_⟩;exact q _ _ (by omega) (by omega) hp2 (b1.trans b2)
abbrev nP:List Str:=["_law_script","_law_cells","_law_found","_law_number","_law_k","_law_cell"]
abbrev pP:List Str:=["_law_script"]
theorem scP:cK nP pP (aZ oA):={}
inductive yY (K:ai) (vs:List V) (H:Hp) (Q:VK) (_e:XK):Prop where
 | mk (a:ak) (ns:List Int) (_:vs=[.ref a]) (_:SqL K H a (ns.map V.int)) (_:ns.length<=63) (_:(∀ x∈ns,hV x<=1048576)) (_:∀ (p:ak) (H':Hp),H p=none->eU H' p->cO H H'->Q (.ref p) H'):yY K vs H Q _e
def AY (K:ai):Sp:=fun vs H Q _e=>yY K vs H Q _e
theorem DZ (D:Df K mg "_law_purse" oA pP f fd) (B:Bl mg):cW P w K mg base CX0 1 f fd pP (AY K):=by
 refine D.F.ok scP (fun vs H Q E h=>?_) (fun cdv A outer s H vs Q E hr h=>?_)
 ·obtain ⟨a,ns,rfl,_⟩:=h;rfl
 obtain ⟨a,ns,rfl,hS,hlen,hbits,q⟩:=h;refine ⟨_,aE (bJ (i:=1) scP.nd rfl (Or.inl rfl) (bI e9 (gu jq (pv 0) iY (gM aq)) (cA (bo aq aj))))
  (aE (bJ (i:=2) scP.nd rfl (Or.inl rfl) aq)
  (aE (bJ (i:=3) scP.nd rfl (Or.inl rfl) aq)
  (aE (mK c8 rfl (kH (by rfl) B.range (bo aq aj)) (df (i:=4) scP.nd rfl (Or.inl rfl)) (aE (bJ (i:=5) scP.nd rfl (Or.inl rfl) (cg cw (pv 1) (bI mL (pv 4) (cR (dz K (by rfl)) (by rfl) B.len bE (bD (pv 1) aj))) (fun _ _=>rfl)))
  (aE (bJ (i:=3) scP.nd rfl (Or.inl rfl) (bI mL (bI fJ (bI fJ (bI fJ (bI rE (pv 3) (pv 3)) (pv 5)) (bI rE aq (pv 4))) aq) aq))
  (aO (bJ (i:=2) scP.nd rfl (Or.inl rfl) (bI fJ (bI rE (pv 2) aq) (bI mL (bI rE (pv 3) (pv 3)) aq)))))))
  (aE (du (bh eD (bI mL (cg cw (pv 1) aq (fun _ _=>rfl)) aq) aq (bR _)) (aO (bO (cA (hU (bI yJ (cR yx (by rfl) B.abs boot_abs (gF (cg cw (pv 1) aq (fun _ _=>rfl)) aj)) aq) (bD (pv 2) aj))))) bX)
  (aO (bO (cA (bo aq (bD (pv 2) aj))))))))),?_⟩
 have big:=dC;refine aH (bW ?_);refine ⟨_,rfl,_,rfl,a,_,rfl,hS,fun l hl=>⟨(by show 1<=aw; decide),fun m hm=>?_⟩⟩;have hlm:l≠m:=bF (ao:upd H l (.lst (gU (ns.map V.int) none (some 63))) l=_) hm;have cl:(gU (ns.map V.int) none (some 63)).length<=63:=bN (qy _ _ _) (by rw [aa]; exact hlen);have l64:(gU (ns.map V.int) none (some 63)).length + [V.int 1].length<=aw:=by
  rw [kZ];omega
 refine ⟨l,m,_,_,rfl,rfl,(by rw [aT hlm]; exact ao),ao,l64,fun c hc=>?_⟩;generalize hcs:gU (ns.map V.int) none (some 63)++[V.int 1]=cs at hc |-;have sc:cO H (upd (upd (upd H l (.lst (gU (ns.map V.int) none (some 63)))) m (.lst [.int 1])) c (.lst cs)):=(ax hl _).trans ((ax hm _).trans (ax hc _));generalize hH:upd (upd (upd H l (.lst (gU (ns.map V.int) none (some 63)))) m (.lst [.int 1])) c (.lst cs)=H1 at sc |-;have hc1:H1 c=some (.lst cs):=by rw [<- hH]; exact ao
 have nonil:cs≠[]:=by rw [<- hcs]; simp
 have cells:∀ v∈cs,∃ z:Int,v=.int z/\hV z<=1048576:=fun v hv=>by
  rw [<- hcs] at hv
  rcases aN.mp hv with z | z
  ·obtain ⟨n,hn,rfl⟩:=cu.mp (FM z);exact ⟨n,rfl,hbits n hn⟩
  ·rw [au.mp z];exact ⟨1,rfl,by decide⟩
 refine aF ?_;dsimp only;refine aH (bW ?_);refine aF ?_;dsimp only;refine aH (bW ?_);refine aF ?_;dsimp only;refine aH ?_;refine ⟨120,rfl,by decide,by decide,mC (n:=120) (fun i σ H2=>∃ (z y:Int) (u v:Option V),σ=[some (.ref a),some (.ref c),some (.int z),some (.int y),u,v]/\-(2 ^ 64) < y/\y < 2 ^ 64/\H2=H1) ⟨1,5,none,none,rfl,by decide,by decide,rfl⟩ ?_ ?_⟩
 ·rintro i σ H2 hi ⟨z,y0,u0,v,rfl,hy1,hy2,rfl⟩;obtain ⟨u,hu,hm2⟩:=DY nonil (0 + (i:Int));obtain ⟨y,rfl,hy⟩:=cells u hm2;have lpos:(0:Int) < (cs.length:Int):=by
   have:=dH.mpr nonil;omega
  refine aH (bW ?_);refine ⟨_,rfl,_,rfl,_,rfl,c,_,rfl,.inl (SqL.of hc1),_,_,rfl,rfl,lpos,c,_,_,_,rfl,rfl,SqL.of hc1,hu,?_⟩;refine aF ?_;dsimp only;refine aH (bW ?_);refine ⟨_,rfl,_,rfl,_,_,rfl,rfl,.inl ⟨hy1,hy2⟩,_,rfl,_,_,rfl,rfl,_,rfl,_,_,rfl,rfl,.inl ⟨by decide,by decide⟩,_,_,rfl,rfl,_,_,rfl,rfl,_,_,rfl,rfl,(by show (0:Int) < 2147483629; decide),?_⟩;refine aF ?_;dsimp only;refine bW ?_;refine ⟨_,rfl,_,_,rfl,rfl,.inr ⟨by decide,by decide⟩,_,rfl,_,rfl,_,_,rfl,rfl,.inl (tG _),_,_,rfl,rfl,(by show (0:Int) < 2147483587; decide),_,_,rfl,rfl,?_⟩;refine aF ?_;exact ⟨_,_,_,_,rfl,(tG _).1,(tG _).2,rfl⟩
 ·rintro σ H2 ⟨z,y0,u0,v,rfl,hy1,hy2,rfl⟩;obtain ⟨x0,hx0⟩:∃ x0,cs[0]?=some x0:=by
   cases cs with
   | nil=>exact absurd rfl nonil
   | cons x0 r=>exact ⟨x0,rfl⟩
  obtain ⟨y,rfl,hy⟩:=cells x0 (bw hx0);have a0:atI cs 0=some (.int y):=dg (j:=0) hx0;refine aH ?_;refine ⟨_,rfl,c,_,_,_,rfl,rfl,SqL.of hc1,a0,_,_,rfl,rfl,(by show (0:Int) < 2; decide),rfl,_,rfl,?_⟩;refine E3 (fun _=>?_) (fun _=>?_)
  ·refine ⟨_,rfl,c,_,_,_,rfl,rfl,SqL.of hc1,a0,_,rfl,_,_,rfl,rfl,⟨by decide,by decide⟩,_,rfl,lt2,fun p hp=>?_⟩;exact q p _ (sc.free hp) ⟨_,_,ao⟩ (sc.trans (ax hp _))
  ·refine ⟨_,rfl,lt2,fun p hp=>?_⟩;exact q p _ (sc.free hp) ⟨_,_,ao⟩ (sc.trans (ax hp _))
end
theorem iq (x y z:Str):(x++y)++z=x++(y++z):=by
 show (⟨x.cps++y.cps++z.cps⟩:Str)=⟨x.cps++(y.cps++z.cps)⟩;rw [jU]
theorem wV (z:Str):∀ (ps:List Str) (acc:Array Nat),(ps.foldl (fun acc p=>acc++z.cps++p.cps) acc).size=acc.size + (ps.map fun x=>x.length).sum + ps.length * z.length
 | [],acc=>by simp
 | p :: ps,acc=>by
  rw [iZ,wV z ps,kz,kz,bY,fX,aG,kL];show acc.size + z.length + p.length + _ + _=_;omega
theorem kg (z:Str) (ys:List Str):(cq z ys).length<=jsz z ys:=by
 cases ys with
 | nil=>exact aU _
 | cons p ps =>
  show (ps.foldl (fun acc p=>acc++z.cps++p.cps) p.cps).size<=_;rw [wV];unfold jsz;rw [bY,fX,aG,kL];show p.length + _ + _<=_;omega
theorem yZ (z:Str) (a:Array Nat):∀ (ps:List Str) (acc:Array Nat),ps.foldl (fun acc p=>acc++z.cps++p.cps) (a++acc)=a++ps.foldl (fun acc p=>acc++z.cps++p.cps) acc
 | [],acc=>rfl
 | p :: ps,acc=>by
  rw [iZ,iZ,<- yZ z a ps,jU,jU,jU]
theorem dF (z x y:Str) (ys:List Str):cq z (x :: y :: ys)=x++z++cq z (y :: ys):=by
 show (⟨ys.foldl (fun acc p=>acc++z.cps++p.cps) (x.cps++z.cps++y.cps)⟩:Str)=⟨x.cps++z.cps++ys.foldl (fun acc p=>acc++z.cps++p.cps) y.cps⟩;rw [yZ]
theorem vq {z:Str} {ys:List Str} {k:Nat} (h:∀ x∈ys,x.length<=k):jsz z ys<=ys.length * (k + z.length):=by
 unfold jsz
 induction ys with
 | nil=>simp
 | cons y ys ih =>
  have h1:=h y (aA ..);have h2:=ih fun x hx=>h x (az _ hx);rw [bY,fX,aG,kL,kL];omega
def Ltr (x:Str):Prop:=∀ c∈x.cps.toList,97<=c/\c<=122
def Nam (x:Str):Prop:=1<=x.length/\x.length<=6/\Ltr x
theorem FN:∀ c∈abc.cps.toList,97<=c/\c<=122:=by decide +kernel
theorem D0 {z:Int} {c:Nat} (h:atI abc.cps.toList z=some c):97<=c/\c<=122:=by
 unfold atI at h;obtain ⟨j,_,e⟩:=pq.mp h;exact FN c (bw e)
theorem AZ {c:Nat} (h:97<=c/\c<=122):Ltr ⟨#[c]⟩:=fun d hd=>by
 have e:d=c:=by simpa using hd
 rw [e];exact h
theorem x5 {x y:Str} (h:Ltr x) (k:Ltr y):Ltr (x++y):=fun c hc=>by
 have hc':c∈(x.cps++y.cps).toList:=hc;rw [A0] at hc'
 rcases aN.mp hc' with z | z
 ·exact h c z
 ·exact k c z
theorem y7:∀ {ts:List Str},(∀ x∈ts,Ltr x)->Ltr (cq "" ts)
 | [],_=>fun c hc=>by
  have e:(cq "" []).cps.toList=[]:=by decide
  rw [e] at hc
  cases hc
 | [x],h=>h x (aA ..)
 | x :: y :: ts,h=>by
  rw [dF];exact x5 (x5 (h x (aA ..)) (fun c hc=>by cases hc)) (y7 fun z hz=>h z (az _ hz))
section
variable {P:aQ} {w:bT} {K:ai} {mg:Str->Option ag} {base:cP} {f fT fW:ak} {fd fdT fdW:cF}
seal PS PSs PE PA PT PW PI PG PGs PC
abbrev nN:List Str:=["_law_purse_here","_law_many","_law_letters","_law_first","_law_found","_law_k","_law_size","_law_tail"]
abbrev pN:List Str:=["_law_purse_here","_law_many"]
theorem scN:cK nN pN (aZ jN):={}
theorem ndN:((["_law_j"]:List Str)++nN).Nodup:=by decide +kernel
inductive Ea (vs:List V) (H:Hp) (Q:VK) (_e:XK):Prop where
 | mk (p:ak) (n:Int) (_:vs=[.ref p,.int n]) (_:eU H p) (_:0<=n) (_:n<=9) (_:∀ (l:ak) (ss:List Str) (H':Hp),H l=none->H' l=some (.lst (ss.map V.str))->(ss.length:Int)=n->(∀ x∈ss,Nam x)->eU H' p->But p H H'->Q (.ref l) H'):Ea vs H Q _e
end
def Wo (a:Int):Prop:=-(10 ^ 15)<=a/\a<=10 ^ 15
theorem vt {z:Int} (h:Wo z):z.natAbs.log2 < 1920:=by
 have h1:z.natAbs < 2 ^ 50:=by
  have:=h.1;have:=h.2;omega
 by_cases c:z.natAbs=0
 ·rw [c];decide
 ·have:=(Bt c).mpr h1;omega
theorem ir {z:Int} (h:Wo z):(bj (toString z)).length<=17:=by
 obtain ⟨h1,h2⟩:=h
 by_cases c:0<=z
 ·have:=rg c (k:=16) (by decide) (by omega);omega
 ·rw [PyProof.Rows.len_text_neg (by omega)];have:=rg (v:=0 - z) (by omega) (k:=16) (by decide) (by omega);omega
def sL:List (Str×Str):=[("plus","+"),("less","-"),("times","*"),("part","/"),("rest","|"),("below","<"),("same","=")]
def markD:List (Key×V):=sL.map fun p=>(.inr p.1,.str p.2)
theorem iC {k m:Str}:∀ {D:List (Str×Str)},D.lookup k=some m->(k,m)∈D
 | [],h=>by cases h
 |(x,y) :: D,h=>by
  by_cases c:k=x
  ·subst c;simp [dU] at h;subst h;exact aA ..
  ·have e:(k == x)=false:=beq_eq_false_iff_ne.mpr c;simp only [dU,e] at h;exact az _ (iC h)
theorem vv:∀ q∈sL,(¬ q.1="number"/\¬ q.1="box"/\¬ q.1="long"/\¬ q.1="got"/\¬ q.1="now")/\q.2.length=1/\vV (qA [] markD) (.inr q.1)=some (.str q.2):=by decide +kernel
inductive FI (H:Hp):Nat->V->Str->Prop where
 | num {t z n}:H t=some (.tup [.str "number",.int z])->Wo z->FI H (n + 1) (.ref t) (bj (toString z))
 | box {t x n}:H t=some (.tup [.str "box",.str x])->Nam x->FI H (n + 1) (.ref t) ("."++x)
 | long {t x n}:H t=some (.tup [.str "long",.str x])->Nam x->FI H (n + 1) (.ref t) ("#"++x)
 | got {t g n}:H t=some (.tup [.str "got",.int g])->(g=0\/g=1)->FI H (n + 1) (.ref t) ("$"++bj (toString g))
 | now {t n}:H t=some (.tup [.str "now"])->FI H (n + 1) (.ref t) "@"
 | two {t k m a b s1 s2 n1 n2 n}:H t=some (.tup [.str k,a,b])->sL.lookup k=some m->FI H n1 a s1->FI H n2 b s2->n1 + n2 < n->FI H n (.ref t) (cq " " [m,s1,s2])
theorem FI.up {H H':Hp} {n:Nat} {v:V} {s:Str} (h:FI H n v s) (k:∀ t xs,H t=some (.tup xs)->H' t=some (.tup xs)):FI H' n v s:=by
 induction h with
 | num a b=>exact .num (k _ _ a) b
 | box a b=>exact .box (k _ _ a) b
 | long a b=>exact .long (k _ _ a) b
 | got a b=>exact .got (k _ _ a) b
 | now a=>exact .now (k _ _ a)
 | two a b _ _ c ih1 ih2=>exact .two (k _ _ a) b ih1 ih2 c
theorem FI.same {H H':Hp} {n:Nat} {v:V} {s:Str} (h:FI H n v s) (k:cO H H'):FI H' n v s:=h.up fun _ _ e=>k _ _ e
theorem FI.len {H:Hp} {n:Nat} {v:V} {s:Str} (h:FI H n v s):s.length < 18 * n:=by
 induction h with
 | num _ b =>
  have:=ir b;omega
 | box _ b =>
  have b6:=b.2.1;rw [bf];have:(".":Str).length=1:=by decide
  omega
 | long _ b =>
  have b6:=b.2.1;rw [bf];have:("#":Str).length=1:=by decide
  omega
 | @got t g n _ b =>
  rw [bf];have:("$":Str).length=1:=by decide
  have:(bj (toString g)).length=1:=by
   rcases b with rfl | rfl <;> decide +kernel
  omega
 | now =>
  have:("@":Str).length=1:=by decide
  omega
 | @two t k m a b s1 s2 n1 n2 n _ e _ _ c ih1 ih2 =>
  have:=kg " " [m,s1,s2];have e1:=(vv _ (iC e)).2.1;have e2:(" ":Str).length=1:=by decide
  have e3:jsz " " [m,s1,s2]=m.length + (s1.length + (s2.length + 0)) + 3 * (" ":Str).length:=rfl;rw [e2] at e3;dsimp only at e1;omega
theorem FI.le {H:Hp} {n m:Nat} {v:V} {s:Str} (h:FI H n v s) (l:n<=m):FI H m v s:=by
 cases m with
 | zero=>cases h <;> omega
 | succ m =>
  cases h with
  | num a b=>exact .num a b
  | box a b=>exact .box a b
  | long a b=>exact .long a b
  | got a b=>exact .got a b
  | now a=>exact .now a
  | two a b c d e=>exact .two a b c d (by omega)
theorem FI.pos {H:Hp} {n:Nat} {v:V} {s:Str} (h:FI H n v s):0 < n:=by
 cases h <;> omega
theorem eJ {te:TE} {k x:Str} {a b:TS} {D:Ends} {σ:St} {H:Hp} (h:∀ Q:VK,Q (.str x) H->te σ H Q) (n:¬ x=k) (q:b D σ H):vO (sf (tOp rEq te (tC (.str k)))) a b D σ H:=
 h _ ⟨rfl,_,rfl,by rw [decide_eq_false (fun z=>n (V.str.inj z))]; exact c9 q⟩
theorem lX {te:TE} {k:Str} {a b:TS} {D:Ends} {σ:St} {H:Hp} (h:∀ Q:VK,Q (.str k) H->te σ H Q) (q:a D σ H):vO (sf (tOp rEq te (tC (.str k)))) a b D σ H:=
 h _ ⟨rfl,_,rfl,by rw [decide_eq_true rfl]; exact cT q⟩
section
variable {P:aQ} {w:bT} {K:ai} {mg:Str->Option ag} {base:cP} {f:ak} {fd:cF} {aW:ak}
seal PS PSs PE PA PT PW PI PG PGs PC
inductive GU (n:Nat) (vs:List V) (H:Hp) (Q:VK) (_e:XK):Prop where
 | mk (v:V) (s:Str) (_:vs=[v]) (_:FI H n v s) (_:∀ H',cO H H'->Q (.str s) H'):GU n vs H Q _e
def FO (n:Nat):Sp:=fun vs H Q _e=>GU n vs H Q _e
abbrev nLw:List Str:=["_law_formula_here","_law_mark"]
abbrev pLw:List Str:=["_law_formula_here"]
theorem scLw:cK nLw pLw (aZ jP):={}
theorem FP {n:Nat} (D:Df K mg "_law_words" jP pLw f fd) (B:Bl mg) (hn:n<=100) (GR:cW P w K mg base CX0 n f fd pLw (FO n)):cW P w K mg base CX0 (n + 1) f fd pLw (FO (n + 1)):=by
 refine D.F.ok scLw (fun vs H Q E h=>?_) (fun cdv A outer s H vs Q E hr h=>?_)
 ·obtain ⟨v,s,rfl,_⟩:=h;rfl
 obtain ⟨v,s,rfl,hF,q⟩:=h;have hu1:=hu_of hr;refine ⟨_,aE (du (bh eD (cg d6 (pv 0) aq (fun _ _=>rfl)) aB (bR _)) (aO (bO (iO jo (by rfl) B.str boot_str (gF (cg d6 (pv 0) aq (fun _ _=>rfl)) aj)))) bX)
  (aE (du (bh eD (cg d6 (pv 0) aq (fun _ _=>rfl)) aB (bR _)) (aO (bO (bI cV aB (cg d6 (pv 0) aq (fun _ _=>rfl))))) bX)
  (aE (du (bh eD (cg d6 (pv 0) aq (fun _ _=>rfl)) aB (bR _)) (aO (bO (bI cV aB (cg d6 (pv 0) aq (fun _ _=>rfl))))) bX)
  (aE (du (bh eD (cg d6 (pv 0) aq (fun _ _=>rfl)) aB (bR _)) (aO (bO (cg cw (cA (bo aB (bo aB aj))) (cg d6 (pv 0) aq (fun _ _=>rfl)) (fun _ _=>rfl)))) bX)
  (aE (du (bh eD (cg d6 (pv 0) aq (fun _ _=>rfl)) aB (bR _)) (aO (bO aB)) bX)
  (aE (bJ (i:=1) scLw.nd rfl (Or.inl rfl) (E7 hu1 (E9 (mS aB aB (mS aB aB (mS aB aB (mS aB aB (mS aB aB (mS aB aB (mS aB aB E8))))))) rfl rfl (by simp) (by decide)) (cg d6 (pv 0) aq (fun _ _=>rfl)) (fun _ _=>rfl)))
  (aO (bO (gJ bK fu fv pO aB (rO (cA (bD (pv 1) (iM (br GR hr (by rfl) D.m D.F.kp D.b .nil bM (gF (cg d6 (pv 0) aq (fun _ _=>rfl)) aj)) (iM (br GR hr (by rfl) D.m D.F.kp D.b .nil bM (gF (cg d6 (pv 0) aq (fun _ _=>rfl)) aj)) aj)))) aj))))))))),?_⟩
 have big:=dC;have kne:(¬ ("box":Str)="number"/\¬ ("long":Str)="number"/\¬ ("long":Str)="box"/\¬ ("got":Str)="number")/\(¬ ("got":Str)="box"/\¬ ("got":Str)="long"/\¬ ("now":Str)="number"/\¬ ("now":Str)="box"/\¬ ("now":Str)="long"/\¬ ("now":Str)="got"):=by decide +kernel
 have l1:(".":Str).length=1:=by decide
 have l2:("#":Str).length=1:=by decide
 cases hF with
 | num a b =>
  refine aH (lX (fun Q q=>⟨_,rfl,_,_,_,_,rfl,rfl,SqT.of a,rfl,q⟩) ?_);exact ⟨_,rfl,_,_,_,_,rfl,rfl,SqT.of a,rfl,_,rfl,vt b,q _ (cO.refl _)⟩
 | box a b =>
  have b6:=b.2.1;refine aH (eJ (fun Q q=>⟨_,rfl,_,_,_,_,rfl,rfl,SqT.of a,rfl,q⟩) kne.1.1 (fj ?_));dsimp only;refine aH (lX (fun Q q=>⟨_,rfl,_,_,_,_,rfl,rfl,SqT.of a,rfl,q⟩) ?_);exact ⟨_,rfl,_,_,_,_,rfl,rfl,SqT.of a,rfl,_,_,rfl,rfl,(by omega),q _ (cO.refl _)⟩
 | long a b =>
  have b6:=b.2.1;refine aH (eJ (fun Q q=>⟨_,rfl,_,_,_,_,rfl,rfl,SqT.of a,rfl,q⟩) kne.1.2.1 (fj ?_));dsimp only;refine aH (eJ (fun Q q=>⟨_,rfl,_,_,_,_,rfl,rfl,SqT.of a,rfl,q⟩) kne.1.2.2.1 (fj ?_));dsimp only;refine aH (lX (fun Q q=>⟨_,rfl,_,_,_,_,rfl,rfl,SqT.of a,rfl,q⟩) ?_);exact ⟨_,rfl,_,_,_,_,rfl,rfl,SqT.of a,rfl,_,_,rfl,rfl,(by omega),q _ (cO.refl _)⟩
 | @got t g _ a b =>
  refine aH (eJ (fun Q q=>⟨_,rfl,_,_,_,_,rfl,rfl,SqT.of a,rfl,q⟩) kne.1.2.2.2 (fj ?_));dsimp only;refine aH (eJ (fun Q q=>⟨_,rfl,_,_,_,_,rfl,rfl,SqT.of a,rfl,q⟩) kne.2.1 (fj ?_));dsimp only;refine aH (eJ (fun Q q=>⟨_,rfl,_,_,_,_,rfl,rfl,SqT.of a,rfl,q⟩) kne.2.2.1 (fj ?_));dsimp only;refine aH (lX (fun Q q=>⟨_,rfl,_,_,_,_,rfl,rfl,SqT.of a,rfl,q⟩) ?_);refine ⟨by show 2<=aw; omega,fun l hl=>?_⟩;have sl:=ax hl (.lst [V.str "$0",V.str "$1"]);have e0:("$":Str)++bj (toString (0:Int))="$0":=by decide +kernel
  have e1:("$":Str)++bj (toString (1:Int))="$1":=by decide +kernel
  refine ⟨_,rfl,_,_,_,_,rfl,rfl,SqT.of (sl _ _ a),rfl,l,_,_,.str ("$"++bj (toString g)),rfl,rfl,SqL.of ao,?_,q _ sl⟩
  rcases b with rfl | rfl
  ·rw [e0]; rfl
  ·rw [e1]; rfl
 | now a =>
  refine aH (eJ (fun Q q=>⟨_,rfl,_,_,_,_,rfl,rfl,SqT.of a,rfl,q⟩) kne.2.2.2.1 (fj ?_));dsimp only;refine aH (eJ (fun Q q=>⟨_,rfl,_,_,_,_,rfl,rfl,SqT.of a,rfl,q⟩) kne.2.2.2.2.1 (fj ?_));dsimp only;refine aH (eJ (fun Q q=>⟨_,rfl,_,_,_,_,rfl,rfl,SqT.of a,rfl,q⟩) kne.2.2.2.2.2.1 (fj ?_));dsimp only;refine aH (eJ (fun Q q=>⟨_,rfl,_,_,_,_,rfl,rfl,SqT.of a,rfl,q⟩) kne.2.2.2.2.2.2 (fj ?_));dsimp only;refine aH (lX (fun Q q=>⟨_,rfl,_,_,_,_,rfl,rfl,SqT.of a,rfl,q⟩) ?_);exact q _ (cO.refl _)
 | @two t k m v1 v2 s1 s2 n1 n2 _ a b c d e =>
  obtain ⟨⟨k1,k2,k3,k4,k5⟩,lm,vm⟩:=vv _ (iC b);dsimp only at k1 k2 k3 k4 k5 lm vm;refine aH (eJ (fun Q q=>⟨_,rfl,_,_,_,_,rfl,rfl,SqT.of a,rfl,q⟩) k1 (fj ?_));dsimp only;refine aH (eJ (fun Q q=>⟨_,rfl,_,_,_,_,rfl,rfl,SqT.of a,rfl,q⟩) k2 (fj ?_));dsimp only;refine aH (eJ (fun Q q=>⟨_,rfl,_,_,_,_,rfl,rfl,SqT.of a,rfl,q⟩) k3 (fj ?_));dsimp only;refine aH (eJ (fun Q q=>⟨_,rfl,_,_,_,_,rfl,rfl,SqT.of a,rfl,q⟩) k4 (fj ?_));dsimp only;refine aH (eJ (fun Q q=>⟨_,rfl,_,_,_,_,rfl,rfl,SqT.of a,rfl,q⟩) k5 (fj ?_));dsimp only;refine aH (bW ?_);intro pd hpd;have sd1:=ax hpd (.dK []);refine ⟨ao,markD,rfl,by decide +kernel,?_⟩;have sd:cO H (upd (upd H pd (.dK [])) pd (.dK (qA [] markD))):=fun x o ex=>by
   rw [aT (bF ex hpd),aT (bF ex hpd)];exact ex
  refine ⟨_,rfl,_,_,_,_,rfl,rfl,SqT.of (sd _ _ a),rfl,pd,.str m,rfl,.inl ⟨_,.inr k,.inl ao,rfl,vm.symm⟩,aF ?_⟩;dsimp only;generalize upd (upd H pd (.dK [])) pd (.dK (qA [] markD))=H0 at sd |-;refine ⟨rfl,_,rfl,_,rfl,_,_,_,_,rfl,rfl,SqT.of (sd _ _ a),rfl,v1,s1,rfl,(c.le (by omega)).same sd,fun H1 g1=>?_⟩;have g1:=sd.trans g1;refine ⟨_,rfl,_,_,_,_,rfl,rfl,SqT.of (g1 _ _ a),rfl,v2,s2,rfl,(d.le (by omega)).same g1,fun H2 g2=>?_⟩;refine ⟨by show 3<=aw; omega,fun l hl=>?_⟩;have g3:=(g1.trans g2).trans (ax hl (.lst [V.str m,V.str s1,V.str s2]));have j1:=c.len;have j2:=d.len;refine ⟨_,l,[m,s1,s2],rfl,rfl,.inl (SqL.of ao),?_,q _ g3⟩;have e2:(" ":Str).length=1:=by decide
  show m.length + (s1.length + (s2.length + 0)) + 3 * (" ":Str).length<=16777216;omega
theorem GV (D:Df K mg "_law_words" jP pLw f fd) (B:Bl mg):∀ n:Nat,n<=100->cW P w K mg base CX0 n f fd pLw (FO n)
 | 0,_=>⟨fun vs H Q E h=>(by obtain ⟨v,s,rfl,h,_⟩:=h; exact absurd h.pos (d8 0)),fun A outer s H args us vs Q E a b c d h=>(by obtain ⟨v,s,rfl,h,_⟩:=h; exact absurd h.pos (d8 0))⟩
 | n + 1,h=>FP D B (by omega) (GV D B n (by omega))
end
theorem uA {H:Hp} {p lb:ak} {bs:List Str} (pu:eU H p) (hb:H lb=some (.lst (bs.map V.str))):lb≠p:=by
 obtain ⟨x,y,e⟩:=pu;refine Cj hb e fun z=>?_
 cases bs with
 | nil=>cases z
 | cons b r=>cases z
theorem sM {bs:List Str} {r:Int} (h0:0<=r) (h1:r < bs.length):∃ x,atI (bs.map V.str) r=some (.str x)/\x∈bs:=by
 obtain ⟨j,rfl⟩:∃ j:Nat,r=(j:Int):=⟨r.toNat,by omega⟩;have lt:j < bs.length:=by omega
 exact ⟨bs[j],dg (by rw [cb,aL lt]; rfl),ei lt⟩
theorem nk {H H':Hp} {p:ak} (pu:eU H p) (b:But p H H'):∀ t xs,H t=some (.tup xs)->H' t=some (.tup xs):=fun t xs e=>b _ _ e (fun z=>by
 obtain ⟨x,y,e2⟩:=pu;rw [<- z,e] at e2
 cases e2)
theorem x6 {i:Nat} {x k:Str} {σ:St} {H:Hp} (hv:σ[i]?=some (some (.str x))):Det (sf (tOp rEq (kF i) (tC (.str k)))) σ H (decide (x=k)):=fun Q q=>⟨_,hv,rfl,_,rfl,by
 rw [show decide (V.str x=V.str k)=decide (x=k) from by
  by_cases c:x=k
  ·subst c;rw [decide_eq_true rfl,decide_eq_true rfl]
  ·rw [decide_eq_false c,decide_eq_false (fun z=>c (V.str.inj z))]]
 exact q⟩
def GX:List Str:=["number","box","long","got","now","number"]
def Eb:List Str:=["plus","less","times","part","rest","below","same"]
theorem Ec:∀ x∈Eb,(sL.lookup x).isSome=true:=by decide +kernel
theorem FQ:∀ x∈GX,x="number"\/x="box"\/x="long"\/x="got"\/x="now":=by decide +kernel
section
variable {P:aQ} {w:bT} {K:ai} {mg:Str->Option ag} {base:cP} {f fT fW:ak} {fd fdT fdW:cF}
seal PS PSs PE PA PT PW PI PG PGs PC
def wb (H:Hp) (l:ak):Prop:=∃ ns:List Str,H l=some (.lst (ns.map V.str))/\0 < ns.length/\ns.length<=9/\∀ x∈ns,Nam x
theorem wb.but {H H':Hp} {p l:ak} (h:wb H l) (pu:eU H p) (b:But p H H'):wb H' l:=by
 obtain ⟨ns,e,r⟩:=h;exact ⟨ns,b _ _ e (uA pu e),r⟩
abbrev nFo:List Str:=["_law_purse_here","_law_names_here","_law_most","_law_sort","_law_word_here","_law_share","_law_one"]
abbrev pFo:List Str:=["_law_purse_here","_law_names_here","_law_most"]
theorem BV:cK nFo pFo (aZ iR):={}
inductive GY (n:Nat) (vs:List V) (H:Hp) (Q:VK) (_e:XK):Prop where
 | mk (p l:ak) (m:Nat) (_:vs=[.ref p,.ref l,.int m]) (_:eU H p) (_:wb H l) (_:0 < m) (_:m<=n) (_:∀ (v:V) (s:Str) (H':Hp),FI H' m v s->eU H' p->But p H H'->Q v H'):GY n vs H Q _e
def FR (n:Nat):Sp:=fun vs H Q _e=>GY n vs H Q _e
theorem FS {n:Nat} (D:Df K mg "_law_formula" iR pFo f fd) (DT:Df K mg "_law_take" fc pT fT fdT) (DW:Df K mg "_law_worth" iB pW fW fdW) (B:Bl mg) (hn:n<=100) (GR:cW P w K mg base CX0 (n + 2) f fd pFo (FR n)):cW P w K mg base CX0 (n + 3) f fd pFo (FR (n + 1)):=by
 have GT:cW P w K mg base CX0 1 fT fdT pT lK:=lW DT B;have GW:cW P w K mg base CX0 2 fW fdW pW xZ:=yX DW DT B;refine D.F.ok BV (fun vs H Q E h=>?_) (fun cdv A outer s H vs Q E hr h=>?_)
 ·obtain ⟨p,l,m,rfl,_⟩:=h;rfl
 obtain ⟨p,l,m,rfl,pu,nm,m0,mn,q⟩:=h;have r1:dj 1 _:=hr.mono (by omega);have r2:dj 2 _:=hr.mono (by omega);refine ⟨_,aE (bJ (i:=3) BV.nd rfl (Or.inl rfl) (br GT r1 (by rfl) DT.m DT.F.kp DT.b .nil bM (bD (pv 0) (bo aq aj))))
  (aE (du ((jv (bh om (pv 2) aq (bR _)) (i7 (bh om (pv 3) aq (bR _)))).pt) (aE (bJ (i:=4) BV.nd rfl (Or.inl rfl) (cg cw (cA (bo aB (bo aB (bo aB (bo aB (bo aB (bo aB aj))))))) (bI mL (pv 3) aq) (fun _ _=>rfl)))
  (aE (du ((jv (bh eD (pv 4) aB (bR _)) (i7 (bh eD (pv 4) aB (bR _)))).pt) (aO (bO (fK (bD (pv 4) (gF (cg cw (pv 1) (br GT r1 (by rfl) DT.m DT.F.kp DT.b .nil bM (bD (pv 0) (iM (cR (dz K (by rfl)) (by rfl) B.len bE (bD (pv 1) aj)) aj))) (fun _ _=>rfl)) aj))))) bX)
  (aE (du (bh eD (pv 4) aB (bR _)) (aO (bO (fK (bD (pv 4) (iM (br GT r1 (by rfl) DT.m DT.F.kp DT.b .nil bM (bD (pv 0) (bo aq aj))) aj))))) bX)
  (aO (bO (cg cw (cA (vn (fK (bD (pv 4) aj)) (vn (fK (bo aB (iM (br GW r2 (by rfl) DW.m DW.F.kp DW.b .nil bM (bD (pv 0) aj)) aj))) aj))) (iO wq (by rfl) B.int boot_int (ft (qM eD (pv 4) aB (bR _)) aj)) (fun _ _=>rfl))))))) bX)
  (aE (bJ (i:=4) BV.nd rfl (Or.inl rfl) (cg cw (cA (bo aB (bo aB (bo aB (bo aB (bo aB (bo aB (bo aB aj)))))))) (br GT r1 (by rfl) DT.m DT.F.kp DT.b .nil bM (bD (pv 0) (bo aq aj))) (fun _ _=>rfl)))
  (aE (bJ (i:=5) BV.nd rfl (Or.inl rfl) (bI fJ aq (br GT r1 (by rfl) DT.m DT.F.kp DT.b .nil bM (bD (pv 0) (hU (bI kI (pv 2) aq) aj)))))
  (aE (bJ (i:=6) BV.nd rfl (Or.inl rfl) (br GR hr (by rfl) D.m D.F.kp D.b .nil bM (bD (pv 0) (bD (pv 1) (bD (pv 5) aj)))))
  (aO (bO (fK (bD (pv 4) (bD (pv 6) (iM (br GR hr (by rfl) D.m D.F.kp D.b .nil bM (bD (pv 0) (bD (pv 1) (hU (bI kI (bI kI (pv 2) aq) (pv 5)) aj)))) aj)))))))))),?_⟩
 have big:=dC;have dn:¬ ("now":Str)="number":=by decide +kernel
 have fin:∀ {G1:Hp} {xs:List V} {z:Str},But p H G1->eU G1 p->(∀ G t,cO G1 G->G t=some (.tup xs)->FI G m (.ref t) z)->xs.length<=3->xs.length<=aw/\∀ t,G1 t=none->Q (.ref t) (upd G1 t (.tup xs)):=fun {G1 xs z} b1 pu1 hF hl=>⟨by omega,fun t ht=>q _ z _ (hF _ t (ax ht _) ao) (pu1.same (ax ht _)) (b1.same (ax ht _))⟩;obtain ⟨m',rfl⟩:∃ m',m=m' + 1:=⟨m - 1,by omega⟩;refine aH (bW ?_);refine ⟨_,rfl,p,12,rfl,pu,by decide,by decide,fun so G so0 so1 puG bG=>?_⟩;refine aF ?_;dsimp only;refine aH ?_;refine pU (Det.or (xY rfl) fun _=>xY rfl) (fun _=>?_) (fun c=>?_)
 ·refine aH (bW ?_);refine ⟨by show 6<=aw; omega,fun lw hlw=>?_⟩;have sl:=ax hlw (.lst [V.str "number",V.str "box",V.str "long",V.str "got",V.str "now",V.str "number"]);obtain ⟨x,hx,mx⟩:=sM (bs:=GX) (gz so (show (6:Int)≠0 by decide)) (show so % 6 < 6 from eS so (by decide));refine ⟨_,rfl,_,_,rfl,rfl,(by show (0:Int) < 6; decide),lw,_,_,_,rfl,rfl,SqL.of ao,hx,aF ?_⟩;dsimp only;have puL:=puG.same sl;have bL:=bG.same sl;generalize upd G lw (.lst [V.str "number",V.str "box",V.str "long",V.str "got",V.str "now",V.str "number"])=GL at puL bL |-;obtain ⟨ns,hns,ns0,ns9,ns6⟩:=nm.but pu bL;have nlp:=uA puL hns;refine aH ?_;refine pU (Det.or (x6 rfl) fun _=>x6 rfl) (fun c=>?_) (fun c=>?_)
  ·refine ⟨_,rfl,_,rfl,_,rfl,_,rfl,l,_,rfl,.inl (SqL.of hns),p,_,rfl,puL,by rw [aa]; omega,by rw [aa]; omega,fun r G1 r0 r1' pu1 b1=>?_⟩;rw [aa] at r1';obtain ⟨y,hy,my⟩:=sM r0 r1';refine ⟨l,_,_,_,rfl,rfl,SqL.of (b1 _ _ hns nlp),hy,?_⟩;have cc:x="box"\/x="long":=by
    rcases FT _ _ ▸ c with c | c
    ·exact .inl (of_decide_eq_true c)
    ·exact .inr (of_decide_eq_true c)
   rcases cc with rfl | rfl
   ·exact fin (bL.trans b1) pu1 (fun G t _ e=>.box e (ns6 y my)) (by show 2<=3; decide)
   ·exact fin (bL.trans b1) pu1 (fun G t _ e=>.long e (ns6 y my)) (by show 2<=3; decide)
  refine aH ?_;refine pU (x6 rfl) (fun c2=>?_) (fun c2=>?_)
  ·refine ⟨_,rfl,_,rfl,p,2,rfl,puL,by decide,by decide,fun r G1 r0 r1' pu1 b1=>?_⟩;have:=of_decide_eq_true c2;subst this;exact fin (bL.trans b1) pu1 (fun G t _ e=>.got e (by omega)) (by show 2<=3; decide)
  refine ⟨_,rfl,⟨by show 1<=aw; omega,fun t1 ht1=>?_⟩⟩;have s1:=ax ht1 (.tup [V.str x]);refine ⟨_,rfl,p,rfl,puL.same s1,fun z G2 z1 z2 pu2 b2=>⟨by show 2<=aw; omega,fun t2 ht2=>⟨by show 2<=aw; omega,fun l3 hl3=>?_⟩⟩⟩;have s2:=ax ht2 (.tup [V.str "number",V.int z]);have s3:=ax hl3 (.lst [V.ref t1,V.ref t2]);have h1:=s3 _ _ (s2 _ _ (b2 _ _ (show upd GL t1 (.tup [V.str x]) t1=_ from ao) (nY puL ht1)));have h2:=s3 _ _ (show upd G2 t2 (.tup [V.str "number",V.int z]) t2=_ from ao);have pu4:=(pu2.same s2).same s3;have b4:=(((bL.same s1).trans b2).same s2).same s3;have h3:upd (upd G2 t2 (.tup [V.str "number",V.int z])) l3 (.lst [V.ref t1,V.ref t2]) l3=_:=ao;generalize upd (upd G2 t2 (.tup [V.str "number",V.int z])) l3 (.lst [V.ref t1,V.ref t2])=G4 at h1 h2 h3 pu4 b4 |-
  rcases FQ x mx with rfl | rfl | rfl | rfl | rfl
  ·exact ⟨_,rfl,rfl,.inr ⟨_,rfl,l3,_,_,_,rfl,rfl,SqL.of h3,rfl,q _ _ _ (.num h2 ⟨z1,z2⟩) pu4 b4⟩⟩
  ·exact absurd c (by decide +kernel)
  ·exact absurd c (by decide +kernel)
  ·exact absurd c2 (by decide +kernel)
  ·exact ⟨_,rfl,rfl,.inr ⟨_,rfl,l3,_,_,_,rfl,rfl,SqL.of h3,rfl,q _ _ _ (.now h1) pu4 b4⟩⟩
 have cm:¬ m' + 1 < 3:=by
  have:=(Bool.or_eq_false_iff.mp c).1;have:=of_decide_eq_false this;omega
 refine fj ?_;dsimp only;refine aH (bW ?_);refine ⟨by show 7<=aw; omega,fun lw hlw=>?_⟩;have sl:=ax hlw (.lst [V.str "plus",V.str "less",V.str "times",V.str "part",V.str "rest",V.str "below",V.str "same"]);refine ⟨_,rfl,p,7,rfl,puG.same sl,by decide,by decide,fun r G2 r0 r1' pu2 b2=>?_⟩;obtain ⟨x,hx,mx⟩:=sM (bs:=Eb) r0 (show r < 7 from r1');refine ⟨lw,_,_,_,rfl,rfl,SqL.of (b2 _ _ ao (nY puG hlw)),hx,aF ?_⟩;dsimp only;have b02:=(bG.same sl).trans b2;obtain ⟨mk,hmk⟩:∃ mk,sL.lookup x=some mk:=oR.mp (Ec x mx);refine aH (bW ?_);refine ⟨_,rfl,_,rfl,_,_,rfl,rfl,p,_,rfl,pu2,by omega,by omega,fun r3 G3 r30 r31 pu3 b3=>⟨_,_,rfl,rfl,aF ?_⟩⟩;dsimp only;have b03:=b02.trans b3;obtain ⟨k,rfl⟩:∃ k:Nat,r3=(k:Int):=⟨r3.toNat,by omega⟩;refine aH (bW ?_);refine ⟨_,rfl,_,rfl,_,rfl,p,l,1 + k,(by rw [Int.natCast_add]; rfl),pu3,nm.but pu b03,by omega,by omega,fun v1 s1 G4 F1 pu4 b4=>aF ?_⟩;dsimp only;have b04:=b03.trans b4;refine ⟨_,rfl,_,rfl,_,rfl,_,rfl,_,rfl,_,_,rfl,rfl,_,rfl,_,_,rfl,rfl,p,l,m' - (1 + k),?_,pu4,nm.but pu b04,by omega,by omega,fun v2 s2 G5 F2 pu5 b5=>?_⟩
 ·have:((m' + 1:Nat):Int) - 1 - (1 + (k:Int))=((m' - (1 + k):Nat):Int):=by omega
  show [V.ref p,V.ref l,V.int (((m' + 1:Nat):Int) - 1 - (1 + (k:Int)))]=_;rw [this]
 ·exact fin (b04.trans b5) pu5 (fun G t sg e=>.two e hmk ((F1.up (nk pu4 b5)).same sg) (F2.same sg) (by omega)) (by show 3<=3; decide)
theorem GZ (D:Df K mg "_law_formula" iR pFo f fd) (DT:Df K mg "_law_take" fc pT fT fdT) (DW:Df K mg "_law_worth" iB pW fW fdW) (B:Bl mg):∀ n:Nat,n<=100->cW P w K mg base CX0 (n + 2) f fd pFo (FR n)
 | 0,_=>⟨fun vs H Q E h=>(by obtain ⟨p,l,m,rfl,_,_,h1,h2,_⟩:=h; omega),fun A outer s H args us vs Q E a b c d h=>(by obtain ⟨p,l,m,rfl,_,_,h1,h2,_⟩:=h; omega)⟩
 | n + 1,h=>FS D DT DW B (by omega) (GZ D DT DW B n (by omega))
end
inductive Fo where
 | num (z:Int)
 | box (x:Str)
 | long (x:Str)
 | got (g:Int)
 | now
 | two (k m:Str) (a b:Fo)
 deriving DecidableEq
def Fo.ws:Fo->List Str
 | .num z=>[bj (toString z)]
 | .box x=>["."++x]
 | .long x=>["#"++x]
 | .got g=>["$"++bj (toString g)]
 | .now=>["@"]
 | .two _ m a b=>m :: (a.ws++b.ws)
def Fo.n:Fo->Nat
 | .two _ _ a b=>1 + a.n + b.n
 | _=>1
def Fo.Ok:Fo->Prop
 | .num z=>Wo z
 | .box x=>Nam x
 | .long x=>Nam x
 | .got g=>g=0\/g=1
 | .now=>True
 | .two k m a b=>sL.lookup k=some m/\a.Ok/\b.Ok
inductive jz (H:Hp):Fo->V->Prop where
 | num {t z}:H t=some (.tup [.str "number",.int z])->jz H (.num z) (.ref t)
 | box {t x}:H t=some (.tup [.str "box",.str x])->jz H (.box x) (.ref t)
 | long {t x}:H t=some (.tup [.str "long",.str x])->jz H (.long x) (.ref t)
 | got {t g}:H t=some (.tup [.str "got",.int g])->jz H (.got g) (.ref t)
 | now {t}:H t=some (.tup [.str "now"])->jz H .now (.ref t)
 | two {t k m a b x y}:H t=some (.tup [.str k,x,y])->jz H a x->jz H b y->jz H (.two k m a b) (.ref t)
theorem jz.up {H H':Hp} {f:Fo} {v:V} (h:jz H f v) (k:∀ t xs,H t=some (.tup xs)->H' t=some (.tup xs)):jz H' f v:=by
 induction h with
 | num a=>exact .num (k _ _ a)
 | box a=>exact .box (k _ _ a)
 | long a=>exact .long (k _ _ a)
 | got a=>exact .got (k _ _ a)
 | now a=>exact .now (k _ _ a)
 | two a _ _ ih1 ih2=>exact .two (k _ _ a) ih1 ih2
theorem jz.same {H H':Hp} {f:Fo} {v:V} (h:jz H f v) (k:cO H H'):jz H' f v:=h.up fun _ _ e=>k _ _ e
theorem Fo.ws_ne (f:Fo):f.ws≠[]:=by
 cases f <;> simp [Fo.ws]
theorem Fo.ws_len (f:Fo):f.ws.length=f.n:=by
 induction f with
 | two k m a b ih1 ih2 =>
  show (m :: (a.ws++b.ws)).length=1 + a.n + b.n;rw [aG,af,ih1,ih2];omega
 | _=>rfl
theorem Fo.pos (f:Fo):0 < f.n:=by
 rw [<- f.ws_len];exact dH.mpr f.ws_ne
theorem vw (z:Str):∀ {xs ys:List Str},xs≠[]->ys≠[]->cq z (xs++ys)=cq z [cq z xs,cq z ys]
 | [],_,h,_=>absurd rfl h
 | [x],[],_,h=>absurd rfl h
 | [x],y :: ys,_,_=>by
  show cq z (x :: y :: ys)=_;rw [dF,dF];rfl
 | x :: x' :: xs,ys,_,h=>by
  have ih:=vw z (xs:=x' :: xs) (by simp) h;show cq z (x :: x' :: (xs++ys))=_;rw [dF,dF,dF];rw [show cq z (x' :: (xs++ys))=_ from ih,dF];simp only [iq]
theorem FI.fo {H:Hp} {n:Nat} {v:V} {s:Str} (h:FI H n v s):∃ f:Fo,jz H f v/\f.Ok/\f.n<=n/\s=cq " " f.ws:=by
 induction h with
 | @num t z n a b=>exact ⟨.num z,.num a,b,gQ (aU _),rfl⟩
 | @box t x n a b=>exact ⟨.box x,.box a,b,gQ (aU _),rfl⟩
 | @long t x n a b=>exact ⟨.long x,.long a,b,gQ (aU _),rfl⟩
 | @got t g n a b=>exact ⟨.got g,.got a,b,gQ (aU _),rfl⟩
 | @now t n a=>exact ⟨.now,.now a,trivial,gQ (aU _),rfl⟩
 | @two t k m a b s1 s2 n1 n2 n e mk _ _ l ih1 ih2 =>
  obtain ⟨f1,i1,o1,l1,rfl⟩:=ih1;obtain ⟨f2,i2,o2,l2,rfl⟩:=ih2;refine ⟨.two k m f1 f2,.two e i1 i2,⟨mk,o1,o2⟩,by show 1 + f1.n + f2.n<=n; omega,?_⟩;show cq " " [m,cq " " f1.ws,cq " " f2.ws]=cq " " (m :: (f1.ws++f2.ws));have ne:f1.ws++f2.ws≠[]:=by simp [f1.ws_ne]
  obtain ⟨w,r,e⟩:∃ w r,f1.ws++f2.ws=w :: r:=by
   cases q:f1.ws++f2.ws with
   | nil=>exact absurd q ne
   | cons w r=>exact ⟨w,r,rfl⟩
  have r1:cq " " (m :: (f1.ws++f2.ws))=m++" "++cq " " (f1.ws++f2.ws):=by rw [e,dF]
  rw [r1,vw " " f1.ws_ne f2.ws_ne];exact dF " " m _ _
theorem tj (z:Str):∀ ys:List Str,cq z ys=lY z ys
 | []=>by
  show (⟨_⟩:Str)=zu;rfl
 | [x]=>rfl
 | x :: y :: ys=>by
  rw [dF,tj z (y :: ys)];rfl
theorem Ed {c:Nat}:∀ {p q A B:List Nat},c∉p->c∉q->p++c :: A=q++c :: B->p=q/\A=B
 | [],[],_,_,_,_,h=>⟨rfl,(aV h).2⟩
 | [],y :: q,_,_,_,hq,h=>absurd ((aV h).1 ▸ aA ..) hq
 | x :: p,[],_,_,hp,_,h=>absurd ((aV h).1 ▸ aA ..) hp
 | x :: p,y :: q,A,B,hp,hq,h=>by
  obtain ⟨h1,h2⟩:=aV h;obtain ⟨h3,h4⟩:=Ed (fun z=>hp (az _ z)) (fun z=>hq (az _ z)) h2;exact ⟨by rw [h1,h3],h4⟩
theorem join_list (c:Nat) (p q:Str) (r:List Str):(lY ⟨#[c]⟩ (p :: q :: r)).cps.toList=p.cps.toList++c :: (lY ⟨#[c]⟩ (q :: r)).cps.toList:=by
 show ((p.cps++#[c])++(lY ⟨#[c]⟩ (q :: r)).cps).toList=_;simp
theorem vx (c:Nat):∀ {ps qs:List Str},ps≠[]->qs≠[]->(∀ p∈ps,c∉p.cps.toList)->(∀ p∈qs,c∉p.cps.toList)->(lY ⟨#[c]⟩ ps).cps.toList=(lY ⟨#[c]⟩ qs).cps.toList->ps=qs
 | [],_,h,_,_,_,_=>absurd rfl h
 | _ :: _,[],_,h,_,_,_=>absurd rfl h
 | [p],[q],_,_,_,_,h=>by
  have e:p=q:=iI (eT.mp h);rw [e]
 | [p],q :: q' :: qs,_,_,hp,_,h=>by
  rw [join_list] at h;exact absurd (show c∈p.cps.toList by rw [show p.cps.toList=_ from h]; simp) (hp p (aA ..))
 | p :: p' :: ps,[q],_,_,_,hq,h=>by
  rw [join_list] at h;exact absurd (show c∈q.cps.toList by rw [show q.cps.toList=_ from h.symm]; simp) (hq q (aA ..))
 | p :: p' :: ps,q :: q' :: qs,_,_,hp,hq,h=>by
  rw [join_list,join_list] at h;obtain ⟨h1,h2⟩:=Ed (hp p (aA ..)) (hq q (aA ..)) h;have e:p=q:=iI (eT.mp h1);rw [e,vx c (by simp) (by simp) (fun x hx=>hp x (az _ hx)) (fun x hx=>hq x (az _ hx)) h2]
theorem nr {ws:List Str} (ne:ws≠[]) (h:∀ w∈ws,32∉w.cps.toList):hZ (cq " " ws) " "=ws:=by
 have e0:(" ":Str)=⟨#[32]⟩:=by decide
 rw [e0,tj];have j:=Am (lY ⟨#[32]⟩ ws) ⟨#[32]⟩;have p:=uB (lY ⟨#[32]⟩ ws) ⟨#[32]⟩;exact vx 32 (dH.mp p) ne (fun w hw=>An _ 32 w hw) h (congrArg (fun x:Str=>x.cps.toList) j)
def gK (w:Str) (lo hi:Int):Option Int:=if w.length > 21 then none else
 match dI w with
 | none=>none
 | some z=>if bj (toString z)≠w\/z < lo\/hi < z then none else some z
def dW (w:Str):Bool:=decide (1<=w.length) && decide (w.length<=6) && w.cps.toList.all fun c=>decide (97<=c) && decide (c<=122)
def leafOf (w:Str):Option Fo:=
 if w="@" then some .now else
 if sw w "." && dW (eV w (some 1) none) then some (.box (eV w (some 1) none)) else
 if sw w "#" && dW (eV w (some 1) none) then some (.long (eV w (some 1) none)) else
 if w="$0" then some (.got 0) else if w="$1" then some (.got 1) else
 (gK w (-(10 ^ 15)) (10 ^ 15)).map .num
def wW:List (Str×Str):=[("+","plus"),("-","less"),("*","times"),("/","part"),("|","rest"),("<","below"),("=","same")]
def iu (w:Str) (st:List Fo):Option (List Fo):=
 match leafOf w with
 | some f=>some (f :: st)
 | none=>match wW.lookup w,st with
  | some k,a :: b :: r=>some (.two k w a b :: r)
  | _,_=>none
def i4:List Str->Option (List Fo)
 | []=>some []
 | w :: ws=>(i4 ws).bind (iu w)
theorem vy:∀ q∈sL,leafOf q.2=none/\wW.lookup q.2=some q.1/\32∉q.2.cps.toList:=by decide +kernel
theorem qF (c:Nat) (x:Str):((⟨#[c]⟩:Str)++x).cps.toList=c :: x.cps.toList:=by
 show (#[c]++x.cps).toList=_;simp
theorem y8 (x:Str) (c:Nat):sw x ⟨#[c]⟩=decide (x.cps.toList[0]?=some c):=by
 have h:=StrLaws.subAt_one x c 0;unfold sw
 by_cases z:x.cps.toList[0]?=some c
 ·rw [decide_eq_true z];obtain ⟨h1,h2⟩:=h.mpr z;rw [decide_eq_true h1,h2];rfl
 ·rw [decide_eq_false z]
  cases e:(decide (0 + (⟨#[c]⟩:Str).length<=x.length) && rh x ⟨#[c]⟩ 0) with
  | false=>rfl
  | true =>
   obtain ⟨h1,h2⟩:=gb.mp e;exact absurd (h.mp ⟨of_decide_eq_true h1,h2⟩) z
theorem wX (c:Nat) (x:Str):eV ((⟨#[c]⟩:Str)++x) (some 1) none=x:=by
 have l:(((⟨#[c]⟩:Str)++x).length:Int)=x.length + 1:=by
  rw [bf];show ((1 + x.length:Nat):Int)=_;omega
 rw [lB (by decide) (by rw [l]; omega) rfl,qF];apply iI;show (((c :: x.cps.toList).drop 1).take _).toArray=x.cps;have e:((((⟨#[c]⟩:Str)++x).length:Int) - 1).toNat=x.cps.toList.length:=by
  rw [l,cJ];show ((x.length:Int) + 1 - 1).toNat=x.length;omega
 rw [e,List.drop_one,List.tail_cons,cD,lJ]
theorem kN {x:Str} (h:Nam x):dW x=true:=by
 unfold dW;rw [decide_eq_true h.1,decide_eq_true h.2.1];show (x.cps.toList.all _)=true;rw [iA];intro c hc;obtain ⟨h1,h2⟩:=h.2.2 c hc;rw [decide_eq_true h1,decide_eq_true h2];rfl
theorem y9:(".":Str)=⟨#[46]⟩/\("#":Str)=⟨#[35]⟩/\("@":Str)=⟨#[64]⟩/\("$0":Str)=⟨#[36,48]⟩/\("$1":Str)=⟨#[36,49]⟩/\("$":Str)=⟨#[36]⟩:=by decide +kernel
theorem sN {x y:Str} {a b:Nat} (h:x.cps.toList[0]?=some a) (k:y.cps.toList[0]?=some b) (n:a≠b):¬ x=y:=fun e=>by
 rw [e,k] at h
 cases h;exact n rfl
theorem o9 {z:Int} (h:Wo z):∃ c cs,(bj (toString z)).cps.toList=c :: cs/\(c=45\/(48<=c/\c<=57))/\(∀ d∈cs,48<=d/\d<=57)/\dI (bj (toString z))=some z:=by
 have ll:=ir h
 by_cases c0:0<=z
 ·obtain ⟨m,rfl⟩:=Int.eq_ofNat_of_zero_le c0;have e:=vK m;have hd:A1 ((nZ 10 m).map qp):=fun c hc=>by
   obtain ⟨ch,hch,rfl⟩:=cu.mp hc;exact tU (wY (by decide) (by decide) hch)
  have ne:(nZ 10 m).map qp≠[]:=fun z=>by
   have h:=toDigits_len_ge 10 m;rw [BW.mp z] at h;exact absurd h (by decide)
  have it:=PySem.intText_digits (x:=bj (toString ((m:Nat):Int))) (by rw [e]; exact hd) (by rw [e]; exact ne) (by omega);rw [e,wc] at it
  cases q:(nZ 10 m).map qp with
  | nil=>exact absurd q ne
  | cons c cs =>
   rw [q] at hd e;exact ⟨c,cs,e,.inr (hd c (aA ..)),fun d hd'=>hd d (az _ hd'),it⟩
 ·have zn:z < 0:=by omega
  obtain ⟨m,hm⟩:∃ m:Nat,0 - z=(m:Int):=⟨(0 - z).toNat,by omega⟩;have e0:(bj (toString z)).cps.toList=45 :: (nZ 10 m).map qp:=by
   rw [PyProof.Rows.toString_neg zn,hm,sO,String.toList_append,bA,<- sO (toString ((m:Nat):Int)),vK];rfl
  have hd:A1 ((nZ 10 m).map qp):=fun c hc=>by
   obtain ⟨ch,hch,rfl⟩:=cu.mp hc;exact tU (wY (by decide) (by decide) hch)
  have ne:(nZ 10 m).map qp≠[]:=fun z=>by
   have h:=toDigits_len_ge 10 m;rw [BW.mp z] at h;exact absurd h (by decide)
  have it:=PySem.intText_neg e0 hd ne (by omega);rw [wc] at it;refine ⟨45,_,e0,.inl rfl,hd,?_⟩;rw [it]
  congr 1
  omega
theorem Ee {z:Int} (h:Wo z):leafOf (bj (toString z))=some (.num z):=by
 obtain ⟨c,cs,e,hc,_,it⟩:=o9 h;have hd:(bj (toString z)).cps.toList[0]?=some c:=by rw [e]; rfl
 obtain ⟨k1,k2,k3,k4,k5,_⟩:=y9;have ll:=ir h;unfold leafOf;rw [if_neg (sN (b:=64) hd (by rw [k3]; rfl) (by omega)),k1,k2,y8,y8,hd];rw [decide_eq_false (show ¬ some c=some 46 from fun z=>by cases z; omega),decide_eq_false (show ¬ some c=some 35 from fun z=>by cases z; omega),oi,if_neg aX,if_neg aX];rw [if_neg (sN (b:=36) hd (by rw [k4]; rfl) (by omega)),if_neg (sN (b:=36) hd (by rw [k5]; rfl) (by omega))];unfold gK;rw [if_neg (by omega),it];show Jk Fo.num (if _ then none else some z)=_;rw [if_neg]
 ·rfl
 ·rintro (h1 | h1 | h1)
  ·exact h1 rfl
  ·have:=h.1;omega
  ·have:=h.2;omega
theorem Ef {x:Str} (h:Nam x):leafOf ("."++x)=some (.box x):=by
 obtain ⟨k1,k2,k3,k4,k5,_⟩:=y9;have hd:((".":Str)++x).cps.toList[0]?=some 46:=by rw [k1,qF]; rfl
 unfold leafOf;rw [if_neg (sN (b:=64) hd (by rw [k3]; rfl) (by decide)),k1,y8];rw [k1] at hd;rw [hd,decide_eq_true rfl,wX,kN h];rfl
theorem BX {x:Str} (h:Nam x):leafOf ("#"++x)=some (.long x):=by
 obtain ⟨k1,k2,k3,k4,k5,_⟩:=y9;have hd:(("#":Str)++x).cps.toList[0]?=some 35:=by rw [k2,qF]; rfl
 unfold leafOf;rw [if_neg (sN (b:=64) hd (by rw [k3]; rfl) (by decide)),k1,k2,y8,y8];rw [k2] at hd;rw [hd,decide_eq_false (show ¬ (some 35:Option Nat)=some 46 by decide),oi,if_neg aX,decide_eq_true rfl,wX,kN h];rfl
theorem Eg {g:Int} (h:g=0\/g=1):leafOf ("$"++bj (toString g))=some (.got g):=by
 rcases h with rfl | rfl <;> decide +kernel
theorem Eh:leafOf "@"=some .now:=by decide +kernel
theorem pe:∀ {f:Fo},f.Ok->∀ {rest:List Str} {st:List Fo},i4 rest=some st->i4 (f.ws++rest)=some (f :: st)
 | .num z,h,rest,st,p=>by
  show (i4 rest).bind (iu (bj (toString z)))=_;rw [p];show iu _ _=_;unfold iu;rw [Ee h]
 | .box x,h,rest,st,p=>by
  show (i4 rest).bind (iu ("."++x))=_;rw [p];show iu _ _=_;unfold iu;rw [Ef h]
 | .long x,h,rest,st,p=>by
  show (i4 rest).bind (iu ("#"++x))=_;rw [p];show iu _ _=_;unfold iu;rw [BX h]
 | .got g,h,rest,st,p=>by
  show (i4 rest).bind (iu ("$"++bj (toString g)))=_;rw [p];show iu _ _=_;unfold iu;rw [Eg h]
 | .now,h,rest,st,p=>by
  show (i4 rest).bind (iu "@")=_;rw [p];show iu "@" st=_;unfold iu;rw [Eh]
 | .two k m a b,h,rest,st,p=>by
  obtain ⟨mk,ha,hb⟩:=h;have p1:=pe hb p;have p2:=pe ha p1;obtain ⟨l1,l2,_⟩:=vy _ (iC mk);show (i4 ((a.ws++b.ws)++rest)).bind (iu m)=_;rw [aS,p2];show iu m _=_;unfold iu;dsimp only at l1 l2;rw [l1,l2]
theorem BY:∀ q∈sL,∀ c∈q.2.cps.toList,c < 128:=by decide +kernel
theorem nv {f:Fo} (h:f.Ok):∀ w∈f.ws,32∉w.cps.toList/\(∀ c∈w.cps.toList,c < 128)/\w.length<=17:=by
 have name:∀ {c:Nat} {x:Str},Nam x->c < 128->c≠32->∀ w∈[(⟨#[c]⟩:Str)++x],32∉w.cps.toList/\(∀ c∈w.cps.toList,c < 128)/\w.length<=17:=fun {c x} hx h1 h2 w hw=>by
  rw [au.mp hw,qF];refine ⟨fun z=>?_,fun d hd=>?_,?_⟩
  ·rcases ar.mp z with z | z
   ·exact h2 z.symm
   ·have:=hx.2.2 _ z;omega
  ·rcases ar.mp hd with z | z
   ·rw [z];exact h1
   ·have:=hx.2.2 _ z;omega
  ·rw [bf];have:=hx.2.1;show 1 + x.length<=17;omega
 obtain ⟨k1,k2,k3,k4,k5,k6⟩:=y9
 induction f with
 | num z =>
  intro w hw;rw [au.mp hw];obtain ⟨c,cs,e,hc,hcs,_⟩:=o9 h;rw [e];refine ⟨fun z=>?_,fun d hd=>?_,ir h⟩
  ·rcases ar.mp z with z | z
   ·omega
   ·have:=hcs _ z;omega
  ·rcases ar.mp hd with z | z
   ·omega
   ·have:=hcs _ z;omega
 | box x =>
  show ∀ w∈[(".":Str)++x],_;rw [k1];exact name h (by decide) (by decide)
 | long x =>
  show ∀ w∈[("#":Str)++x],_;rw [k2];exact name h (by decide) (by decide)
 | got g =>
  intro w hw;rw [au.mp hw]
  rcases h with rfl | rfl <;> decide +kernel
 | now =>
  intro w hw;rw [au.mp hw];decide +kernel
 | two k m a b ih1 ih2 =>
  obtain ⟨mk,ha,hb⟩:=h;intro w hw
  rcases ar.mp hw with z | z
  ·rw [z];have e1:=vy _ (iC mk);have e2:=(vv _ (iC mk)).2.1;have e3:=BY _ (iC mk);dsimp only at e1 e2 e3;exact ⟨e1.2.2,e3,by omega⟩
  ·rcases aN.mp z with z | z
   ·exact ih1 ha w z
   ·exact ih2 hb w z
theorem boot_all:eC "all"=some (.builtin "all"):=by decide +kernel
theorem jz.tup {H:Hp} {f:Fo} {v:V} (h:jz H f v):∃ t xs,v=.ref t/\H t=some (.tup xs)/\((∃ k m a b x y,f=.two k m a b/\xs=[.str k,x,y]/\jz H a x/\jz H b y)\/(f.n=1/\xs.length<=2)):=by
 cases h with
 | num e=>exact ⟨_,_,rfl,e,.inr ⟨rfl,ay 2⟩⟩
 | box e=>exact ⟨_,_,rfl,e,.inr ⟨rfl,ay 2⟩⟩
 | long e=>exact ⟨_,_,rfl,e,.inr ⟨rfl,ay 2⟩⟩
 | got e=>exact ⟨_,_,rfl,e,.inr ⟨rfl,ay 2⟩⟩
 | now e=>exact ⟨_,_,rfl,e,.inr ⟨rfl,by decide⟩⟩
 | two e a b=>exact ⟨_,_,rfl,e,.inl ⟨_,_,_,_,_,_,rfl,rfl,a,b⟩⟩
theorem BZ (a b:Int):decide (V.int a=V.int b)=decide (a=b):=by
 by_cases c:a=b
 ·rw [c,decide_eq_true rfl,decide_eq_true rfl]
 ·rw [decide_eq_false c,decide_eq_false fun z=>c (V.int.inj z)]
theorem rP (a b:Str):decide (V.str a=V.str b)=decide (a=b):=by
 by_cases c:a=b
 ·rw [c,decide_eq_true rfl,decide_eq_true rfl]
 ·rw [decide_eq_false c,decide_eq_false fun z=>c (V.str.inj z)]
section
variable {P:aQ} {w:bT} {K:ai} {mg:Str->Option ag} {base:cP} {f fN fW fI:ak} {fd fdN fdW fdI:cF}
seal PS PSs PE PA PT PW PI PG PGs PC PSC PSsC PEC
inductive Ha (n:Nat) (vs:List V) (H:Hp) (Q:VK) (_e:XK):Prop where
 | mk (g:Fo) (v:V) (_:vs=[v]) (_:jz H g v) (_:g.n<=n) (_:∀ H',cO H H'->Q (.int g.n) H'):Ha n vs H Q _e
def FU (n:Nat):Sp:=fun vs H Q _e=>Ha n vs H Q _e
abbrev nPi:List Str:=["formula"]
abbrev pPi:List Str:=["formula"]
theorem scPi:cK nPi pPi (aZ mZ):={}
theorem FV {n:Nat} (D:Df K mg "parts_in" mZ pPi f fd) (B:Bl mg) (hn:n<=1000) (GR:cW P w K mg base CX0 n f fd pPi (FU n)):cW P w K mg base CX0 (n + 1) f fd pPi (FU (n + 1)):=by
 refine D.F.ok scPi (fun vs H Q E h=>?_) (fun cdv A outer s H vs Q E hr h=>?_)
 ·obtain ⟨g,v,rfl,_⟩:=h;rfl
 obtain ⟨g,v,rfl,hF,gn,q⟩:=h;refine ⟨_,aE (du (bh eD (cR (dz K (by rfl)) (by rfl) B.len bE (bD (pv 0) aj)) aq (bR _)) (aO (bO (bI fJ (bI fJ aq (br GR hr (by rfl) D.m D.F.kp D.b .nil bM (gF (cg d6 (pv 0) aq (fun _ _=>rfl)) aj))) (br GR hr (by rfl) D.m D.F.kp D.b .nil bM (gF (cg d6 (pv 0) aq (fun _ _=>rfl)) aj))))) bX)
  (aO (bO aq)),?_⟩
 obtain ⟨t,xs,rfl,ht,c⟩:=hF.tup;refine aH ?_;refine ⟨_,rfl,t,xs,rfl,.inr (SqT.of ht),rfl,_,rfl,?_⟩
 rcases c with ⟨k,m,a,b,x,y,rfl,rfl,fa,fb⟩ | ⟨g1,l2⟩
 ·rw [BZ,decide_eq_true (show ((([V.str k,x,y]:List V).length:Nat):Int)=3 from rfl)];refine cT ?_;have gn':1 + a.n + b.n<=n + 1:=gn;refine dR ⟨_,rfl,_,_,_,_,rfl,rfl,SqT.of ht,rfl,a,x,rfl,fa,by omega,fun H1 s1=>?_⟩;refine ⟨_,_,rfl,rfl,_,rfl,_,_,_,_,rfl,rfl,SqT.of (s1 _ _ ht),rfl,b,y,rfl,fb.same s1,by omega,fun H2 s2=>?_⟩;refine ⟨_,_,rfl,rfl,?_⟩;have e:(1:Int) + (a.n:Int) + (b.n:Int)=((1 + a.n + b.n:Nat):Int):=by omega
  show Q (.int ((1:Int) + (a.n:Int) + (b.n:Int))) H2;rw [e];exact q _ (s1.trans s2)
 ·rw [BZ,decide_eq_false (by omega)];refine c9 ?_;have e:(1:Int)=(g.n:Int):=by rw [g1]; rfl
  show Q (.int 1) H;rw [e];exact q _ (cO.refl _)
theorem Hb (D:Df K mg "parts_in" mZ pPi f fd) (B:Bl mg):∀ n:Nat,n<=1000->cW P w K mg base CX0 n f fd pPi (FU n)
 | 0,_=>⟨fun vs H Q E h=>(by obtain ⟨g,v,rfl,_,h,_⟩:=h; have:=g.pos; omega),fun A outer s H args us vs Q E a b c d h=>(by obtain ⟨g,v,rfl,_,h,_⟩:=h; have:=g.pos; omega)⟩
 | n + 1,h=>FV D B (by omega) (Hb D B n (by omega))
theorem Ao {x:Str} {n i:Nat} {g:TG} {tc:L2.TT} {te:TE} {σ:St} {H:Hp} {Q:VK} (hv:σ[i]?=some (some (.str x))) (Pv:Nat->List V->Hp->Prop) (h0:Pv 0 [] H) (hl:∀ i ys H,i<=x.cps.size->Pv i ys H->ys.length < aw)
  (hs:∀ i c ys H,x.cps[i]?=some c->Pv i ys H->g (.str ⟨#[c]⟩) (aJ n none++σ) H fun σ2 H2=>σ2.drop n=σ/\tc σ2 H2 fun b H3=>if b=true then te σ2 H3 fun y H4=>Pv (i + 1) (ys++[y]) H4 else Pv (i + 1) ys H3)
  (hd:∀ ys H,Pv x.cps.size ys H->∀ p,H p=none->Q (.ref p) (upd H p (.lst ys))):pZ n (Gy (kF i)) g tc te σ H Q:=⟨_,hv,x,rfl,BG Pv h0 hl hs hd⟩
def B0:Sp:=fun vs H Q _=>∃ x:Str,vs=[.str x]/\x.length<=1000/\∀ H',cO H H'->Q (.bl (dW x)) H'
abbrev nNm:List Str:=["word"]
abbrev pNm:List Str:=["word"]
theorem scNm:cK nNm pNm (aZ jM):={}
theorem ndNm:((["sign"]:List Str)++nNm).Nodup:=by decide +kernel
theorem Ei (a b:Nat):decide (((⟨#[a]⟩:Str).cps.toList) < (⟨#[b]⟩:Str).cps.toList)=decide (a < b):=by
 show decide ([a] < [b])=decide (a < b)
 by_cases c:a < b
 ·rw [decide_eq_true c,decide_eq_true];exact List.Lex.rel c
 ·rw [decide_eq_false c,decide_eq_false];intro h
  cases h with
  | rel h=>exact c h
  | cons h=>cases h
theorem A2 (D:Df K mg "is_name" jM pNm f fd) (B:Bl mg) (MA:mg "all"=none):cW P w K mg base CX0 1 f fd pNm B0:=by
 refine D.F.ok scNm (fun vs H Q E h=>?_) (fun cdv A outer s H vs Q E hr h=>?_)
 ·obtain ⟨x,rfl,_⟩:=h;rfl
 obtain ⟨x,rfl,xl,q⟩:=h;refine ⟨_,aO (bO (Co (yw AE AE aq (cR fA (by rfl) B.len bE (bD (pv 0) aj)) aq) (Cm (cR (BJ rfl) (by rfl) MA boot_all (ft (lR ["sign"] (hW.open (NN:=nNm) (N:=nNm) (sc:=aZ jM) rfl rfl (by decide +kernel) rfl (by decide +kernel) (by decide +kernel) rfl (by decide +kernel)) rfl (Fu (pv 0)) (fun _ _ _ _=>df (i:=0) ndNm rfl (Or.inl rfl)) (fun _ _ _ _=>jr) (fun _ _ _ _=>yw wN wN aB (pv 0) aB)) aj))))),?_⟩;have big:=dC;refine dR ?_;have ca:("a":Str)=⟨#[97]⟩/\("z":Str)=⟨#[122]⟩:=by decide
 obtain ⟨c1,c2⟩:=ca;refine ⟨_,rfl,x,rfl,by omega,1,_,rfl,rfl,_,rfl,?_⟩;have no:dW x=false->Q (.bl false) H:=fun e=>by
  have:=q H (cO.refl _);rw [e] at this;exact this
 rcases nV x.length 1 with h1 | h1
 ·rw [decide_eq_false (show ¬ (1:Int)<=(x.length:Int) by omega)];refine c9 ⟨_,rfl,c9 (no ?_)⟩;unfold dW;rw [decide_eq_false (show ¬ 1<=x.length by omega)];rfl
 rw [decide_eq_true (show (1:Int)<=(x.length:Int) by omega)];refine cT ⟨_,_,rfl,rfl,_,rfl,?_⟩
 rcases nV 6 x.length with h2 | h2
 ·rw [decide_eq_false (show ¬ (x.length:Int)<=6 by omega)];refine c9 (no ?_);unfold dW;rw [decide_eq_false (show ¬ x.length<=6 by omega),gT];rfl
 rw [decide_eq_true (show (x.length:Int)<=6 by omega)];refine cT ?_;have cs:x.cps.size<=6:=h2;dsimp only [tCB,gS];refine Ao (x:=x) rfl (fun i ys G=>ys=(x.cps.toList.take i).map (fun c=>V.bl (decide (97<=c) && decide (c<=122)))/\G=H) ⟨rfl,rfl⟩ ?_ ?_ ?_
 ·rintro i ys G hi ⟨rfl,rfl⟩;rw [aa,bP];omega
 ·rintro i c ys G hc ⟨rfl,rfl⟩;refine aF ⟨rfl,?_⟩;unfold t8;refine cT ?_;have hc':x.cps.toList[i]?=some c:=by rw [qz]; exact hc
  have nx:∀ b:Bool,(decide (97<=c) && decide (c<=122))=b->(x.cps.toList.take i).map (fun c=>V.bl (decide (97<=c) && decide (c<=122)))++[V.bl b]=(x.cps.toList.take (i + 1)).map (fun c=>V.bl (decide (97<=c) && decide (c<=122))):=fun b e=>by
   rw [Ej,hc',bA,<- e];rfl
  refine ⟨_,rfl,_,_,rfl,rfl,_,rfl,?_⟩;rw [c1,Ei]
  by_cases k1:c < 97
  ·rw [decide_eq_true k1];exact c9 ⟨nx false (by rw [decide_eq_false (by omega)]; rfl),rfl⟩
  ·rw [decide_eq_false k1];refine cT ⟨_,_,rfl,rfl,?_⟩;rw [c2,Ei]
   by_cases k2:122 < c
   ·rw [decide_eq_true k2];exact ⟨nx false (by rw [decide_eq_false (show ¬ c<=122 by omega),gT]),rfl⟩
   ·rw [decide_eq_false k2];exact ⟨nx true (by rw [decide_eq_true (show 97<=c by omega),decide_eq_true (show c<=122 by omega)]; rfl),rfl⟩
 ·rintro ys G ⟨rfl,rfl⟩ l hl;refine ⟨l,(x.cps.toList.take x.cps.size).map (fun c=>decide (97<=c) && decide (c<=122)),rfl,SqL.of (by rw [Jl]; exact ao),?_⟩;have:=q _ (ax hl (.lst ((x.cps.toList.take x.cps.size).map (fun c=>V.bl (decide (97<=c) && decide (c<=122))))));have e:dW x=((x.cps.toList.take x.cps.size).map (fun c=>decide (97<=c) && decide (c<=122))).all id:=by
   unfold dW;rw [decide_eq_true h1,decide_eq_true h2,show x.cps.size=x.cps.toList.length from (cJ).symm,cD,List.all_map];rfl
  rw [e] at this;exact this
end
open NumText in
theorem Ap {p q:Array Nat×Bool} {c:Nat} (h:lZ 10 p c=some q) (hp:∀ d∈p.1,d < 10):∀ d∈q.1,d < 10:=by
 unfold lZ at h
 repeat' split at h
 all_goals first
  |(cases h; exact hp)
  |(cases h
    intro d hd
    rcases Array.mem_push.mp hd with z | z
    ·exact hp d z
    ·omega)
  | cases h
open NumText in
theorem vz:∀ (cs:List Nat) {p q:Array Nat×Bool},cs.foldlM (lZ 10) p=some q->(∀ d∈p.1,d < 10)->∀ d∈q.1,d < 10
 | [],p,q,h,hp=>by
  cases (bC h:p=q);exact hp
 | c :: cs,p,q,h,hp=>by
  rw [List.foldlM_cons] at h
  cases hs:lZ 10 p c with
  | none =>
   rw [hs] at h;exact absurd h (by simp)
  | some p' =>
   rw [hs] at h;exact vz cs (show cs.foldlM (lZ 10) p'=some q from h) (Ap hs hp)
theorem wZ:∀ (l:List Nat) (a:Nat),(∀ d∈l,d < 10)->l.foldl (fun acc d=>acc * 10 + d) a < (a + 1) * 10 ^ l.length
 | [],a,_=>by simp
 | d :: l,a,h=>by
  have ih:=wZ l (a * 10 + d) fun x hx=>h x (az _ hx);have hd:=h d (aA ..);rw [iZ,aG,Nat.pow_succ];have e:(a * 10 + d + 1) * 10 ^ l.length<=((a + 1) * 10) * 10 ^ l.length:=gp _ (by omega);have e2:(a + 1) * (10 ^ l.length * 10)=((a + 1) * 10) * 10 ^ l.length:=by
   rw [Nat.mul_comm (10 ^ l.length) 10,<- Nat.mul_assoc]
  omega
open NumText in
theorem Aq {w:Str} {z:Int} (l:w.length<=21) (h:dI w=some z):z.natAbs < 10 ^ 21:=by
 unfold dI at h
 split at h
 ·cases hd:digits? 10 (core (tQ w)) with
  | none =>
   rw [hd] at h
   cases h
  | some ds =>
   rw [hd] at h;dsimp only at h
   split at h
   ·cases h;have sz:ds.size<=21:=bN (digits_size hd) (bN (core_length _) (bN (seen_length w) l));have sm:∀ d∈ds.toList,d < 10:=by
     unfold digits? at hd
     cases hf:(core (tQ w)).foldlM (lZ 10) ((#[]:Array Nat),false) with
     | none =>
      rw [hf] at hd;exact absurd hd (by simp)
     | some q =>
      rw [hf] at hd;have h2:(if q.2=true then some q.1 else none)=some ds:=hd;have:=vz _ hf (fun d hd=>absurd hd (by simp))
      split at h2
      ·cases h2;intro d hd;exact this d (Array.mem_def.mpr hd)
      ·cases h2
    have v:=wZ ds.toList 0 sm;rw [Array.foldl_toList,cJ,oa,Nat.one_mul] at v;have le:10 ^ ds.size<=10 ^ 21:=Nat.pow_le_pow_right (by decide) sz;have fin:(worth (sign ((tQ w).dropWhile blank)).1 ds).natAbs=ds.foldl (fun acc d=>acc * 10 + d) 0:=by
     unfold worth
     split <;> simp
    rw [fin];omega
   ·cases h
 ·cases h
theorem log_small {z:Int} (h:z.natAbs < 10 ^ 21):z.natAbs.log2 < 1920:=by
 by_cases c:z.natAbs=0
 ·rw [c];decide
 ·have h1:z.natAbs < 2 ^ 70:=t7 h (by decide);have:=(Bt c).mpr h1;omega
theorem Ar {w:Str} (l:w.length<=640) (h:∀ c∈w.cps.toList,c < 128):(lI w).length<=10000:=by
 have:=StrLaws.reprText_len w fun c hc=>t7 (h c hc) (by decide);omega
section
variable {P:aQ} {w:bT} {K:ai} {mg:Str->Option ag} {base:cP} {f fN fW fI:ak} {fd fdN fdW fdI:cF}
seal PS PSs PE PA PT PW PI PG PGs PC PSC PSsC PEC
def x8:Option Int->V
 | none=>.non
 | some z=>.int z
inductive Hc (vs:List V) (H:Hp) (Q:VK) (_e:XK):Prop where
 | mk (x:Str) (lo hi:Int) (_:vs=[.str x,.int lo,.int hi]) (_:(∀ c∈x.cps.toList,c < 128)) (_:x.length<=1000) (_:∀ H',cO H H'->Q (x8 (gK x lo hi)) H'):Hc vs H Q _e
def FW:Sp:=fun vs H Q _e=>Hc vs H Q _e
abbrev nNi:List Str:=["word","least","most","number"]
abbrev pNi:List Str:=["word","least","most"]
theorem scNi:cK nNi pNi (aZ jf):={}
theorem Ek (D:Df K mg "number_in" jf pNi f fd) (B:Bl mg) (MV:mg "ValueError"=none):dP P w K mg base CX0 1 f fd pNi FW:=by
 refine D.F.okC scNi (fun vs H Q E h=>?_) (fun cdv A outer s H vs Q E hr h=>?_)
 ·obtain ⟨x,lo,hi,rfl,_⟩:=h;rfl
 obtain ⟨x,lo,hi,rfl,asc,xl,q⟩:=h;refine ⟨_,aR (du (bh tK (cR fA (by rfl) B.len bE (bD (pv 0) aj)) aq (bR _)) (aO (bO dJ)) bX).c
  (aR (Af (j:=0) (i:=3) scNi.nd rfl (Or.inl rfl) (pv 0) (by rfl) B.int (by rfl) MV rfl (fun _=>aO (bO dJ)))
  (aE (du ((jv (bh wo (iO jo (by rfl) B.str boot_str (bD (pv 3) aj)) (pv 0) (bR _)) (jv (bh om (pv 3) (pv 1) (bR _)) (i7 (bh tK (pv 3) (pv 2) (bR _))))).pt) (aO (bO dJ)) bX)
  (aO (bO (pv 3)))).c),?_⟩
 have big:=dC;have fin:∀ v,x8 (gK x lo hi)=v->Q v H:=fun v e=>e ▸ q H (cO.refl _);refine aH ?_;refine ⟨_,rfl,x,rfl,by omega,_,_,rfl,rfl,_,rfl,?_⟩
 rcases nV 21 x.length with h1 | h1
 ·rw [decide_eq_true (show (21:Int) < (x.length:Int) by omega)];refine cT (fin _ ?_);unfold gK;rw [if_pos h1];rfl
 rw [decide_eq_false (show ¬ (21:Int) < (x.length:Int) by omega)];refine c9 ?_;dsimp only [dX];refine aH ⟨x,rfl,by omega,Ar (by omega) asc,fun z hz=>?_,fun hz=>?_⟩
 ·dsimp only;have rs:=Aq h1 hz;have ni:gK x lo hi=if bj (toString z)≠x\/z < lo\/hi < z then none else some z:=by
   unfold gK;rw [if_neg (by omega),hz]
  refine aH ?_;refine ⟨_,rfl,z,rfl,log_small rs,_,rfl,rfl,_,rfl,?_⟩;rw [rP]
  by_cases c1:bj (toString z)=x
  ·rw [decide_eq_true c1];refine c9 ?_;refine ⟨_,rfl,_,rfl,_,_,rfl,rfl,_,rfl,?_⟩
   by_cases c2:z < lo
   ·rw [decide_eq_true c2];exact cT (cT (fin _ (by rw [ni,if_pos (.inr (.inl c2))]; rfl)))
   ·rw [decide_eq_false c2];refine c9 ⟨_,rfl,_,rfl,_,_,rfl,rfl,_,rfl,?_⟩
    by_cases c3:hi < z
    ·rw [decide_eq_true c3];exact cT (fin _ (by rw [ni,if_pos (.inr (.inr c3))]; rfl))
    ·rw [decide_eq_false c3];refine c9 ?_;dsimp only [dX];refine dR ⟨_,rfl,fin _ ?_⟩;rw [ni,if_neg]
     ·rfl
     ·rintro (y | y | y)
      ·exact y c1
      ·exact c2 y
      ·exact c3 y
  ·rw [decide_eq_false c1];exact cT (cT (fin _ (by rw [ni,if_pos (.inl c1)]; rfl)))
 ·refine fin _ ?_;unfold gK;rw [if_neg (by omega),hz];rfl
def IM:Sp:=fun vs H Q _=>∃ x:Str,vs=[.str x]/\(∀ c∈x.cps.toList,c < 128)/\x.length<=1000/\∀ H',cO H H'->Q (x8 (gK x (-(10 ^ 15)) (10 ^ 15))) H'
abbrev nWi:List Str:=["word"]
abbrev pWi:List Str:=["word"]
theorem scWi:cK nWi pWi (aZ ng):={}
theorem Hd (D:Df K mg "worth_in" ng pWi f fd) (DN:Df K mg "number_in" jf pNi fN fdN) (B:Bl mg) (MV:mg "ValueError"=none):dP P w K mg base CX0 2 f fd pWi IM:=by
 have GN:dP P w K mg base CX0 1 fN fdN pNi FW:=Ek DN B MV;refine D.F.okC scWi (fun vs H Q E h=>?_) (fun cdv A outer s H vs Q E hr h=>?_)
 ·obtain ⟨x,rfl,_⟩:=h;rfl
 obtain ⟨x,rfl,asc,xl,q⟩:=h;have r1:dj 1 _:=hr;refine ⟨_,hJ (pQ (dq GN r1 (by rfl) DN.m DN.F.kp DN.b .nil bM (bD (pv 0) (ft (AA xo (bI qt aq aq)) (hU (bI qt aq aq) aj))))),?_⟩;refine dR ?_;have cp:EO 10 15:=⟨by decide,by decide,by decide⟩;refine ⟨_,rfl,_,_,rfl,rfl,cp,_,rfl,_,_,rfl,rfl,cp,?_⟩;exact ⟨x,-(10 ^ 15),10 ^ 15,rfl,asc,xl,q⟩
theorem B1 (x:Str):(eV x (some 1) none).length<=x.length:=Ai x _ _
def spLf:Sp:=fun vs H Q _=>∃ x:Str,vs=[.str x]/\(∀ c∈x.cps.toList,c < 128)/\x.length<=1000/\∀ H' v,cO H H'->(match leafOf x with | none=>v=.non | some g=>jz H' g v)->Q v H'
abbrev nLf:List Str:=["word","name","worth"]
abbrev pLf:List Str:=["word"]
theorem IP:cK nLf pLf (aZ qT):={}
theorem He (D:Df K mg "leaf_of" qT pLf f fd) (DW:Df K mg "worth_in" ng pWi fW fdW) (DN:Df K mg "number_in" jf pNi fN fdN) (DI:Df K mg "is_name" jM pNm fI fdI) (B:Bl mg) (MV:mg "ValueError"=none) (MA:mg "all"=none):dP P w K mg base CX0 3 f fd pLf spLf:=by
 have GW:dP P w K mg base CX0 2 fW fdW pWi IM:=Hd DW DN B MV;have GI:cW P w K mg base CX0 2 fI fdI pNm B0:=(A2 DI B MA).mono (by omega);refine D.F.okC IP (fun vs H Q E h=>?_) (fun cdv A outer s H vs Q E hr h=>?_)
 ·obtain ⟨x,rfl,_⟩:=h;rfl
 obtain ⟨x,rfl,asc,xl,q⟩:=h;have r2:dj 2 _:=hr;refine ⟨_,aR (du (bh eD (pv 0) aB (bR _)) (aO (bO (fK (bo aB aj)))) bX).c
  (aR (bJ (i:=1) IP.nd rfl (Or.inl rfl) (gu Dq (pv 0) (gM aq) iY)).c
  (aR (du ((pB (jF (gJ bK me mf tF (pv 0) (bo aB aj))) (og (jF (br GI r2 (by rfl) DI.m DI.F.kp DI.b .nil bM (bD (pv 1) aj))))).pt) (aO (bO (fK (bo aB (bD (pv 1) aj))))) bX).c
  (aR (du ((pB (jF (gJ bK me mf tF (pv 0) (bo aB aj))) (og (jF (br GI r2 (by rfl) DI.m DI.F.kp DI.b .nil bM (bD (pv 1) aj))))).pt) (aO (bO (fK (bo aB (bD (pv 1) aj))))) bX).c
  (aR (du ((jv (bh eD (pv 0) aB (bR _)) (i7 (bh eD (pv 0) aB (bR _)))).pt) (aO (bO (fK (bo aB (iM (iO xP (by rfl) B.int boot_int (bD (pv 1) aj)) aj))))) bX).c
  (aR (iG (i:=2) IP.nd rfl (Or.inl rfl) (dq GW r2 (by rfl) DW.m DW.F.kp DW.b .nil bM (bD (pv 0) aj)))
  (aO (bO (oU (bh j3 (pv 2) dJ (bR _)) dJ (fK (bo aB (bD (pv 2) aj)))))).c))))),?_⟩
 have big:=dC;have sl:∀ xs:List V,xs.length<=2->xs.length<=aw:=fun xs h=>by omega
 have tup:∀ {G:Hp} {xs:List V} {g:Fo},cO H G->leafOf x=some g->(∀ G' t,G' t=some (.tup xs)->jz G' g (.ref t))->xs.length<=2->xs.length<=aw/\∀ p,G p=none->Q (.ref p) (upd G p (.tup xs)):=fun {G xs g} sG e hg hl=>⟨sl xs hl,fun p hp=>q _ _ (sG.trans (ax hp _)) (by rw [e]; exact hg _ p ao)⟩;refine aH ?_;refine ⟨_,rfl,rfl,_,rfl,?_⟩;rw [rP]
 by_cases c1:x="@"
 ·rw [decide_eq_true c1];refine cT (dR (tup (g:=.now) (cO.refl _) (by unfold leafOf; rw [if_pos c1]) (fun G' t e=>.now e) (by decide)))
 rw [decide_eq_false c1];refine c9 ?_;dsimp only [dX];refine aH (bW ⟨_,rfl,_,rfl,x,rfl,by omega,aF ?_⟩);dsimp only;have yl:=B1 x;have lf:leafOf x=if sw x "." && dW (eV x (some 1) none) then some (.box (eV x (some 1) none)) else
   if sw x "#" && dW (eV x (some 1) none) then some (.long (eV x (some 1) none)) else
   if x="$0" then some (.got 0) else if x="$1" then some (.got 1) else (gK x (-(10 ^ 15)) (10 ^ 15)).map .num:=by
  conv=>lhs; unfold leafOf
  rw [if_neg c1]
 have y0:x="$0"->dI (eV x (some 1) none)=some 0/\x.length=2:=fun e=>by rw [e]; decide +kernel
 have y1:x="$1"->dI (eV x (some 1) none)=some 1/\x.length=2:=fun e=>by rw [e]; decide +kernel
 generalize eV x (some 1) none=y at yl lf y0 y1 |-
 have two:∀ {k:Str} {a b:TS} {D:Ends} {G:Hp} {σ:St} {K':ai},σ[0]?=some (some (.str x))->σ[1]?=some (some (.str y))->(∀ G',cO G G'->(sw x k && dW y)=true->a D σ G')->(∀ G',cO G G'->(sw x k && dW y)=false->b D σ G') ->
   vO (HN (tB (tBM K' "str" (fun x vs H Q=>∃ t z,x=V.str t/\vs=[V.str z]/\Q (V.bl (sw t z)) H) (kF 0) (gS (tC (V.str k)) q9))) (tB (AI B0 [] E0 (gS (kF 1) q9)))) a b D σ G:=fun {k a b D G σ K'} h0 h1 ha hb=>by
  refine ⟨_,h0,rfl,x,k,rfl,rfl,_,rfl,?_⟩
  cases e1:sw x k with
  | false =>
   refine c9 (c9 (hb G (cO.refl _) ?_));rw [e1];rfl
  | true =>
   refine cT ⟨_,h1,y,rfl,by omega,fun G' s'=>⟨_,rfl,?_⟩⟩
   cases e2:dW y with
   | false=>exact c9 (hb G' s' (by rw [e1,e2]; rfl))
   | true=>exact cT (ha G' s' (by rw [e1,e2]; rfl))
 refine aH (two rfl rfl (fun G1 s1 e=>?_) (fun G1 s1 n1=>?_))
 ·exact ⟨_,rfl,tup (g:=.box y) s1 (by rw [lf,if_pos e]) (fun G' t e=>.box e) (ay 2)⟩
 dsimp only [dX];rw [if_neg (by rw [n1]; exact aX)] at lf;refine aH (two rfl rfl (fun G2 s2 e=>?_) (fun G2 s2 n2=>?_))
 ·exact ⟨_,rfl,tup (g:=.long y) (s1.trans s2) (by rw [lf,if_pos e]) (fun G' t e=>.long e) (ay 2)⟩
 dsimp only [dX];rw [if_neg (by rw [n2]; exact aX)] at lf;have s02:=s1.trans s2;refine aH ?_;refine ⟨_,rfl,rfl,_,rfl,?_⟩;rw [rP]
 by_cases c2:x="$0"
 ·rw [decide_eq_true c2];refine cT (cT (dR ⟨_,rfl,y,0,rfl,(by have:=(y0 c2).2; omega),(y0 c2).1,tup (g:=.got 0) s02 (by rw [lf,if_pos c2]) (fun G' t e=>.got e) (by decide)⟩))
 rw [decide_eq_false c2];rw [if_neg c2] at lf;refine c9 ⟨_,rfl,rfl,_,rfl,?_⟩;rw [rP]
 by_cases c3:x="$1"
 ·rw [decide_eq_true c3];refine cT (dR ⟨_,rfl,y,1,rfl,(by have:=(y1 c3).2; omega),(y1 c3).1,tup (g:=.got 1) s02 (by rw [lf,if_pos c3]) (fun G' t e=>.got e) (by decide)⟩)
 rw [decide_eq_false c3];rw [if_neg c3] at lf;refine c9 ?_;dsimp only [dX];refine aH (bW ⟨_,rfl,x,rfl,asc,xl,fun G3 s3=>aF ?_⟩);dsimp only;have s03:=s02.trans s3;refine dR ⟨_,rfl,rfl,_,rfl,?_⟩
 cases e:gK x (-(10 ^ 15)) (10 ^ 15) with
 | none =>
  rw [e] at lf;refine cT (q _ _ s03 ?_);rw [lf];rfl
 | some z =>
  rw [e] at lf;refine c9 ⟨_,rfl,tup (g:=.num z) s03 lf (fun G' t e=>.num e) (ay 2)⟩
end
theorem tV (w:Str):∀ D:List (Str×Str),sP w (xI D)=(D.lookup w).isSome
 | []=>rfl
 |(x,y) :: D=>by
  have ih:=tV w D
  by_cases c:w=x
  ·subst c;rw [show (dU w ((w,y) :: D))=some y by simp [dU]];exact xJ (m:=y) (by simp [dU])
  ·have e:(w == x)=false:=beq_eq_false_iff_ne.mpr c;rw [show dU w ((x,y) :: D)=dU w D by simp only [dU,e],<- ih];simp [xI,sP,c]
   try (exact fun z=>absurd z.symm c)
theorem vA:∀ {ws:List Str} {k:Nat},i4 (ws.drop k)=none->i4 ws=none
 | ws,0,h=>h
 | [],k + 1,h=>h
 | w :: ws,k + 1,h=>by
  show (i4 ws).bind _=none;rw [vA (show i4 (ws.drop k)=none from h)];rfl
def kA (ws:List Str) (cnt:Nat):Option (List Fo):=if 15 * cnt < ws.length then none else
 match i4 ws with
 | none=>none
 | some st=>if st.length≠cnt\/∃ g∈st,15 < g.n then none else some st
def fsV (H:Hp):Option (List Fo)->V->Prop
 | none,v=>v=.non
 | some st,v=>∃ p us,v=.ref p/\H p=some (.lst us)/\cL (jz H) st us
theorem ny {α β:Type} {R:α->β->Prop}:∀ {xs xs':List α} {ys ys':List β},cL R xs ys->cL R xs' ys'->cL R (xs++xs') (ys++ys')
 | _,_,_,_,.nil,k=>k
 | _,_,_,_,.cons h t,k=>.cons h (ny t k)
theorem qG {α β:Type} {R:α->β->Prop}:∀ {xs:List α} {x:α} {ys:List β},cL R (xs++[x]) ys->∃ ys' y,ys=ys'++[y]/\cL R xs ys'/\R x y
 | [],x,_,.cons h .nil=>⟨[],_,rfl,.nil,h⟩
 | a :: xs,x,_,.cons h t=>by
  obtain ⟨ys',y,rfl,k1,k2⟩:=qG t;exact ⟨_ :: ys',y,rfl,.cons h k1,k2⟩
theorem iw {α β:Type} {R:α->β->Prop}:∀ {xs:List α} {ys:List β} {i:Nat} {y:β},cL R xs ys->ys[i]?=some y->∃ x,xs[i]?=some x/\R x y
 | _,_,0,_,.cons h _,e=>⟨_,rfl,by cases e; exact h⟩
 | _,_,i + 1,_,.cons _ t,e=>iw (i:=i) t e
 | _,_,i,_,.nil,e=>by cases i <;> cases e
theorem vB {α β:Type} {R:α->β->Prop}:∀ {xs:List α} {ys:List β},cL R xs ys->cL R xs.reverse ys.reverse
 | _,_,.nil=>.nil
 | _,_,.cons h t=>by
  rw [gv,gv];exact ny (vB t) (.cons h .nil)
theorem qH:∀ {ws:List Str} {st:List Fo},i4 ws=some st->(st.map Fo.n).sum=ws.length
 | [],st,h=>by
  cases h;rfl
 | w :: ws,st,h=>by
  have h':(i4 ws).bind (iu w)=some st:=h;obtain ⟨s1,h1,h2⟩:=pq.mp h';have ih:=qH h1;unfold iu at h2
  split at h2
  ·rename_i g e
   cases h2;rw [bY,fX,aG,ih];have:g.n=1:=by
    unfold leafOf at e
    repeat' split at e
    all_goals first
     |(cases e; rfl)
     |(obtain ⟨z,_,rfl⟩:=dy.mp e; rfl)
   omega
  ·split at h2
   ·rename_i _ k a b r e
    cases h2;rw [bY,bY,fX,fX] at ih;rw [bY,fX,aG];show 1 + a.n + b.n + _=_;omega
   ·cases h2
theorem w5:∀ st:List Fo,st.length<=(st.map Fo.n).sum
 | []=>ay _
 | g :: r=>by
  rw [bY,fX,aG];have:=g.pos;have:=w5 r;omega
theorem FY {ws:List Str} {st:List Fo} (h:i4 ws=some st):∀ g∈st,g.n<=ws.length:=fun g hg=>by
 rw [<- qH h];obtain ⟨a,b,rfl⟩:=List.append_of_mem hg;rw [bA,mG,bY,fX];omega
section
variable {P:aQ} {w:bT} {K:ai} {mg:Str->Option ag} {base:cP} {f fL fP fF:ak} {fd fdL fdP fdF:cF} {aK:ak} {tMP:Tok}
seal PS PSs PE PA PT PW PI PG PGs PC PSC PSsC PEC
def WsIn (H:Hp) (l:ak) (ws:List Str):Prop:=H l=some (.lst (ws.map V.str))/\∀ x∈ws,(∀ c∈x.cps.toList,c < 128)/\x.length<=1000
inductive Hf (vs:List V) (H:Hp) (Q:VK) (_e:XK):Prop where
 | mk (l:ak) (ws:List Str) (cnt:Nat) (_:vs=[.ref l,.int cnt]) (_:WsIn H l ws) (_:1<=cnt) (_:cnt<=4) (_:∀ H' v,cO H H'->fsV H' (kA ws cnt) v->Q v H'):Hf vs H Q _e
def IQ:Sp:=fun vs H Q _e=>Hf vs H Q _e
abbrev nFi:List Str:=["words","count","found","word","formula","first"]
abbrev pFi:List Str:=["words","count"]
theorem B2:cK nFi pFi (aZ iQ):={}
abbrev nnFi:List Str:=["words","count","found","word","-","first"]
theorem ndFi:((["formula"]:List Str)++nnFi).Nodup:=by decide +kernel
theorem Hg (D:Df K mg "formulas_in" iQ pFi f fd) (DL:Df K mg "leaf_of" qT pLf fL fdL) (GL:dP P w K mg base CX0 3 fL fdL pLf spLf) (DP:Df K mg "parts_in" mZ pPi fP fdP) (B:Bl mg) (MR:mg "reversed"=none)
  (hK:mg "KINDS"=some (.ref aK)) (hTK:Tab K aK wW) (hMP:mg "MOST_PARTS"=some (.int 15 tMP)):dP P w K mg base CX0 61 f fd pFi IQ:=by
 have GP:cW P w K mg base CX0 60 fP fdP pPi (FU 60):=Hb DP B 60 (by decide);refine D.F.okC B2 (fun vs H Q E h=>?_) (fun cdv A outer s H vs Q E hr h=>?_)
 ·obtain ⟨l,ws,cnt,rfl,_⟩:=h;rfl
 obtain ⟨l,ws,cnt,rfl,⟨hl,hw⟩,c1,c60,q⟩:=h;have r3:dj 3 _:=hr.mono (by decide);have r18:dj 60 _:=hr;refine ⟨_,aR (du (bh tK (cR (dz K (by rfl)) (by rfl) B.len bE (bD (pv 0) aj)) (bI rE (kP (v:=.int 15) (by rfl) hMP ⟨_,rfl⟩) (pv 1)) (bR _)) (aO (bO dJ)) bX).c
  (aR (bJ (i:=2) B2.nd rfl (Or.inl rfl) (cA aj)).c
  (aR (ur c8 rfl (ID (by rfl) MR (bD (pv 0) aj)) (df (i:=3) B2.nd rfl (Or.inl rfl)) (aR (iG (i:=4) B2.nd rfl (Or.inl rfl) (dq GL r3 (by rfl) DL.m DL.F.kp DL.b .nil bM (bD (pv 3) aj)))
  (aE (du (bh j3 (pv 4) dJ (bR _)) (aE (du ((jv (bh (yQ hTK) (pv 3) (kP (v:=.ref aK) (by rfl) hK rfl) (by with_unfolding_all rfl)) (i7 (bh om (cR (dz K (by rfl)) (by rfl) B.len bE (bD (pv 2) aj)) aq (bR _)))).pt) (aO (bO dJ)) bX)
  (aE (bJ (i:=5) B2.nd rfl (Or.inl rfl) (CP bZ yn yo CT (pv 2)))
  (aO (bJ (i:=4) B2.nd rfl (Or.inl rfl) (fK (gF (cg (Iv hTK) (kP (v:=.ref aK) (by rfl) hK rfl) (pv 3) (fun _ _=>rfl)) (bD (pv 5) (iM (CP bZ yn yo CT (pv 2)) aj)))))))) bX)
  (aO (fZ (gJ bZ cB cC fw (pv 2) (bD (pv 4) aj))))).c))
  (aE (du ((jv (bh wo (cR (dz K (by rfl)) (by rfl) B.len bE (bD (pv 2) aj)) (pv 1) (bR _)) (i7 (bh tK (cR (BH rfl) (by rfl) B.max boot_max (ft (lR ["formula"] (hW.open (NN:=nnFi) (N:=nFi) (sc:=aZ iQ) rfl rfl (by decide +kernel) rfl (by decide +kernel) (by decide +kernel) rfl (by decide +kernel)) rfl (gx (pv 2)) (fun _ _ _ _=>df (i:=0) ndFi rfl (Or.inl rfl)) (fun _ _ _ _=>jr) (fun _ _ _ _=>br GP r18 (by rfl) DP.m DP.F.kp DP.b .nil bM (bD (pv 0) aj))) aj)) (kP (v:=.int 15) (by rfl) hMP ⟨_,rfl⟩) (bR _)))).pt) (aO (bO dJ)) bX)
  (aO (bO (Aj rfl (by rfl) MR (by rfl) B.list (pv 2))))).c)),?_⟩
 have big:=dC;refine aH ?_;refine ⟨_,rfl,l,_,rfl,.inl (SqL.of hl),_,rfl,_,_,rfl,rfl,.inl ⟨by decide,by decide⟩,_,_,rfl,rfl,_,rfl,?_⟩;rw [aa];have none_:∀ {G:Hp},cO H G->kA ws cnt=none->Q .non G:=fun {G} sG e=>q G .non sG (by rw [e]; rfl)
 rcases nV (15 * cnt) ws.length with c | c
 ·rw [decide_eq_true (show (15:Int) * (cnt:Int) < (ws.length:Int) by omega)];refine cT (none_ (cO.refl _) ?_);unfold kA;rw [if_pos c]
 rw [decide_eq_false (show ¬ (15:Int) * (cnt:Int) < (ws.length:Int) by omega)];refine c9 ?_;have fi:kA ws cnt=match i4 ws with
   | none=>none
   | some st=>if st.length≠cnt\/∃ g∈st,15 < g.n then none else some st:=by
  unfold kA;rw [if_neg (by omega)]
 dsimp only [dX];refine aH (bW ⟨aU _,fun p hp=>aF ?_⟩);dsimp only;have nlp:l≠p:=bF hl hp;refine aH ?_;have wl:(ws.map V.str).length=ws.length:=aa ..;refine ⟨_,rfl,l,ws.map V.str,rfl,SqL.of (ax hp (.lst []) _ _ hl),Fw (fun i σ G=>∃ (st:List Fo) (us:List V) (v3 v4 v5:Option V),σ=[some (.ref l),some (.int cnt),some (.ref p),v3,v4,v5]/\G p=some (.lst us)/\cL (jz G) st.reverse us/\i4 (ws.drop (ws.length - i))=some st/\cO H G)
  ⟨[],[],none,none,none,rfl,ao,.nil,by rw [zZ,lC]; rfl,ax hp _⟩ ?_ ?_ ?_⟩
 ·rintro i σ G hi ⟨st,us,v3,v4,v5,rfl,h1,h2,h3,h4⟩;exact SqL.of (h4 _ _ hl)
 ·rintro i x σ G hx hi ⟨st,us,v3,v4,v5,rfl,h1,h2,h3,h4⟩;rw [wl] at hx hi;obtain ⟨y,hy,rfl⟩:∃ y,ws[ws.length - 1 - i]?=some y/\x=V.str y:=by
   rw [cb] at hx;obtain ⟨y,e1,e2⟩:=dy.mp hx;exact ⟨y,e1,e2.symm⟩
  obtain ⟨ya,yl⟩:=hw y (bw hy);have dr:ws.drop (ws.length - (i + 1))=y :: ws.drop (ws.length - i):=by
   have e:ws.length - (i + 1)=ws.length - 1 - i:=by omega
   have lt:ws.length - 1 - i < ws.length:=by omega
   rw [e,xV lt,show ws.length - 1 - i + 1=ws.length - i by omega];rw [aL lt] at hy;rw [bC hy]
  have pn:i4 (ws.drop (ws.length - (i + 1)))=iu y st:=by
   rw [dr];show (i4 (ws.drop (ws.length - i))).bind (iu y)=_;rw [h3];rfl
  have ul:=kW h2;rw [iz] at ul;refine aF ?_;dsimp only;refine aH (bW ⟨_,rfl,y,rfl,ya,yl,fun G1 v s1 hv=>aF ?_⟩);dsimp only;have s01:=h4.trans s1;have hp1:=s1 _ _ h1;have nt:∀ {o:HO},cO H (upd G1 p o):=fun {o} b u e=>by
   rw [aT (bF e hp)];exact s01 _ _ e
  have tk:∀ {o:HO} {xs:List V} {t:ak},G1 t=some (.tup xs)->(upd G1 p o) t=some (.tup xs):=fun {o xs t} e=>by
   rw [aT fun z=>by rw [z,hp1] at e; cases e];exact e
  have ul2:us.length<=1000:=by
   have:=qH h3;have l2:=w5 st;rw [ee] at this;omega
  refine aH ⟨_,rfl,rfl,_,rfl,?_⟩
  cases lf:leafOf y with
  | some g =>
   rw [lf] at hv;have pg:i4 (ws.drop (ws.length - (i + 1)))=some (g :: st):=by
    rw [pn];unfold iu;rw [lf]
   obtain ⟨t,xs,rfl,ht,_⟩:=jz.tup hv;rw [decide_eq_false (fun z=>by cases z)];refine c9 ?_;dsimp only [dX];refine ⟨_,rfl,.inl ⟨rfl,_,SqL.of hp1⟩,_,rfl,p,us,_,rfl,rfl,hp1,by omega,?_⟩;refine ⟨g :: st,us++[.ref t],_,_,_,rfl,ao,?_,pg,nt⟩;rw [gv];exact ny (iJ (fun _ _ z=>z.up fun t xs e=>tk (s1 _ _ e)) h2) (.cons (hv.up fun t xs e=>tk e) .nil)
  | none =>
   rw [lf] at hv
   cases hv;rw [decide_eq_true rfl];refine cT ?_;have bad:(wW.lookup y=none\/st.length < 2)->kA ws cnt=none:=fun z=>by
    have e:iu y st=none:=by
     unfold iu;rw [lf];dsimp only
     split
     ·rename_i k a b r e1
      rcases z with z | z
      ·rw [z] at e1
       cases e1
      ·rw [aG,aG] at z;omega
     ·rfl
    rw [fi,vA (pn.trans e)]
   refine aH ⟨_,rfl,y,rfl,rfl,_,rfl,?_⟩;rw [tV]
   cases hk:wW.lookup y with
   | none=>exact cT (cT (none_ s01 (bad (.inl hk))))
   | some k =>
    refine c9 ⟨_,rfl,p,us,rfl,.inl (SqL.of hp1),_,_,rfl,rfl,_,rfl,?_⟩
    rcases nV us.length 2 with c2 | c2
    ·rw [decide_eq_true (show ((us.length:Nat):Int) < 2 by omega)];exact cT (none_ s01 (bad (.inr (by omega))))
    rw [decide_eq_false (show ¬ ((us.length:Nat):Int) < 2 by omega)];refine c9 ?_;dsimp only [dX];obtain ⟨a,b,r,rfl⟩:∃ a b r,st=a :: b :: r:=by
     match st,ul with
     | [],e=>rw [<- e] at c2; exact absurd c2 (by decide)
     | [_],e=>rw [<- e] at c2; exact absurd c2 (show ¬ 1 ≥ 2 by decide)
     | a :: b :: r,_=>exact ⟨a,b,r,rfl⟩
    rw [gv,gv] at h2;obtain ⟨us1,ua,rfl,h21,fa⟩:=qG h2;obtain ⟨us2,ub,rfl,h22,fb⟩:=qG h21;have pg:i4 (ws.drop (ws.length - (i + 1)))=some (.two k y a b :: r):=by
     rw [pn];unfold iu;rw [lf,hk]
    have last:∀ (zs:List V) (z:V),(zs++[z])[(zs++[z]).length - 1]?=some z:=fun zs z=>by
     rw [af,kZ,C5,cG (ay _),iV];rfl
    refine aH (bW ⟨_,rfl,.inl ⟨rfl,_,SqL.of hp1⟩,p,_,ua,rfl,rfl,hp1,last _ _,aF ?_⟩);dsimp only;rw [A3];have e2:upd G1 p (.lst (us2++[ub])) p=some (.lst (us2++[ub])):=ao;refine bW ⟨_,rfl,y,k,rfl,rfl,hk,_,rfl,_,rfl,.inl ⟨rfl,_,SqL.of e2⟩,p,_,ub,rfl,rfl,e2,last _ _,by show 3<=aw; omega,fun t ht=>aF ?_⟩;dsimp only;rw [A3] at ht |-;have ntp:t≠p:=fun z=>by rw [z,ao] at ht; cases ht
    have tn:G1 t=none:=by
     rw [aT ntp,aT ntp] at ht;exact ht
    have e3:upd (upd (upd G1 p (.lst (us2++[ub]))) p (.lst us2)) t (.tup [.str k,ua,ub]) p=some (.lst us2):=by
     rw [aT ntp.symm,ao]
    refine ⟨_,rfl,.inl ⟨rfl,_,SqL.of e3⟩,_,rfl,p,us2,_,rfl,rfl,e3,?_,?_⟩
    ·rw [af,af] at ul2;omega
    have kp:∀ {o:HO} {b:ak} {u:HO},b≠p->G1 b=some u->upd (upd (upd (upd G1 p (.lst (us2++[ub]))) p (.lst us2)) t (.tup [.str k,ua,ub])) p o b=some u:=fun {o b u} nb e=>by
     rw [aT nb,aT (bF e tn),aT nb,aT nb];exact e
    have kt:∀ {o:HO} {xs:List V} {z:ak},G1 z=some (.tup xs)->upd (upd (upd (upd G1 p (.lst (us2++[ub]))) p (.lst us2)) t (.tup [.str k,ua,ub])) p o z=some (.tup xs):=fun {o xs z} e=>kp (fun y=>by rw [y,hp1] at e; cases e) e;refine ⟨.two k y a b :: r,us2++[.ref t],_,_,_,rfl,ao,?_,pg,fun b u e=>kp (bF e hp) (s01 _ _ e)⟩;rw [gv];refine ny (iJ (fun _ _ z=>z.up fun t xs e=>kt (s1 _ _ e)) h22) (.cons (.two ?_ (fa.up fun t xs e=>kt (s1 _ _ e)) (fb.up fun t xs e=>kt (s1 _ _ e))) .nil);rw [aT ntp,ao]
 ·rintro σ G ⟨st,us,v3,v4,v5,rfl,h1,h2,h3,h4⟩;rw [wl,iV] at h3;have h3':i4 ws=some st:=h3;rw [h3'] at fi;dsimp only at fi;have ul:=kW h2;rw [iz] at ul;refine aH ?_;refine ⟨_,rfl,p,us,rfl,.inl (SqL.of h1),_,rfl,rfl,_,rfl,?_⟩;rw [BZ]
  by_cases c2:us.length=cnt
  rotate_left
  ·rw [decide_eq_false (by omega)];exact cT (cT (none_ h4 (by rw [fi,if_pos (.inl (by omega))])))
  rw [decide_eq_true (by omega)];refine c9 ?_;dsimp only [sf,tOp,tCB,gS];have pl:=FY h3';refine vp (a:=p) (xs:=us) (fun R hR=>⟨_,rfl,hR⟩) (SqL.of h1) (fun i ys G'=>ys=(st.reverse.take i).map (fun g=>V.int g.n)/\cO G G') ⟨rfl,cO.refl _⟩ ?_ ?_ ?_
  ·rintro i ys G' hi ⟨rfl,s'⟩;refine ⟨SqL.of (s' _ _ h1),?_⟩;rw [aa,bP];omega
  ·rintro i x ys G' hx ⟨rfl,s'⟩;refine aF ⟨rfl,?_⟩;unfold t8;refine cT ?_;obtain ⟨g,hg,hf⟩:=iw h2 hx;have gm:g∈st:=p8.mp (bw hg);have:=pl g gm;refine ⟨_,rfl,g,x,rfl,hf.same s',by omega,fun G2 s2=>⟨?_,s'.trans s2⟩⟩;rw [Ej,hg,bA];rfl
  ·rintro ys G' ⟨rfl,s'⟩ l2 hl2;rw [show us.length=st.reverse.length by rw [iz]; omega,cD];have s2:=s'.trans (ax hl2 (.lst (st.reverse.map (fun g=>V.int g.n))));refine ⟨l2,st.reverse.map (fun g=>(g.n:Int)),rfl,SqL.of (by rw [Jl]; exact ao),?_,fun M hM le=>⟨M,15,rfl,rfl,_,rfl,?_⟩⟩
   ·intro z;have z':=congrArg iK z;rw [aa,iz] at z';have:([]:List Int).length=0:=rfl;omega
   ·obtain ⟨g,hg,rfl⟩:=cu.mp hM;have hg':=p8.mp hg
    by_cases c3:15 < g.n
    ·rw [decide_eq_true (show (15:Int) < (g.n:Int) by omega)];exact cT (none_ (h4.trans s2) (by rw [fi,if_pos (.inr ⟨g,hg',c3⟩)]))
    ·rw [decide_eq_false (show ¬ (15:Int) < (g.n:Int) by omega)];refine c9 ?_;dsimp only [dX];have fi2:kA ws cnt=some st:=by
      rw [fi,if_neg];rintro (z | ⟨g',m',z⟩)
      ·omega
      ·have:=le (g'.n:Int) (cu.mpr ⟨g',p8.mpr m',rfl⟩);omega
     refine dR ⟨_,rfl,p,us,rfl,SqL.of (s2 _ _ h1),fun l3 hl3=>?_⟩;have s3:=s2.trans (ax hl3 (.lst us.reverse));refine q _ _ (h4.trans s3) ?_;rw [fi2];have pr:=vB h2;rw [List.reverse_reverse] at pr;exact ⟨l3,us.reverse,rfl,ao,iJ (fun _ _ z=>z.same s3) pr⟩
end
inductive De where
 | fin
 | three (k x:Str) (f:Fo)
 | send (z:Int) (x:Str) (f1:Fo) (y:Int) (f2 f3:Fo)
 | pull (x y:Str) (ds:List De)
 | iff (f:Fo) (as bs:List De)
structure Mo where
 nm:Str
 bx:List (Str×Int)
 qs:List Str
 dr:List Int
 hr:List (Str×List De)
def dD (d:Nat):Str:=⟨(aJ d ("  ":Str).cps).foldl (·++·) #[]⟩
def cH (L:List Str) (i d:Nat):List Str:=match L[i]? with
 | none=>[""]
 | some l=>if sw l (dD d) then hZ (eV l (some ((2 * d:Nat):Int)) none) " " else [""]
def ek (L:List Str) (i d:Nat) (kind:Str) (cnt:Nat) (names:List Str):Option (List Str):=
 if (cH L i d).length=cnt/\(cH L i d)[0]?=some kind/\((cH L i d)[1]?.any fun w=>dW w && !decide (w∈names))=true then some (cH L i d) else none
structure WOk (ws:List Str):Prop where
 ne:ws≠[]
 many:ws.length<=900
 ok:∀ w∈ws,(∀ c∈w.cps.toList,c < 128)/\w.length<=1000
structure LOk (L:List Str):Prop where
 len:∀ x∈L,x.length<=5000
 many:L.length<=20000
 ws:∀ i d,d<=7->WOk (cH L i d)
def LsI (C:ak) (H:Hp) (s l:ak) (L:List Str) (i c:Nat):Prop:=(∃ dx,H s=some (.ins C dx [("lines",.ref l),("place",.int i),("deed_count",.int c)]))/\H l=some (.lst (L.map V.str))
theorem LsI.same {C:ak} {H H':Hp} {s l:ak} {L:List Str} {i c:Nat} (h:LsI C H s l L i c) (k:cO H H'):LsI C H' s l L i c:=by
 obtain ⟨⟨dx,e⟩,e2⟩:=h;exact ⟨⟨dx,k _ _ e⟩,k _ _ e2⟩
theorem LsI.ne {C:ak} {H:Hp} {s l:ak} {L:List Str} {i c:Nat} (h:LsI C H s l L i c):l≠s:=fun z=>by
 obtain ⟨⟨dx,e⟩,e2⟩:=h;rw [z,e] at e2
 cases e2
structure LT (K:ai) (mg:Str->Option ag) (C:ak):Prop where
 cl:Cls K C
 nL:oG K C "lines"
 nP:oG K C "place"
 nD:oG K C "deed_count"
 m:mg "Lines"=some (.ref C)
structure Mt (K:ai) (C:ak) (x qual:Str) (st:di) (ps:List Str) (f:ak) (fd:cF):Prop where
 F:Fun K x qual st f fd
 b:Binds K fd ps []
 m:Bp K C x f
theorem eF {α:Type} {x:Option α} (h:∀ o,x≠some o):x=none:=by
 cases x with
 | none=>rfl
 | some o=>exact absurd rfl (h o)
theorem fU {s:ak} {H G:Hp} (k:cO H G):But s H G:=fun b o e _=>k b o e
theorem vC (x:Str) (xs:List Str):inV (.str x) (xs.map V.str)=decide (x∈xs):=by
 unfold inV
 induction xs with
 | nil=>rfl
 | cons y xs ih =>
  rw [bY,jL,ih];have e:eqV (.str y) (.str x)=decide (x=y):=by
   by_cases c:x=y
   ·subst c;rw [decide_eq_true rfl];simp [eqV]
   ·rw [decide_eq_false c];simp [eqV];exact fun z=>c z.symm
  rw [e]
  by_cases c:x=y
  ·subst c;simp
  ·simp [c]
theorem jJ (d:Nat):(dD d).length=2 * d:=by
 show ((aJ d ("  ":Str).cps).foldl (·++·) #[]).size=_;rw [vi];show 0 + d * 2=2 * d;omega
def linesOf (x:Str):List Str:=if x="" then [] else hZ x "\n"
section
variable {P:aQ} {w:bT} {K:ai} {mg:Str->Option ag} {base:cP} {f fB fW fI fL C:ak} {fd fdB fdW fdI fdL:cF}
seal PS PSs PE PA PT PW PI PG PGs PC PSC PSsC PEC PTC PAC PPs
def spLo:Sp:=fun vs H Q _=>∃ x:Str,vs=[.str x]/\x.length<=100000/\∀ (l:ak) (H':Hp),H l=none->cO H H'->H' l=some (.lst ((linesOf x).map V.str))->Q (.ref l) H'
abbrev nLo:List Str:=["text"]
abbrev pLo:List Str:=["text"]
theorem scLo:cK nLo pLo (aZ pR):={}
theorem ok_lo (D:Df K mg "lines_of" pR pLo f fd):cW P w K mg base CX0 1 f fd pLo spLo:=by
 refine D.F.ok scLo (fun vs H Q E h=>?_) (fun cdv A outer s H vs Q E hr h=>?_)
 ·obtain ⟨x,rfl,_⟩:=h;rfl
 obtain ⟨x,rfl,hl,q⟩:=h;refine ⟨_,aO (bO (oU (uI (pv 0) (fun _=>rfl)) (gJ bK kh kj sD (pv 0) (bo aB aj)) (cA aj))),?_⟩;have big:100000 < aw:=by decide
 by_cases c:x=""
 ·subst c;refine dR ⟨_,rfl,false,⟨by decide,by decide⟩,c9 ⟨aU _,fun l hl=>q l _ hl (ax hl _) ?_⟩⟩;rw [ao];rfl
 ·have e:((x.length:Int) != 0)=true:=by
   have:x.length≠0:=fun z=>c (iI (k8 z));simp only [bne_iff_ne,ne_eq];omega
  refine dR ⟨_,rfl,true,⟨by omega,e.symm⟩,cT ⟨_,rfl,rfl,_,_,rfl,rfl,by decide,hl,fun l hl=>q l _ hl (ax hl _) ?_⟩⟩;rw [ao];unfold linesOf;rw [if_neg c]
inductive Hh (C:ak) (vs:List V) (H:Hp) (Q:VK) (_e:XK):Prop where
 | mk (s dx:ak) (x:Str) (H0:Hp) (_:vs=[.ref s,.str x]) (_:H s=some (.ins C dx [])) (_:cO H0 H) (_:H0 s=none) (_:x.length<=100000) (_:∀ (l:ak) (H':Hp),cO H0 H'->LsI C H' s l (linesOf x) 0 0->Q .non H'):Hh C vs H Q _e
def spLi (C:ak):Sp:=fun vs H Q _e=>Hh C vs H Q _e
abbrev nLi:List Str:=["self","text"]
abbrev pLi:List Str:=["self","text"]
theorem scLi:cK nLi pLi (aZ lU):={}
theorem ok_li (M:Mt K C "__init__" "Lines.__init__" lU pLi f fd) (DL:Df K mg "lines_of" pR pLo fL fdL) (T:LT K mg C):cW P w K mg base CX0 2 f fd pLi (spLi C):=by
 have GL:cW P w K mg base CX0 1 fL fdL pLo spLo:=ok_lo DL;refine M.F.ok scLi (fun vs H Q E h=>?_) (fun cdv A outer s H vs Q E hr h=>?_)
 ·obtain ⟨s,dx,x,H0,rfl,_⟩:=h;rfl
 obtain ⟨s,dx,x,H0,rfl,hs,s0,ns,xl,q⟩:=h;have r1:dj 1 _:=hr;refine ⟨_,aE (xt (pv 0) (br GL r1 (by rfl) DL.m DL.F.kp DL.b .nil bM (bD (pv 1) aj)) rfl)
  (aE (xt (pv 0) aq rfl)
  (aO (xt (pv 0) aq rfl))),?_⟩
 refine aH ⟨_,rfl,x,rfl,xl,fun l G hl sl hll=>?_⟩;have hsG:=sl _ _ hs;refine ⟨_,rfl,s,C,dx,[],rfl,hsG,T.cl,T.nL,by decide,?_⟩;refine aH ⟨_,rfl,s,C,dx,_,rfl,ao,T.cl,T.nP,(show 1 < 1000 by decide),?_⟩;refine ⟨_,rfl,s,C,dx,_,rfl,ao,T.cl,T.nD,(show 2 < 1000 by decide),?_⟩;have nls:l≠s:=fun z=>by rw [z,hs] at hl; cases hl
 refine q l _ (fun b o e=>?_) ⟨⟨dx,?_⟩,?_⟩
 ·have nb:b≠s:=fun z=>by rw [z,ns] at e; cases e
  rw [aT nb,aT nb,aT nb];exact sl _ _ (s0 _ _ e)
 ·rw [ao];rfl
 ·rw [aT nls,aT nls,aT nls];exact hll
inductive Hi (C:ak) (vs:List V) (H:Hp) (Q:VK) (_e:XK):Prop where
 | mk (s l:ak) (L:List Str) (i c:Nat) (_:vs=[.ref s]) (_:LsI C H s l L i c) (_:Q (.bl (decide (L.length<=i))) H):Hi C vs H Q _e
def FZ (C:ak):Sp:=fun vs H Q _e=>Hi C vs H Q _e
abbrev nBe:List Str:=["self"]
abbrev pBe:List Str:=["self"]
theorem scBe:cK nBe pBe (aZ gd):={}
theorem Hj (M:Mt K C "is_behind" "Lines.is_behind" gd pBe f fd) (T:LT K mg C) (B:Bl mg):cW P w K mg base CX0 1 f fd pBe (FZ C):=by
 refine M.F.ok scBe (fun vs H Q E h=>?_) (fun cdv A outer s H vs Q E hr h=>?_)
 ·obtain ⟨s,l,L,i,c,rfl,_⟩:=h;rfl
 obtain ⟨s,l,L,i,c,rfl,⟨⟨dx,hs⟩,hl⟩,q⟩:=h;refine ⟨_,aO (bO (qM Gm (lV K (by rfl) (pv 0) (by rfl)) (cR (dz K (by rfl)) (by rfl) B.len bE (ft (lV K (by rfl) (pv 0) (by rfl)) aj)) (bR _))),?_⟩;refine dR ⟨_,rfl,s,C,dx,_,_,rfl,hs,T.cl,T.nP,rfl,_,rfl,s,C,dx,_,_,rfl,hs,T.cl,T.nL,rfl,l,_,rfl,.inl (SqL.of hl),_,_,rfl,rfl,?_⟩;rw [aa];show Q (.bl (decide ((L.length:Int)<=(i:Int)))) H;rw [show decide ((L.length:Int)<=(i:Int))=decide (L.length<=i) from by
  by_cases c:L.length<=i
  ·rw [decide_eq_true c,decide_eq_true (by omega)]
  ·rw [decide_eq_false c,decide_eq_false (by omega)]]
 exact q
inductive Hk (C:ak) (vs:List V) (H:Hp) (Q:VK) (_e:XK):Prop where
 | mk (s l:ak) (L:List Str) (i c:Nat) (_:vs=[.ref s]) (_:LsI C H s l L i c) (_:∀ H',LsI C H' s l L (i + 1) c->But s H H'->(∀ b,H b=none->H' b=none)->Q .non H'):Hk C vs H Q _e
def Au (C:ak):Sp:=fun vs H Q _e=>Hk C vs H Q _e
abbrev nPb:List Str:=["self"]
abbrev pPb:List Str:=["self"]
theorem scPb:cK nPb pPb (aZ dQ):={}
theorem w6 (M:Mt K C "pass_by" "Lines.pass_by" dQ pPb f fd) (T:LT K mg C):cW P w K mg base CX0 1 f fd pPb (Au C):=by
 refine M.F.ok scPb (fun vs H Q E h=>?_) (fun cdv A outer s H vs Q E hr h=>?_)
 ·obtain ⟨s,l,L,i,c,rfl,_⟩:=h;rfl
 obtain ⟨s,l,L,i,c,rfl,ls,q⟩:=h;have nls:=ls.ne;obtain ⟨⟨dx,hs⟩,hl⟩:=ls;refine ⟨_,aO (wz (pv 0) aq CC),?_⟩;refine ⟨_,rfl,s,C,dx,_,_,rfl,hs,T.cl,T.nP,rfl,_,_,rfl,rfl,dx,_,hs,(show 3 < 1000 by decide),?_⟩;refine q _ ⟨⟨dx,?_⟩,?_⟩ (But.upd _ _ _) fun b e=>?_
 ·rw [ao];rfl
 ·rw [aT nls];exact hl
 ·rw [aT fun z=>by rw [z,hs] at e; cases e];exact e
inductive Hl (C:ak) (vs:List V) (H:Hp) (Q:VK) (_e:XK):Prop where
 | mk (s l:ak) (L:List Str) (i c d:Nat) (_:vs=[.ref s,.int d]) (_:LsI C H s l L i c) (_:LOk L) (_:d<=7) (_:∀ p H',H p=none->cO H H'->H' p=some (.lst ((cH L i d).map V.str))->Q (.ref p) H'):Hl C vs H Q _e
def El (C:ak):Sp:=fun vs H Q _e=>Hl C vs H Q _e
abbrev nWd:List Str:=["self","depth","blanks"]
abbrev pWd:List Str:=["self","depth"]
theorem F0:cK nWd pWd (aZ gC):={}
theorem w8 (M:Mt K C "words" "Lines.words" gC pWd f fd) (MB:Mt K C "is_behind" "Lines.is_behind" gd pBe fB fdB) (T:LT K mg C) (B:Bl mg):cW P w K mg base CX0 2 f fd pWd (El C):=by
 have GB:cW P w K mg base CX0 1 fB fdB pBe (FZ C):=Hj MB T B;refine M.F.ok F0 (fun vs H Q E h=>?_) (fun cdv A outer s H vs Q E hr h=>?_)
 ·obtain ⟨s,l,L,i,c,d,rfl,_⟩:=h;rfl
 obtain ⟨s,l,L,i,c,d,rfl,ls,lok,d7,q⟩:=h;have ls':=ls;obtain ⟨⟨dx,hs⟩,hl⟩:=ls';have r1:dj 1 _:=hr;refine ⟨_,aE (bJ (i:=2) F0.nd rfl (Or.inl rfl) (bI xX aB (pv 1)))
  (aE (du ((jv (jF (j7 (pv 0) T.cl MB.m GB r1 MB.b .nil bM)) (i7 (pD (jF (gJ bK me mf tF (cg cw (lV K (by rfl) (pv 0) (by rfl)) (lV K (by rfl) (pv 0) (by rfl)) (fun _ _=>rfl)) (bD (pv 2) aj)))))).pt) (aO (bO (cA (bo aB aj)))) bX)
  (aO (bO (gJ bK kh kj sD (gu Dq (cg cw (lV K (by rfl) (pv 0) (by rfl)) (lV K (by rfl) (pv 0) (by rfl)) (fun _ _=>rfl)) (gM (cR fA (by rfl) B.len bE (bD (pv 2) aj))) iY) (bo aB aj))))),?_⟩
 have big:=dC;have bigger:5000 < aw:=by decide
 refine aH (bW ⟨_,rfl,"  ",d,rfl,rfl,by decide,by omega,aF ?_⟩);dsimp only;have none_:cH L i d=[("":Str)]->∀ G,cO H G->vN (zN (gS (tC (V.str "")) q9)) {nx:=fun x H'=>Q V.non H',rt:=Q} [some (.ref s),some (.int d),some (.str (dD d))] G:=fun e G sG=>by
  refine dR ⟨by show 1<=aw; omega,fun p hp=>q p _ (eF fun o z=>by rw [sG _ _ z] at hp; cases hp) (sG.trans (ax hp _)) ?_⟩;rw [ao,e];rfl
 refine aH ⟨_,rfl,s,dx,_,rfl,hs,rfl,s,l,L,i,c,rfl,ls,_,rfl,?_⟩
 by_cases c0:L.length<=i
 ·rw [decide_eq_true c0];refine cT (cT (none_ ?_ _ (cO.refl _)));unfold cH;rw [gW c0]
 rw [decide_eq_false c0];have il:i < L.length:=by omega
 have hx:L[i]?=some L[i]:=aL il;have xl:=lok.len L[i] (ei il);have hxv:(L.map V.str)[i]?=some (.str L[i]):=by rw [cb,hx]; rfl
 refine c9 ⟨_,rfl,s,C,dx,_,_,rfl,hs,T.cl,T.nL,rfl,_,rfl,s,C,dx,_,_,rfl,hs,T.cl,T.nP,rfl,l,_,_,_,rfl,rfl,SqL.of hl,dg hxv,rfl,_,rfl,L[i],dD d,rfl,rfl,_,rfl,?_⟩;have wd:cH L i d=if sw L[i] (dD d) then hZ (eV L[i] (some ((2 * d:Nat):Int)) none) " " else [("":Str)]:=by
  unfold cH;rw [hx]
 cases cs:sw L[i] (dD d) with
 | false =>
  rw [cs] at wd;exact cT (none_ wd _ (cO.refl _))
 | true =>
  rw [cs] at wd;refine c9 ?_;dsimp only [dX];have bl:=jJ d;refine dR ⟨_,rfl,s,C,dx,_,_,rfl,hs,T.cl,T.nL,rfl,_,rfl,s,C,dx,_,_,rfl,hs,T.cl,T.nP,rfl,l,_,_,_,rfl,rfl,SqL.of hl,dg hxv,_,rfl,dD d,rfl,by omega,((dD d).length:Int),rfl,L[i],rfl,by omega,?_⟩;rw [bl];refine ⟨rfl,_,_,rfl,rfl,by decide,bN (Ai _ _ _) (by omega),fun p hp=>q p _ hp (ax hp _) ?_⟩;rw [ao,wd];rfl
inductive Hm (C:ak) (vs:List V) (H:Hp) (Q:VK) (_e:XK):Prop where
 | mk (s l nl:ak) (L:List Str) (i c d cnt:Nat) (kind:Str) (names:List Str) (_:vs=[.ref s,.int d,.str kind,.int cnt,.ref nl]) (_:LsI C H s l L i c) (_:LOk L) (_:d<=7) (_:2<=cnt) (_:cnt<=3) (_:H nl=some (.lst (names.map V.str))) (_:(∀ H',ek L i d kind cnt names=none->cO H H'->Q .non H')) (_:∀ ws p H',ek L i d kind cnt names=some ws->H p=none->cO H H'->H' p=some (.lst (ws.map V.str))->Q (.ref p) H'):Hm C vs H Q _e
def Em (C:ak):Sp:=fun vs H Q _e=>Hm C vs H Q _e
abbrev nNd:List Str:=["self","depth","kind","count","names","words"]
abbrev pNd:List Str:=["self","depth","kind","count","names"]
theorem scNd:cK nNd pNd (aZ gD):={}
theorem A4 (M:Mt K C "named" "Lines.named" gD pNd f fd) (MW:Mt K C "words" "Lines.words" gC pWd fW fdW) (GW:cW P w K mg base CX0 2 fW fdW pWd (El C)) (DI:Df K mg "is_name" jM pNm fI fdI) (T:LT K mg C) (B:Bl mg) (MA:mg "all"=none):cW P w K mg base CX0 3 f fd pNd (Em C):=by
 have GI:cW P w K mg base CX0 1 fI fdI pNm B0:=A2 DI B MA;refine M.F.ok scNd (fun vs H Q E h=>?_) (fun cdv A outer s H vs Q E hr h=>?_)
 ·obtain ⟨s,l,nl,L,i,c,d,cnt,kind,names,rfl,_⟩:=h;rfl
 obtain ⟨s,l,nl,L,i,c,d,cnt,kind,names,rfl,ls,lok,d7,c2,c3,hnl,qn,q⟩:=h;have r2:dj 2 _:=hr;have r1:dj 1 _:=r2.mono (by omega);obtain ⟨dx,hs⟩:=ls.1;refine ⟨_,aE (bJ (i:=5) scNd.nd rfl (Or.inl rfl) (oo (pv 0) T.cl MW.m GW r2 MW.b .nil bM (bD (pv 1) aj)))
  (aE (du ((jv (bh wo (cR (dz K (by rfl)) (by rfl) B.len bE (bD (pv 5) aj)) (pv 3) (bR _)) (jv (bh wo (cg cw (pv 5) aq (fun _ _=>rfl)) (pv 2) (bR _)) (jv (pD (jF (br GI r1 (by rfl) DI.m DI.F.kp DI.b .nil bM (gF (cg cw (pv 5) aq (fun _ _=>rfl)) aj)))) (i7 (bh qN (cg cw (pv 5) aq (fun _ _=>rfl)) (pv 4) (by with_unfolding_all rfl)))))).pt) (aO (bO dJ)) bX)
  (aO (bO (pv 5)))),?_⟩
 have big:=dC;have wk:=lok.ws i d d7;refine aH (bW ⟨_,rfl,s,dx,_,rfl,hs,rfl,_,rfl,s,l,L,i,c,d,rfl,ls,lok,d7,fun p G hp sG hG=>aF ?_⟩);dsimp only;unfold ek at qn q;generalize cH L i d=ws at hG wk qn q;refine aH ⟨_,rfl,p,_,rfl,.inl (SqL.of hG),_,rfl,rfl,_,rfl,?_⟩;rw [BZ,aa]
 by_cases cl:¬ ws.length=cnt
 ·rw [decide_eq_false (show ¬ (ws.length:Int)=cnt by omega)];exact cT (cT (qn _ (by rw [if_neg fun z=>cl z.1]) sG))
 replace cl:=iT.mp cl
 rw [decide_eq_true (show (ws.length:Int)=cnt by omega)]
 match ws,wk,cl with
 | [],wk,_=>exact absurd rfl wk.ne
 | [_],_,cl=>exact absurd cl (by show ¬ 1=cnt; omega)
 | w0 :: w1 :: r,wk,cl =>
  have o1:=wk.ok w1 (by simp);refine c9 ⟨_,rfl,p,_,0,_,rfl,rfl,SqL.of hG,dg (j:=0) rfl,_,rfl,rfl,_,rfl,?_⟩;rw [rP]
  by_cases ck:¬ w0=kind
  ·rw [decide_eq_false ck];exact cT (cT (qn _ (by rw [if_neg fun z=>ck (by simpa using z.2.1)]) sG))
  replace ck:=iT.mp ck
  rw [decide_eq_true ck];refine c9 ⟨_,rfl,p,_,1,_,rfl,rfl,SqL.of hG,dg (j:=1) rfl,w1,rfl,o1.2,fun G1 g1=>⟨_,rfl,?_⟩⟩;have hG1:=g1 _ _ hG;have hnl1:=g1 _ _ (sG _ _ hnl)
  cases cn:dW w1 with
  | false=>exact cT (cT (qn _ (by rw [if_neg fun z=>by have:=z.2.2; simp [cn] at this]) (sG.trans g1)))
  | true =>
   refine c9 ⟨_,rfl,p,_,1,_,rfl,rfl,SqL.of hG1,dg (j:=1) rfl,_,rfl,nl,_,rfl,.inl (SqL.of hnl1),rfl,by simp [oY],_,rfl,?_⟩;rw [if_neg (by decide:¬ (false=true)),vC]
   by_cases ci:w1∈names
   ·rw [decide_eq_true ci];exact cT (qn _ (by rw [if_neg fun z=>by have:=z.2.2; simp [ci] at this]) (sG.trans g1))
   ·rw [decide_eq_false ci];refine c9 ?_;dsimp only [dX];exact dR ⟨_,rfl,q _ p _ (by rw [if_pos ⟨cl,by simp [ck],by simp [cn,ci]⟩]) hp (sG.trans g1) hG1⟩
end
theorem qW {α:Type} {K:ai} {ti te:TE} {σ:St} {H:Hp} {Q:VK} {a:ak} {us:List V} (xs:List α) (F:α->Str) (hi:∀ R:VK,R (.ref a) H->ti σ H R) (ha:H a=some (.lst us)) (ln:xs.length=us.length) (l:us.length<=900)
  (hs:∀ (i:Nat) (u:V) (x:α) (G:Hp) (R:VK),us[i]?=some u->xs[i]?=some x->cO H G->(∀ G',cO G G'->R (.str (F x)) G')->te ([some u]++σ) G R)
  (q:∀ (p:ak) (G:Hp),cO H G->G p=none->Q (.ref p) (upd G p (.lst ((xs.map F).map V.str)))):pZ 1 (wm K ti) (uG 0) t8 te σ H Q:=by
 have big:=dC;refine vp (K:=K) (a:=a) (xs:=us) hi (SqL.of ha) (fun i zs G=>cO H G/\zs=((xs.take i).map F).map V.str) ⟨cO.refl _,rfl⟩ ?_ ?_ ?_
 ·rintro i zs G hi ⟨sg,rfl⟩;refine ⟨SqL.of (sg _ _ ha),?_⟩;rw [aa,aa,bP];omega
 ·rintro i u zs G hu ⟨sg,rfl⟩;have il:i < us.length:=(bg.mp hu).1;have hx:xs[i]?=some (xs[i]'(by omega)):=aL _;refine aF ⟨rfl,?_⟩;unfold t8;refine cT (hs i u _ G _ hu hx sg fun G' g'=>⟨sg.trans g',?_⟩);rw [dS,hx,bA,bA];rfl
 ·rintro zs G ⟨sg,rfl⟩ p hp;rw [<- ln,cD];exact q p G sg hp
structure Mv (C:ak) (H H':Hp) (s l:ak) (L:List Str) (i c:Nat):Prop where
 ls:LsI C H' s l L i c
 bt:But s H H'
theorem Mv.same {C:ak} {H H1 H2:Hp} {s l:ak} {L:List Str} {i c:Nat} (m:Mv C H H1 s l L i c) (k:cO H1 H2):Mv C H H2 s l L i c:=⟨m.ls.same k,m.bt.same k⟩
theorem LsI.upd {C:ak} {H:Hp} {s l p:ak} {L:List Str} {i c:Nat} (h:LsI C H s l L i c) {o o':HO} (e:H p=some o) (ns:p≠s) (nl:p≠l):LsI C (L2.upd H p o') s l L i c:=by
 obtain ⟨⟨dx,e1⟩,e2⟩:=h;exact ⟨⟨dx,by rw [aT (eW ns)]; exact e1⟩,by rw [aT (eW nl)]; exact e2⟩
theorem LsI.nes {C:ak} {H:Hp} {s l p:ak} {L:List Str} {i c:Nat} (h:LsI C H s l L i c) (n:H p=none):p≠s/\p≠l:=by
 obtain ⟨⟨dx,e1⟩,e2⟩:=h;exact ⟨(fun z=>by rw [z,e1] at n; cases n),(fun z=>by rw [z,e2] at n; cases n)⟩
theorem LsI.tup {C:ak} {H H':Hp} {s l:ak} {L:List Str} {i c:Nat} (h:LsI C H s l L i c) (b:But s H H') {t:ak} {xs:List V} (e:H t=some (.tup xs)):H' t=some (.tup xs):=b _ _ e fun z=>by
 obtain ⟨⟨dx,e1⟩,_⟩:=h;rw [z,e1] at e
 cases e
def BxI (H:Hp) (q:Str×Int) (v:V):Prop:=∃ t,v=.ref t/\H t=some (.tup [.str q.1,.int q.2])
def fk (L:List Str):Nat->Nat->List (Str×Int)->List (Str×Int)×Nat
 | 0,i,acc=>(acc,i)
 | n + 1,i,acc=>match ek L i 1 "box" 3 (acc.map (·.1)) with
  | some [_,nm,wd]=>(match gK wd (-(10 ^ 15)) (10 ^ 15) with
   | some z=>fk L n (i + 1) (acc++[(nm,z)])
   | none=>(acc,i))
  | _=>(acc,i)
theorem ph {L:List Str} {i d cnt:Nat} {kind:Str} {names ws:List Str} (h:ek L i d kind cnt names=some ws):ws.length=cnt/\ws=cH L i d/\∃ w1,ws[1]?=some w1/\dW w1=true/\w1∉names:=by
 unfold ek at h
 split at h
 ·rename_i c
  cases h;refine ⟨c.1,rfl,?_⟩;have c3:=c.2.2
  cases e:(cH L i d)[1]? with
  | none=>rw [e] at c3; cases c3
  | some w1 =>
   rw [e] at c3;simp at c3;exact ⟨w1,rfl,c3.1,c3.2⟩
 ·cases h
theorem Hn {α:Type} {l:List α} (h:l.length=3):∃ a b c,l=[a,b,c]:=by
 match l,h with
 | [a,b,c],_=>exact ⟨a,b,c,rfl⟩
theorem A5 {α:Type} {l:List α} (h:l.length=2):∃ a b,l=[a,b]:=by
 match l,h with
 | [a,b],_=>exact ⟨a,b,rfl⟩
section
variable {P:aQ} {w:bT} {K:ai} {mg:Str->Option ag} {base:cP} {f fN fW fP fNi C:ak} {fd fdN fdW fdP fdNi:cF}
seal PS PSs PE PA PT PW PI PG PGs PC PSC PSsC PEC PTC PAC PPs
inductive Ho (C:ak) (vs:List V) (H:Hp) (Q:VK) (_e:XK):Prop where
 | mk (s l:ak) (L:List Str) (i c:Nat) (_:vs=[.ref s]) (_:LsI C H s l L i c) (_:LOk L) (_:∀ bl us H',H bl=none->Mv C H H' s l L (fk L 6 i []).2 c->H' bl=some (.lst us)->cL (BxI H') (fk L 6 i []).1 us->Q (.ref bl) H'):Ho C vs H Q _e
def spBf (C:ak):Sp:=fun vs H Q _e=>Ho C vs H Q _e
abbrev nBf:List Str:=["lines","boxes","words","worth"]
abbrev pBf:List Str:=["lines"]
theorem F4:cK nBf pBf (aZ kb):={}
theorem ndBf:((["box"]:List Str)++nBf).Nodup:=by decide +kernel
theorem ok_bf (D:Df K mg "boxes_from" kb pBf f fd) (MN:Mt K C "named" "Lines.named" gD pNd fN fdN) (GN:cW P w K mg base CX0 3 fN fdN pNd (Em C)) (MP:Mt K C "pass_by" "Lines.pass_by" dQ pPb fP fdP) (DW:Df K mg "worth_in" ng pWi fW fdW) (GW:dP P w K mg base CX0 2 fW fdW pWi IM) (T:LT K mg C) (B:Bl mg):dP P w K mg base CX0 4 f fd pBf (spBf C):=by
 have GP:cW P w K mg base CX0 1 fP fdP pPb (Au C):=w6 MP T;refine D.F.okC F4 (fun vs H Q E h=>?_) (fun cdv A outer s H vs Q E hr h=>?_)
 ·obtain ⟨s,l,L,i,c,rfl,_⟩:=h;rfl
 obtain ⟨s,l,L,i,c,rfl,ls,lok,q⟩:=h;have r3:dj 3 _:=hr;have r2:dj 2 _:=r3.mono (by omega);have r1:dj 1 _:=r3.mono (by omega);refine ⟨_,aR (bJ (i:=1) F4.nd rfl (Or.inl rfl) (cA aj)).c
  (aR (qS c8 (bh om (cR (dz K (by rfl)) (by rfl) B.len bE (bD (pv 1) aj)) aq (bR _)) (aR (bJ (i:=2) F4.nd rfl (Or.inl rfl) (oo (pv 0) T.cl MN.m GN r3 MN.b .nil bM (bo aq (bo aB (bo aq (ft (lR ["box"] (hW.open (NN:=nBf) (N:=nBf) (sc:=aZ kb) rfl rfl (by decide +kernel) rfl (by decide +kernel) (by decide +kernel) rfl (by decide +kernel)) rfl (gx (pv 1)) (fun _ _ _ _=>df (i:=0) ndBf rfl (Or.inl rfl)) (fun _ _ _ _=>jr) (fun _ _ _ _=>cg (uz K (by rfl)) (pv 0) aq (fun _ _=>rfl))) aj)))))).c
  (aR (iG (i:=3) F4.nd rfl (Or.inl rfl) (BU (bh j3 (pv 2) dJ (bR _)) (dJ).c (dq GW r2 (by rfl) DW.m DW.F.kp DW.b .nil bM (gF (cg cw (pv 2) aq (fun _ _=>rfl)) aj))))
  (aE (du (bh j3 (pv 3) dJ (bR _)) (aO r9) bX)
  (aE (fZ (j7 (pv 0) T.cl MP.m GP r1 MP.b .nil bM))
  (aO (fZ (gJ bZ cB cC fw (pv 1) (vn (fK (gF (cg cw (pv 2) aq (fun _ _=>rfl)) (bD (pv 3) aj))) aj) (hs:=vk)))))).c)))
  (aO (bO (pv 1))).c),?_⟩
 obtain ⟨res,hres⟩:∃ r,fk L 6 i []=r:=⟨_,rfl⟩;rw [hres] at q;have big:=dC;refine aH (bW ⟨aU _,fun bl hbl=>aF ?_⟩);dsimp only;have t0:=ax hbl (.lst []);obtain ⟨nbs,nbl⟩:=ls.nes hbl;refine aH ⟨fun m σ G=>∃ (acc:List (Str×Int)) (us:List V) (j:Nat) (u2 u3:Option V),σ=[some (.ref s),some (.ref bl),u2,u3]/\m=6 - acc.length/\acc.length<=6/\Mv C H G s l L j c/\G bl=some (.lst us)/\cL (BxI G) acc us/\res=fk L (6 - acc.length) j acc,⟨6,[],[],i,none,none,rfl,rfl,by decide,⟨ls.same t0,fU t0⟩,ao,.nil,hres.symm⟩,?_⟩;rintro m σ G ⟨acc,us,j,u2,u3,rfl,rfl,a6,mv,hG,pr,eq⟩;have ul:=kW pr;refine ⟨_,rfl,bl,_,rfl,.inl (SqL.of hG),_,_,rfl,rfl,_,rfl,?_⟩;rw [<- ul];have fin:∀ {G:Hp} {us:List V} {u2 u3:Option V},res=(acc,j)->Mv C H G s l L j c->G bl=some (.lst us)->cL (BxI G) acc us->vN (kF 1) {nx:=fun x H'=>Q V.non H',rt:=Q} [some (.ref s),some (.ref bl),u2,u3] G:=fun e mv hG pr=>dR ⟨_,rfl,q bl _ _ hbl (by rw [e]; exact mv) hG (by rw [e]; exact pr)⟩
 by_cases a5:acc.length < 6
 ·rw [decide_eq_true (show (acc.length:Int) < 6 by omega)];obtain ⟨n,hn⟩:∃ n,6 - acc.length=n + 1:=⟨6 - acc.length - 1,by omega⟩;rw [hn] at eq;rw [fk] at eq;refine cT ⟨fun σ' G'=>∃ m',m' < 6 - acc.length/\_,fun _ _ z=>z,?_⟩;obtain ⟨dx,hs⟩:=mv.ls.1;refine aH (bW ⟨_,rfl,s,dx,_,rfl,hs,rfl,?_⟩);dsimp only [gS,tC];refine qW acc (fun q=>q.1) (a:=bl) (us:=us) (fun R hR=>⟨_,rfl,hR⟩) hG ul (by omega) (fun k u x G' R hu hx sG hR=>?_) fun p1 G1 s1 hp1=>?_
  ·obtain ⟨x',hx',t,rfl,ht⟩:=iw pr hu;rw [hx] at hx'
   cases hx';exact ⟨_,rfl,t,_,0,_,rfl,rfl,SqT.of (sG _ _ ht),rfl,hR _ (cO.refl _)⟩
  have s1':=s1.trans (ax hp1 (.lst ((acc.map fun q=>q.1).map V.str)));refine ⟨s,l,p1,L,j,c,1,3,"box",acc.map (·.1),rfl,mv.ls.same s1',lok,by decide,by decide,by decide,ao,fun G2 en g2=>aF ?_,fun ws p2 G2 en hp2 g2 hws=>aF ?_⟩
  ·rw [en] at eq;have sG:=s1'.trans g2;refine aH (bW ⟨_,rfl,rfl,_,rfl,cT (aF ?_)⟩);refine aH ⟨_,rfl,rfl,_,rfl,cT ?_⟩;exact fin eq (mv.same sG) (sG _ _ hG) (iJ (fun _ _ ⟨t,e1,e2⟩=>⟨t,e1,sG _ _ e2⟩) pr)
  ·obtain ⟨wl,wp,_⟩:=ph en;obtain ⟨w0,nm,wd,rfl⟩:=Hn wl;rw [en] at eq;dsimp only at eq;have sG:=s1'.trans g2;have wk:=(lok.ws j 1 (by decide)).ok wd (by rw [<- wp]; simp);refine aH (bW ⟨_,rfl,rfl,_,rfl,c9 ⟨_,rfl,p2,_,2,_,rfl,rfl,SqL.of hws,rfl,wd,rfl,wk.1,wk.2,fun G3 g3=>aF ?_⟩⟩);have sG3:=sG.trans g3;have mv3:=mv.same sG3;have hG3:=sG3 _ _ hG;have pr3:cL (BxI G3) acc us:=iJ (fun _ _ ⟨t,e1,e2⟩=>⟨t,e1,sG3 _ _ e2⟩) pr
   cases en2:gK wd (-(10 ^ 15)) (10 ^ 15) with
   | none =>
    rw [en2] at eq;refine aH ⟨_,rfl,rfl,_,rfl,cT ?_⟩;exact fin eq mv3 hG3 pr3
   | some z =>
    rw [en2] at eq;refine aH ⟨_,rfl,rfl,_,rfl,c9 ?_⟩;dsimp only [dX];obtain ⟨dx3,hs3⟩:=mv3.ls.1;refine aH ⟨_,rfl,s,dx3,_,rfl,hs3,rfl,s,l,L,j,c,rfl,mv3.ls,fun G4 ls4 b4 n4=>?_⟩;have hG4:=b4 _ _ hG3 nbs;have hws4:=b4 _ _ (g3 _ _ hws) (mv.ls.nes (eF fun o z=>by rw [s1' _ _ z] at hp2; cases hp2)).1;have pr4:cL (BxI G4) acc us:=iJ (fun _ _ ⟨t,e1,e2⟩=>⟨t,e1,mv3.ls.tup b4 e2⟩) pr3;refine ⟨_,rfl,.inl ⟨rfl,_,SqL.of hG4⟩,_,rfl,p2,_,1,_,rfl,rfl,SqL.of hws4,rfl,_,rfl,by show 2<=aw; omega,fun t ht=>⟨bl,us,_,rfl,rfl,ax ht _ _ _ hG4,by omega,?_⟩⟩;have u5:=ax ht (.tup [.str nm,.int z]);have ls5:=(ls4.same u5).upd (o':=.lst (us++[.ref t])) (u5 _ _ hG4) nbs nbl;have bt5:But s H (upd (upd G4 t (.tup [.str nm,.int z])) bl (.lst (us++[.ref t]))):=fun b o e n=>by
     rw [aT (bF e hbl)];exact u5 _ _ (b4 _ _ (mv3.bt _ _ e n) n)
    have tk:∀ {t':ak} {xs:List V},(upd G4 t (.tup [.str nm,.int z])) t'=some (.tup xs)->(upd (upd G4 t (.tup [.str nm,.int z])) bl (.lst (us++[.ref t]))) t'=some (.tup xs):=fun {t' xs} e=>by
     rw [aT fun y=>by rw [y,u5 _ _ hG4] at e; cases e];exact e
    refine ⟨5 - acc.length,by omega,acc++[(nm,z)],us++[.ref t],j + 1,_,_,rfl,by rw [af]; show _=6 - (_ + 1); omega,by rw [af]; show _ + 1<=6; omega,⟨ls5,bt5⟩,ao,ny (iJ (fun _ _ ⟨t',e1,e2⟩=>⟨t',e1,tk (u5 _ _ e2)⟩) pr4) (.cons ⟨t,rfl,tk ao⟩ .nil),?_⟩;rw [eq,af,show 6 - (acc.length + [(nm,z)].length)=n from by show 6 - (acc.length + 1)=n; omega]
 ·rw [decide_eq_false (show ¬ (acc.length:Int) < 6 by omega)];refine c9 ?_;refine fin ?_ mv hG pr;rw [eq,show 6 - acc.length=0 by omega];rfl
def gg (L names:List Str):Nat->Nat->List Str->List Str×Nat
 | 0,i,acc=>(acc,i)
 | n + 1,i,acc=>match ek L i 1 "queue" 2 (names++acc) with
  | some [_,nm]=>gg L names n (i + 1) (acc++[nm])
  | _=>(acc,i)
inductive Hq (C:ak) (vs:List V) (H:Hp) (Q:VK) (_e:XK):Prop where
 | mk (s l nl:ak) (L:List Str) (i c:Nat) (names:List Str) (_:vs=[.ref s,.ref nl]) (_:LsI C H s l L i c) (_:LOk L) (_:H nl=some (.lst (names.map V.str))) (_:names.length<=10) (_:∀ ql H',H ql=none->Mv C H H' s l L (gg L names 3 i []).2 c->H' ql=some (.lst ((gg L names 3 i []).1.map V.str))->Q (.ref ql) H'):Hq C vs H Q _e
def spQf (C:ak):Sp:=fun vs H Q _e=>Hq C vs H Q _e
abbrev nQf:List Str:=["lines","names","queues","words"]
abbrev pQf:List Str:=["lines","names"]
theorem IR:cK nQf pQf (aZ kQ):={}
theorem ok_qf (D:Df K mg "queues_from" kQ pQf f fd) (MN:Mt K C "named" "Lines.named" gD pNd fN fdN) (GN:cW P w K mg base CX0 3 fN fdN pNd (Em C)) (MP:Mt K C "pass_by" "Lines.pass_by" dQ pPb fP fdP) (T:LT K mg C) (B:Bl mg):cW P w K mg base CX0 4 f fd pQf (spQf C):=by
 have GP:cW P w K mg base CX0 1 fP fdP pPb (Au C):=w6 MP T;refine D.F.ok IR (fun vs H Q E h=>?_) (fun cdv A outer s H vs Q E hr h=>?_)
 ·obtain ⟨s,l,nl,L,i,c,names,rfl,_⟩:=h;rfl
 obtain ⟨s,l,nl,L,i,c,names,rfl,ls,lok,hnl,n10,q⟩:=h;have r3:dj 3 _:=hr;have r1:dj 1 _:=r3.mono (by omega);refine ⟨_,aE (bJ (i:=2) IR.nd rfl (Or.inl rfl) (cA aj))
  (aE (Cr c8 (bh om (cR (dz K (by rfl)) (by rfl) B.len bE (bD (pv 2) aj)) aq (bR _)) (aE (bJ (i:=3) IR.nd rfl (Or.inl rfl) (oo (pv 0) T.cl MN.m GN r3 MN.b .nil bM (bo aq (bo aB (bo aq (hU (bI e9 (pv 1) (pv 2)) aj))))))
  (aE (du (bh j3 (pv 3) dJ (bR _)) (aO r9) bX)
  (aE (fZ (j7 (pv 0) T.cl MP.m GP r1 MP.b .nil bM))
  (aO (fZ (gJ bZ cB cC fw (pv 2) (gF (cg cw (pv 3) aq (fun _ _=>rfl)) aj))))))))
  (aO (bO (pv 2)))),?_⟩
 obtain ⟨res,hres⟩:∃ r,gg L names 3 i []=r:=⟨_,rfl⟩;rw [hres] at q;have big:=dC;have nns:nl≠s:=fun z=>by
  obtain ⟨⟨dx,e⟩,_⟩:=ls;rw [z,e] at hnl
  cases hnl
 refine aH (bW ⟨aU _,fun bl hbl=>aF ?_⟩);dsimp only;have t0:=ax hbl (.lst []);obtain ⟨nbs,nbl⟩:=ls.nes hbl;refine aH ⟨fun m σ G=>∃ (acc:List Str) (j:Nat) (u3:Option V),σ=[some (.ref s),some (.ref nl),some (.ref bl),u3]/\m=3 - acc.length/\acc.length<=3/\Mv C H G s l L j c/\G bl=some (.lst (acc.map V.str))/\res=gg L names (3 - acc.length) j acc,⟨3,[],i,none,rfl,rfl,by decide,⟨ls.same t0,fU t0⟩,ao,hres.symm⟩,?_⟩;rintro m σ G ⟨acc,j,u3,rfl,rfl,a3,mv,hG,eq⟩;refine ⟨_,rfl,bl,_,rfl,.inl (SqL.of hG),_,_,rfl,rfl,_,rfl,?_⟩;rw [aa];have fin:∀ {G:Hp} {u3:Option V},res=(acc,j)->Mv C H G s l L j c->G bl=some (.lst (acc.map V.str))->vN (kF 2) {nx:=fun x H'=>Q V.non H',rt:=Q} [some (.ref s),some (.ref nl),some (.ref bl),u3] G:=fun e mv hG=>dR ⟨_,rfl,q bl _ hbl (by rw [e]; exact mv) (by rw [e]; exact hG)⟩
 by_cases a2:acc.length < 3
 ·rw [decide_eq_true (show (acc.length:Int) < 3 by omega)];obtain ⟨n,hn⟩:∃ n,3 - acc.length=n + 1:=⟨3 - acc.length - 1,by omega⟩;rw [hn] at eq;rw [gg] at eq;refine cT ⟨fun σ' G'=>∃ m',m' < 3 - acc.length/\_,fun _ _ z=>z,?_⟩;obtain ⟨dx,hs⟩:=mv.ls.1;have hnlG:=mv.bt _ _ hnl nns;refine aH (bW ⟨_,rfl,s,dx,_,rfl,hs,rfl,_,rfl,_,rfl,nl,bl,_,_,rfl,rfl,hnlG,hG,by rw [aa,aa]; omega,fun p1 hp1=>?_⟩);have s1:=ax hp1 (.lst (names.map V.str++acc.map V.str));refine ⟨s,l,p1,L,j,c,1,2,"queue",names++acc,rfl,mv.ls.same s1,lok,by decide,by decide,by decide,by rw [ao,bA],fun G2 en g2=>aF ?_,fun ws p2 G2 en hp2 g2 hws=>aF ?_⟩
  ·rw [en] at eq;have sG:=s1.trans g2;refine aH ⟨_,rfl,rfl,_,rfl,cT ?_⟩;exact fin eq (mv.same sG) (sG _ _ hG)
  ·obtain ⟨wl,wp,_⟩:=ph en;obtain ⟨w0,nm,rfl⟩:=A5 wl;rw [en] at eq;dsimp only at eq;have sG:=s1.trans g2;refine aH ⟨_,rfl,rfl,_,rfl,c9 ?_⟩;dsimp only [dX];have mv3:=mv.same sG;have hG3:=sG _ _ hG;obtain ⟨dx3,hs3⟩:=mv3.ls.1;refine aH ⟨_,rfl,s,dx3,_,rfl,hs3,rfl,s,l,L,j,c,rfl,mv3.ls,fun G4 ls4 b4 n4=>?_⟩;have hG4:=b4 _ _ hG3 nbs;have hws4:=b4 _ _ hws (mv.ls.nes (eF fun o z=>by rw [s1 _ _ z] at hp2; cases hp2)).1;refine ⟨_,rfl,.inl ⟨rfl,_,SqL.of hG4⟩,_,rfl,p2,_,1,_,rfl,rfl,SqL.of hws4,rfl,bl,_,_,rfl,rfl,hG4,by rw [aa]; omega,?_⟩;refine ⟨2 - acc.length,by omega,acc++[nm],j + 1,_,rfl,by rw [af]; show _=3 - (_ + 1); omega,by rw [af]; show _ + 1<=3; omega,⟨ls4.upd hG4 nbs nbl,fun b o e n=>?_⟩,by rw [ao,bA]; rfl,?_⟩
   ·rw [aT (bF e hbl)];exact b4 _ _ (mv3.bt _ _ e n) n
   ·rw [eq,af,show 3 - (acc.length + [nm].length)=n from by show 3 - (acc.length + 1)=n; omega]
 ·rw [decide_eq_false (show ¬ (acc.length:Int) < 3 by omega)];refine c9 ?_;refine fin ?_ mv hG;rw [eq,show 3 - acc.length=0 by omega];rfl
end
theorem nz {K:ai} {n:Nat} {ti:TE} {g:TG} {tc:L2.TT} {te:TE} {σ:St} {H:Hp} {Q:VK} {xs:List V} (PP:ak->Hp->Prop) (hi:∀ R:VK,(∀ a H1,PP a H1->R (.ref a) H1)->ti σ H R) (hx:∀ a H1,PP a H1->SqL K H1 a xs) (Pv:ak->Hp->Nat->List V->Hp->Prop) (h0:∀ a H1,PP a H1->Pv a H1 0 [] H1)
  (hl:∀ a H1,PP a H1->∀ i ys G,i<=xs.length->Pv a H1 i ys G->SqL K G a xs/\ys.length < aw)
  (hs:∀ a H1,PP a H1->∀ i x ys G,xs[i]?=some x->Pv a H1 i ys G->g x (aJ n none++σ) G fun σ2 H2=>σ2.drop n=σ/\tc σ2 H2 fun b H3=>if b=true then te σ2 H3 fun y H4=>Pv a H1 (i + 1) (ys++[y]) H4 else Pv a H1 (i + 1) ys H3)
  (hd:∀ a H1,PP a H1->∀ ys G,Pv a H1 xs.length ys G->∀ p,G p=none->Q (.ref p) (upd G p (.lst ys))):pZ n (wm K ti) g tc te σ H Q:=
 hi _ fun a H1 p=>⟨a,rfl,⟨xs,hx a H1 p⟩,qQ (Pv a H1) (h0 a H1 p) (hl a H1 p) (hs a H1 p) (hd a H1 p)⟩
section
variable {P:aQ} {w:bT} {K:ai} {mg:Str->Option ag} {base:cP} {f fN fW fP fNi C:ak} {fd fdN fdW fdP fdNi:cF}
seal PS PSs PE PA PT PW PI PG PGs PC PSC PSsC PEC PTC PAC PPs
def nA (lo hi:Int):List Str->Option (List Int)
 | []=>some []
 | w :: ws=>match gK w lo hi,nA lo hi ws with
  | some z,some zs=>some (z :: zs)
  | _,_=>none
def jS (lo hi:Int) (ws:List Str):List V:=ws.map fun w=>x8 (gK w lo hi)
theorem En (o:Option Int):oY (x8 o)=true:=by cases o <;> rfl
theorem A6 {lo hi:Int}:∀ {ws:List Str},nA lo hi ws=none->inV .non (jS lo hi ws)=true
 | [],h=>by cases h
 | w :: ws,h=>by
  rw [nA] at h;show (eqV (x8 _) .non || inV .non (jS lo hi ws))=true
  cases e:gK w lo hi with
  | none=>rfl
  | some z =>
   rw [e] at h
   cases e2:nA lo hi ws with
   | none=>rw [A6 e2,tP]
   | some zs=>rw [e2] at h; cases h
theorem za {lo hi:Int}:∀ {ws:List Str} {zs:List Int},nA lo hi ws=some zs->inV .non (jS lo hi ws)=false/\jS lo hi ws=zs.map V.int
 | [],zs,h=>by cases h; exact ⟨rfl,rfl⟩
 | w :: ws,zs,h=>by
  rw [nA] at h
  cases e:gK w lo hi with
  | none=>rw [e] at h; cases h
  | some z =>
   rw [e] at h
   cases e2:nA lo hi ws with
   | none=>rw [e2] at h; cases h
   | some zs' =>
    rw [e2] at h
    cases h;obtain ⟨i1,i2⟩:=za e2;refine ⟨?_,?_⟩
    ·show (eqV (x8 _) .non || inV .non (jS lo hi ws))=false;rw [e,i1];rfl
    ·show x8 _ :: jS lo hi ws=_;rw [e,i2];rfl
theorem w9 {lo hi:Int}:∀ ws:List Str,(jS lo hi ws).all oY=true
 | []=>rfl
 | w :: ws=>by
  show (oY (x8 _) && (jS lo hi ws).all oY)=true;rw [En,w9 ws];rfl
theorem sQ (xs:List V) (k:Nat):gU xs (some (k:Int)) none=xs.drop k:=by
 unfold gU;rw [HT.sIx_none,HT.sIx_nat]
 rcases Nat.le_total k xs.length with h | h
 ·rw [gA h,<- ee,cD]
 ·rw [Nat.min_eq_right h,lC,List.drop_of_length_le h];exact List.take_nil
def jj (L:List Str) (i:Nat):List Int×Nat:=match cH L i 1 with
 | []=>([],i)
 | w0 :: r=>if w0="draws"/\1<=r.length/\r.length<=20 then (match nA 0 (10 ^ 15) r with | some zs=>(zs,i + 1) | none=>([],i)) else ([],i)
inductive Hr (C:ak) (vs:List V) (H:Hp) (Q:VK) (_e:XK):Prop where
 | mk (s l:ak) (L:List Str) (i c:Nat) (_:vs=[.ref s]) (_:LsI C H s l L i c) (_:LOk L) (_:∀ dl H',H dl=none->Mv C H H' s l L (jj L i).2 c->H' dl=some (.lst ((jj L i).1.map V.int))->Q (.ref dl) H'):Hr C vs H Q _e
def spDf (C:ak):Sp:=fun vs H Q _e=>Hr C vs H Q _e
abbrev nDf:List Str:=["lines","words","draws"]
abbrev pDf:List Str:=["lines"]
theorem IS:cK nDf pDf (aZ kd):={}
theorem ndDf:((["word"]:List Str)++nDf).Nodup:=by decide +kernel
theorem ok_df (D:Df K mg "draws_from" kd pDf f fd) (MW:Mt K C "words" "Lines.words" gC pWd fW fdW) (GW:cW P w K mg base CX0 2 fW fdW pWd (El C)) (MP:Mt K C "pass_by" "Lines.pass_by" dQ pPb fP fdP) (DNi:Df K mg "number_in" jf pNi fNi fdNi) (GNi:dP P w K mg base CX0 1 fNi fdNi pNi FW) (T:LT K mg C) (B:Bl mg):dP P w K mg base CX0 3 f fd pDf (spDf C):=by
 have GP:cW P w K mg base CX0 1 fP fdP pPb (Au C):=w6 MP T;refine D.F.okC IS (fun vs H Q E h=>?_) (fun cdv A outer s H vs Q E hr h=>?_)
 ·obtain ⟨s,l,L,i,c,rfl,_⟩:=h;rfl
 obtain ⟨s,l,L,i,c,rfl,ls,lok,q⟩:=h;have r2:dj 2 _:=hr;have r1:dj 1 _:=r2.mono (by omega);obtain ⟨dx,hs⟩:=ls.1;refine ⟨_,aR (bJ (i:=1) IS.nd rfl (Or.inl rfl) (oo (pv 0) T.cl MW.m GW r2 MW.b .nil bM (bo aq aj))).c
  (aR (DG (i:=2) ["word"] (hW.open (NN:=nDf) (N:=nDf) (sc:=aZ kd) rfl rfl (by decide +kernel) rfl (by decide +kernel) (by decide +kernel) rfl (by decide +kernel)) rfl IS.nd rfl (Or.inl rfl) (gx (gu jq (pv 1) (gM aq) iY)) (fun _ _ _ _=>df (i:=0) ndDf rfl (Or.inl rfl)) (fun _ _ _ _=>jr) (fun _ _ _ _=>dq GNi r1 (by rfl) DNi.m DNi.F.kp DNi.b .nil bM (bD (pv 0) (bo aq (hU (bI qt aq aq) aj)))))
  (aE (du ((jv (bh wo (cg cw (pv 1) aq (fun _ _=>rfl)) aB (bR _)) (jv (pD (Cy AE AE aq (cR (dz K (by rfl)) (by rfl) B.len bE (bD (pv 2) aj)) aq)) (i7 (bh qN dJ (pv 2) (by with_unfolding_all rfl))))).pt) (aO (bO (cA aj))) bX)
  (aE (fZ (j7 (pv 0) T.cl MP.m GP r1 MP.b .nil bM))
  (aO (bO (pv 2))))).c),?_⟩
 have big:=dC;have wk:=lok.ws i 1 (by decide);refine aH (bW ⟨_,rfl,s,dx,_,rfl,hs,rfl,s,l,L,i,c,1,rfl,ls,lok,by decide,fun p G hp sG hG=>aF ?_⟩);dsimp only;unfold jj at q;generalize cH L i 1=ws at hG wk q
 match ws,wk with
 | [],wk=>exact absurd rfl wk.ne
 | w0 :: r,wk =>
  have rl:r.length<=900:=by have:=wk.many; rw [aG] at this; omega
  have cut:gU ((w0 :: r).map V.str) (some 1) none=r.map V.str:=sQ _ 1;have wl:(r.map V.str).length=r.length:=aa ..;refine aH (bW (nz (K:=K) (xs:=r.map V.str) (fun a H1=>H1 a=some (.lst (r.map V.str))/\cO G H1) (fun R hR=>⟨_,rfl,1,rfl,p,_,rfl,SqL.of hG,fun p1 hp1=>hR p1 _ ⟨by rw [ao,cut],ax hp1 _⟩⟩) (fun a H1 z=>SqL.of z.1) (fun a H1 i zs G2=>G2 a=some (.lst (r.map V.str))/\cO G G2/\zs=jS 0 (10 ^ 15) (r.take i)) (fun a H1 z=>⟨z.1,z.2,rfl⟩) ?_ ?_ ?_))
  ·rintro a H1 ⟨e1,s1⟩ i zs G2 hi ⟨e2,s2,rfl⟩;refine ⟨SqL.of e2,?_⟩;unfold jS;rw [aa,bP];omega
  ·rintro a H1 ⟨e1,s1⟩ i x zs G2 hu ⟨e2,s2,rfl⟩;obtain ⟨y,hy,rfl⟩:∃ y,r[i]?=some y/\x=V.str y:=by
    rw [cb] at hu;obtain ⟨y,e1,e2⟩:=dy.mp hu;exact ⟨y,e1,e2.symm⟩
   obtain ⟨ya,yl⟩:=wk.ok y (az _ (bw hy));have cp:EO 10 15:=⟨by decide,by decide,by decide⟩;refine aF ⟨rfl,?_⟩;unfold t8;refine cT ⟨_,rfl,_,_,rfl,rfl,cp,y,0,10 ^ 15,rfl,ya,yl,fun G3 g3=>⟨g3 _ _ e2,s2.trans g3,?_⟩⟩;unfold jS;rw [dS,hy,bA];rfl
  rintro a H1 ⟨e1,s1⟩ zs G2 ⟨e2,s2,rfl⟩ dl hdl;rw [wl,cD];refine aF ?_;dsimp only;have u3:=ax hdl (.lst (jS 0 (10 ^ 15) r));have s3:=s2.trans u3;have sH:=sG.trans s3;have hG3:=s3 _ _ hG;have ndl:H dl=none:=eF fun o z=>by rw [s2 _ _ (sG _ _ z)] at hdl; cases hdl
  have nol:(jS 0 (10 ^ 15) r).length=r.length:=aa ..;have none_:(match (w0 :: r) with
    | []=>(([]:List Int),i)
    | w0 :: r=>if w0="draws"/\1<=r.length/\r.length<=20 then (match nA 0 (10 ^ 15) r with | some zs=>(zs,i + 1) | none=>([],i)) else ([],i))=([],i)->∀ {u1 u2:Option V},vN (zN q9) {nx:=fun x H'=>Q V.non H',rt:=Q} [some (.ref s),u1,u2] (upd G2 dl (.lst (jS 0 (10 ^ 15) r))):=fun e=>by
   intro u1 u2;rw [e] at q;refine dR ⟨aU _,fun p4 hp4=>q p4 _ (eF fun o z=>by rw [sH _ _ z] at hp4; cases hp4) ⟨(ls.same sH).same (ax hp4 _),fU (sH.trans (ax hp4 _))⟩ ao⟩
  dsimp only at none_ q;refine aH ⟨_,rfl,p,_,0,_,rfl,rfl,SqL.of hG3,dg (j:=0) rfl,rfl,_,rfl,?_⟩;rw [rP]
  by_cases c0:¬ w0="draws"
  ·rw [decide_eq_false c0];exact cT (cT (none_ (if_neg fun z=>c0 z.1)))
  replace c0:=iT.mp c0
  rw [decide_eq_true c0];have hdl3:(upd G2 dl (.lst (jS 0 (10 ^ 15) r))) dl=some (.lst (jS 0 (10 ^ 15) r)):=ao;refine c9 ⟨_,rfl,dl,_,rfl,.inl (SqL.of hdl3),_,_,rfl,rfl,_,rfl,?_⟩;rw [nol]
  by_cases c1:¬ 1<=r.length
  ·rw [decide_eq_false (show ¬ (1:Int)<=(r.length:Int) by omega)];exact c9 ⟨_,rfl,cT (cT (none_ (if_neg fun z=>c1 z.2.1)))⟩
  replace c1:=iT.mp c1
  rw [decide_eq_true (show (1:Int)<=(r.length:Int) by omega)];refine cT ⟨_,_,rfl,rfl,_,rfl,?_⟩
  by_cases c2:¬ r.length<=20
  ·rw [decide_eq_false (show ¬ (r.length:Int)<=20 by omega)];exact cT (cT (none_ (if_neg fun z=>c2 z.2.2)))
  replace c2:=iT.mp c2
  rw [decide_eq_true (show (r.length:Int)<=20 by omega)];rw [if_pos ⟨c0,c1,c2⟩] at q none_;refine c9 ⟨_,rfl,dl,_,rfl,.inl (SqL.of hdl3),rfl,w9 r,_,rfl,?_⟩
  cases e:nA 0 (10 ^ 15) r with
  | none =>
   rw [e] at q none_;rw [show (if false=true then !inV .non (jS 0 (10 ^ 15) r) else inV .non (jS 0 (10 ^ 15) r))=true from A6 e];exact cT (none_ rfl)
  | some zs =>
   rw [e] at q;obtain ⟨e1',e2'⟩:=za e;rw [show (if false=true then !inV .non (jS 0 (10 ^ 15) r) else inV .non (jS 0 (10 ^ 15) r))=false from e1'];refine c9 ?_;dsimp only [dX];have ls3:=ls.same sH;obtain ⟨dx3,hs3⟩:=ls3.1;refine aH ⟨_,rfl,s,dx3,_,rfl,hs3,rfl,s,l,L,i,c,rfl,ls3,fun G4 ls4 b4 n4=>?_⟩;dsimp only;refine dR ⟨_,rfl,q dl _ ndl ⟨ls4,(fU sH).trans b4⟩ ?_⟩;rw [<- e2'];exact b4 _ _ hdl3 (ls.nes ndl).1
end
inductive Dh where
 | leaf (d:De)
 | pull (x y:Str)
 | iff (f:Fo)
def xa (ws:List Str):Option Dh:=match ws with
 | _ :: w1 :: w2 :: w3 :: r=>if dW w2=true then (match gK w1 0 5,gK w3 0 9,kA r 3 with
  | some z,some y,some [f1,f2,f3]=>some (.leaf (.send z w2 f1 y f2 f3))
  | _,_,_=>none) else none
 | _=>none
def xb (r:List Str):Option Dh:=match r with
 | [x,y]=>if dW x=true/\dW y=true then some (.pull x y) else none
 | _=>none
def ifW (r:List Str):Option Dh:=match kA r 1 with
 | some [f]=>some (.iff f)
 | _=>none
def rQ (w0:Str) (r:List Str):Option Dh:=match kA (r.drop 1) 1,r with
 | some [f],w1 :: _=>if dW w1=true then some (.leaf (.three w0 w1 f)) else none
 | _,_=>none
def iD (ws:List Str):Option Dh:=match ws with
 | []=>none
 | w0 :: r=>if w0="send" then xa (w0 :: r) else if w0="end" then (if r=[] then some (.leaf .fin) else none)
  else if w0="pull" then xb r else if w0="if" then ifW r else if w0∈[("put":Str),"push","draw"] then rQ w0 r else none
theorem pV (w0:Str) (r:List Str):iD (w0 :: r)=if w0="send" then xa (w0 :: r) else if w0="end" then (if r=[] then some (.leaf .fin) else none)
  else if w0="pull" then xb r else if w0="if" then ifW r else if w0∈[("put":Str),"push","draw"] then rQ w0 r else none:=rfl
theorem A7 (x y:Str):xb [x,y]=if dW x=true/\dW y=true then some (.pull x y) else none:=rfl
theorem F5 {r:List Str} (h:r.length≠2):xb r=none:=by
 unfold xb
 split
 ·exact absurd rfl h
 ·rfl
theorem ifW_n {r:List Str} (h:kA r 1=none):ifW r=none:=by
 unfold ifW;rw [h]
theorem Hs {r:List Str} {f:Fo} (h:kA r 1=some [f]):ifW r=some (.iff f):=by
 unfold ifW;rw [h]
theorem Eo {w0:Str} {r:List Str} (h:kA (r.drop 1) 1=none):rQ w0 r=none:=by
 unfold rQ;rw [h]
theorem zb {w0 w1:Str} {r:List Str} {f:Fo} (h:kA r 1=some [f]):rQ w0 (w1 :: r)=if dW w1=true then some (.leaf (.three w0 w1 f)) else none:=by
 unfold rQ;rw [show (w1 :: r).drop 1=r from rfl,h]
def LfF (H:Hp) (d:De) (v:V):Prop:=match d with
 | .fin=>∃ t,v=.ref t/\H t=some (.tup [.str "end"])
 | .three k x f=>∃ t u,v=.ref t/\H t=some (.tup [.str k,.str x,u])/\jz H f u
 | .send z x f1 y f2 f3=>∃ t u1 u2 u3,v=.ref t/\H t=some (.tup [.str "send",.int z,.str x,u1,.int y,u2,u3])/\jz H f1 u1/\jz H f2 u2/\jz H f3 u3
 | _=>False
def DhIn (H:Hp) (d:Dh) (v:V):Prop:=match d with
 | .leaf d=>LfF H d v
 | .pull x y=>∃ t,v=.ref t/\H t=some (.tup [.str "pull",.str x,.str y])
 | .iff f=>∃ t u,v=.ref t/\H t=some (.tup [.str "if",u])/\jz H f u
theorem Av {ws:List Str} {n:Nat} {fs:List Fo} (h:kA ws n=some fs):fs.length=n:=by
 unfold kA at h
 split at h
 ·cases h
 ·split at h
  ·cases h
  ·split at h
   ·cases h
   ·rename_i c
    cases h;exact iT.mp fun z=>c (.inl z)
section
variable {P:aQ} {w:bT} {K:ai} {mg:Str->Option ag} {base:cP} {f fN fI fF fS:ak} {fd fdN fdI fdF fdS:cF}
seal PS PSs PE PA PT PW PI PG PGs PC PSC PSsC PEC PTC PAC PPs
def dhV (H:Hp) (d:Option Dh) (v:V):Prop:=match d with
 | none=>v=.non
 | some d=>DhIn H d v
inductive Ht (r:List Str->Option Dh) (vs:List V) (H:Hp) (Q:VK) (_e:XK):Prop where
 | mk (l:ak) (ws:List Str) (_:vs=[.ref l]) (_:H l=some (.lst (ws.map V.str))) (_:WOk ws) (_:∀ v H',cO H H'->dhV H' (r ws) v->Q v H'):Ht r vs H Q _e
def Ep (r:List Str->Option Dh):Sp:=fun vs H Q _e=>Ht r vs H Q _e
abbrev nSo:List Str:=["words","to","rank","found"]
abbrev pSo:List Str:=["words"]
theorem B4:cK nSo pSo (aZ qU):={}
theorem ok_so (D:Df K mg "send_of" qU pSo f fd) (DN:Df K mg "number_in" jf pNi fN fdN) (GN:dP P w K mg base CX0 1 fN fdN pNi FW) (DI:Df K mg "is_name" jM pNm fI fdI) (DF:Df K mg "formulas_in" iQ pFi fF fdF) (GF:dP P w K mg base CX0 61 fF fdF pFi IQ) (B:Bl mg) (MA:mg "all"=none):dP P w K mg base CX0 62 f fd pSo (Ep xa):=by
 have GI:cW P w K mg base CX0 1 fI fdI pNm B0:=A2 DI B MA;refine D.F.okC B4 (fun vs H Q E h=>?_) (fun cdv A outer s H vs Q E hr h=>?_)
 ·obtain ⟨l,ws,rfl,_⟩:=h;rfl
 obtain ⟨l,ws,rfl,hl,wk,q⟩:=h;have r61:dj 61 _:=hr;have r1:dj 1 _:=r61.mono (by omega);refine ⟨_,aR (du ((jv (bh om (cR (dz K (by rfl)) (by rfl) B.len bE (bD (pv 0) aj)) aq (bR _)) (i7 (pD (jF (br GI r1 (by rfl) DI.m DI.F.kp DI.b .nil bM (gF (cg cw (pv 0) aq (fun _ _=>rfl)) aj)))))).pt) (aO (bO dJ)) bX).c
  (aR (iG (i:=1) B4.nd rfl (Or.inl rfl) (dq GN r1 (by rfl) DN.m DN.F.kp DN.b .nil bM (gF (cg cw (pv 0) aq (fun _ _=>rfl)) (bo aq (bo aq aj)))))
  (aR (iG (i:=2) B4.nd rfl (Or.inl rfl) (dq GN r1 (by rfl) DN.m DN.F.kp DN.b .nil bM (gF (cg cw (pv 0) aq (fun _ _=>rfl)) (bo aq (bo aq aj)))))
  (aR (iG (i:=3) B4.nd rfl (Or.inl rfl) (dq GF r61 (by rfl) DF.m DF.F.kp DF.b .nil bM (gF (gu jq (pv 0) (gM aq) iY) (bo aq aj))))
  (aE (du ((jv (bh j3 (pv 1) dJ (bR _)) (jv (bh j3 (pv 2) dJ (bR _)) (i7 (bh j3 (pv 3) dJ (bR _))))).pt) (aO (bO dJ)) bX)
  (aO (bO (fK (bo aB (bD (pv 1) (gF (cg cw (pv 0) aq (fun _ _=>rfl)) (gF (cg cw (pv 3) aq (fun _ _=>rfl)) (bD (pv 2) (gF (cg cw (pv 3) aq (fun _ _=>rfl)) (gF (cg cw (pv 3) aq (fun _ _=>rfl)) aj))))))))))).c))),?_⟩
 have big:=dC;refine aH ⟨_,rfl,l,_,rfl,.inl (SqL.of hl),_,_,rfl,rfl,_,rfl,?_⟩;rw [aa]
 match ws,hl,wk,q with
 | [],_,wk,_=>exact absurd rfl wk.ne
 | [_],_,_,q=>exact cT (cT (q .non _ (cO.refl _) rfl))
 | [_,_],_,_,q=>exact cT (cT (q .non _ (cO.refl _) rfl))
 | [_,_,_],_,_,q=>exact cT (cT (q .non _ (cO.refl _) rfl))
 | w0 :: w1 :: w2 :: w3 :: r,hl,wk,q =>
  rw [decide_eq_false (show ¬ (((w0 :: w1 :: w2 :: w3 :: r).length:Nat):Int) < 4 by simp only [aG]; omega)];have sd:xa (w0 :: w1 :: w2 :: w3 :: r)=if dW w2=true then (match gK w1 0 5,gK w3 0 9,kA r 3 with
   | some z,some y,some [f1,f2,f3]=>some (.leaf (.send z w2 f1 y f2 f3))
   | _,_,_=>none) else none:=rfl
  rw [sd] at q;clear sd;have o1:=wk.ok w1 (by simp);have o2:=wk.ok w2 (by simp);have o3:=wk.ok w3 (by simp);refine c9 ⟨_,rfl,l,_,2,_,rfl,rfl,SqL.of hl,dg (j:=2) rfl,w2,rfl,o2.2,fun G1 g1=>⟨_,rfl,?_⟩⟩
  cases cn:dW w2 with
  | false =>
   rw [cn] at q;exact cT (q .non _ g1 rfl)
  | true =>
   rw [cn,if_pos rfl] at q;refine c9 ?_;dsimp only [dX];have hl1:=g1 _ _ hl;refine aH (bW ⟨_,rfl,l,_,1,_,rfl,rfl,SqL.of hl1,dg (j:=1) rfl,w1,0,5,rfl,o1.1,o1.2,fun G2 g2=>aF ?_⟩);dsimp only;have hl2:=g2 _ _ hl1;refine aH (bW ⟨_,rfl,l,_,3,_,rfl,rfl,SqL.of hl2,dg (j:=3) rfl,w3,0,9,rfl,o3.1,o3.2,fun G3 g3=>aF ?_⟩);dsimp only;have hl3:=g3 _ _ hl2;refine aH (bW ⟨_,rfl,4,rfl,l,_,rfl,SqL.of hl3,fun p hp=>?_⟩);have cut:gU ((w0 :: w1 :: w2 :: w3 :: r).map V.str) (some 4) none=r.map V.str:=sQ _ 4;rw [cut];have u4:=ax hp (.lst (r.map V.str));refine ⟨p,r,3,rfl,⟨ao,fun x m=>wk.ok x (by simp [m])⟩,by decide,by decide,fun G5 v g5 hv=>aF ?_⟩;have sG:=(((g1.trans g2).trans g3).trans u4).trans g5;have hl5:=sG _ _ hl;have q':=fun v' H' s' d'=>q v' H' (sG.trans s') d';clear q;dsimp only
   cases e1:gK w1 0 5 with
   | none =>
    rw [e1] at q';exact aH ⟨_,rfl,rfl,_,rfl,cT (cT (q' .non _ (cO.refl _) rfl))⟩
   | some z =>
    refine aH ⟨_,rfl,rfl,_,rfl,c9 ?_⟩
    cases e2:gK w3 0 9 with
    | none =>
     rw [e1,e2] at q';exact ⟨_,rfl,rfl,_,rfl,cT (cT (q' .non _ (cO.refl _) rfl))⟩
    | some y =>
     refine ⟨_,rfl,rfl,_,rfl,c9 ?_⟩
     cases e3:kA r 3 with
     | none =>
      rw [e1,e2,e3] at q';rw [e3] at hv;have hv':v=.non:=hv;subst hv';exact ⟨_,rfl,rfl,_,rfl,cT (q' .non _ (cO.refl _) rfl)⟩
     | some fs =>
      obtain ⟨f1,f2,f3,rfl⟩:=Hn (Av e3);rw [e1,e2,e3] at q';rw [e3] at hv;obtain ⟨fp,us,rfl,hfp,pr⟩:=hv
      cases pr with
      | cons p1 pr=>cases pr with
       | cons p2 pr=>cases pr with
        | cons p3 pr =>
         cases pr;refine ⟨_,rfl,rfl,_,rfl,c9 ?_⟩;dsimp only [dX];refine dR ⟨_,rfl,_,rfl,l,_,2,_,rfl,rfl,SqL.of hl5,dg (j:=2) rfl,_,rfl,fp,_,0,_,rfl,rfl,SqL.of hfp,rfl,_,rfl,_,rfl,fp,_,1,_,rfl,rfl,SqL.of hfp,rfl,_,rfl,fp,_,2,_,rfl,rfl,SqL.of hfp,rfl,by show 7<=aw; omega,fun t ht=>?_⟩;exact q' _ _ (ax ht _) ⟨t,_,_,_,rfl,ao,p1.same (ax ht _),p2.same (ax ht _),p3.same (ax ht _)⟩
abbrev nDo:List Str:=["words","kind","found"]
abbrev pDo:List Str:=["words"]
theorem F6:cK nDo pDo (aZ o7):={}
theorem ok_do (D:Df K mg "deed_of" o7 pDo f fd) (DS:Df K mg "send_of" qU pSo fS fdS) (GS:dP P w K mg base CX0 62 fS fdS pSo (Ep xa)) (DI:Df K mg "is_name" jM pNm fI fdI) (DF:Df K mg "formulas_in" iQ pFi fF fdF) (GF:dP P w K mg base CX0 61 fF fdF pFi IQ) (B:Bl mg) (MA:mg "all"=none):dP P w K mg base CX0 63 f fd pDo (Ep iD):=by
 have GI:cW P w K mg base CX0 1 fI fdI pNm B0:=A2 DI B MA;refine D.F.okC F6 (fun vs H Q E h=>?_) (fun cdv A outer s H vs Q E hr h=>?_)
 ·obtain ⟨l,ws,rfl,_⟩:=h;rfl
 obtain ⟨l,ws,rfl,hl,wk,q⟩:=h;have r62:dj 62 _:=hr;have r61:dj 61 _:=r62.mono (by omega);have r1:dj 1 _:=r61.mono (by omega);refine ⟨_,aR (bJ (i:=1) F6.nd rfl (Or.inl rfl) (cg cw (pv 0) aq (fun _ _=>rfl))).c
  (aR (vb (bh eD (pv 1) aB (bR _)) (hJ (pQ (dq GS r62 (by rfl) DS.m DS.F.kp DS.b .nil bM (bD (pv 0) aj)))) bX.c)
  (aR (du (bh eD (pv 1) aB (bR _)) (aO (bO (oU (bh eD (cR (dz K (by rfl)) (by rfl) B.len bE (bD (pv 0) aj)) aq (bR _)) (fK (bo aB aj)) dJ))) bX).c
  (aR (du (bh eD (pv 1) aB (bR _)) (aO (bO (oU ((pB (bh eD (cR (dz K (by rfl)) (by rfl) B.len bE (bD (pv 0) aj)) aq (bR _)) (pB (jF (br GI r1 (by rfl) DI.m DI.F.kp DI.b .nil bM (gF (cg cw (pv 0) aq (fun _ _=>rfl)) aj))) (og (jF (br GI r1 (by rfl) DI.m DI.F.kp DI.b .nil bM (gF (cg cw (pv 0) aq (fun _ _=>rfl)) aj)))))).pt) (iO vU (by rfl) B.tuple boot_tuple (bD (pv 0) aj)) dJ))) bX).c
  (aR (vb (bh eD (pv 1) aB (bR _)) (aR (iG (i:=2) F6.nd rfl (Or.inl rfl) (dq GF r61 (by rfl) DF.m DF.F.kp DF.b .nil bM (gF (gu jq (pv 0) (gM aq) iY) (bo aq aj))))
  (aO (bO (oU (bh j3 (pv 2) dJ (bR _)) dJ (fK (bo aB (gF (cg cw (pv 2) aq (fun _ _=>rfl)) aj)))))).c) bX.c)
  (aR (vb (bh qN (pv 1) (fK (bo aB (bo aB (bo aB aj)))) (by with_unfolding_all rfl)) (aR (iG (i:=2) F6.nd rfl (Or.inl rfl) (dq GF r61 (by rfl) DF.m DF.F.kp DF.b .nil bM (gF (gu jq (pv 0) (gM aq) iY) (bo aq aj))))
  (aO (bO (oU ((jv (bh j3 (pv 2) dJ (bR _)) (i7 (pD (jF (br GI r1 (by rfl) DI.m DI.F.kp DI.b .nil bM (gF (cg cw (pv 0) aq (fun _ _=>rfl)) aj)))))).pt) dJ (fK (bD (pv 1) (gF (cg cw (pv 0) aq (fun _ _=>rfl)) (gF (cg cw (pv 2) aq (fun _ _=>rfl)) aj))))))).c) bX.c)
  (aO (bO dJ)).c))))),?_⟩
 have big:=dC
 match ws,hl,wk,q with
 | [],_,wk,_=>exact absurd rfl wk.ne
 | w0 :: r,hl,wk,q =>
  rw [pV] at q;refine aH (bW ⟨_,rfl,l,_,0,_,rfl,rfl,SqL.of hl,dg (j:=0) rfl,aF ?_⟩);dsimp only;refine aH ⟨_,rfl,rfl,_,rfl,?_⟩;rw [rP]
  by_cases c1:w0="send"
  ·rw [decide_eq_true c1];rw [if_pos c1] at q;exact cT (dR ⟨_,rfl,l,_,rfl,hl,wk,fun v H' s' d'=>q v H' s' d'⟩)
  rw [decide_eq_false c1];rw [if_neg c1] at q;refine c9 ?_;dsimp only [dX];refine aH ⟨_,rfl,rfl,_,rfl,?_⟩;rw [rP]
  by_cases c2:w0="end"
  ·rw [decide_eq_true c2];rw [if_pos c2] at q;refine cT (dR ⟨_,rfl,l,_,rfl,.inl (SqL.of hl),rfl,_,rfl,?_⟩);rw [BZ,aa]
   by_cases c3:r=[]
   ·subst c3;rw [if_pos rfl] at q;refine cT ⟨by show 1<=aw; omega,fun t ht=>q _ _ (ax ht _) ⟨t,rfl,ao⟩⟩
   ·rw [if_neg c3] at q;have:r.length≠0:=fun z=>c3 (List.eq_nil_of_length_eq_zero z);rw [decide_eq_false (show ¬ (((w0 :: r).length:Nat):Int)=1 by rw [aG]; omega)];exact c9 (q .non _ (cO.refl _) rfl)
  rw [decide_eq_false c2];rw [if_neg c2] at q;refine c9 ?_;dsimp only [dX];refine aH ⟨_,rfl,rfl,_,rfl,?_⟩;rw [rP]
  by_cases c3:w0="pull"
  ·rw [decide_eq_true c3];rw [if_pos c3] at q;refine cT (dR ⟨_,rfl,l,_,rfl,.inl (SqL.of hl),rfl,_,rfl,?_⟩);rw [BZ,aa]
   by_cases c4:r.length=2
   ·rw [decide_eq_true (show (((w0 :: r).length:Nat):Int)=3 by rw [aG]; omega)];obtain ⟨x,y,rfl⟩:=A5 c4;have ox:=wk.ok x (by simp);have oy:=wk.ok y (by simp);rw [A7] at q;refine cT ⟨_,rfl,l,_,1,_,rfl,rfl,SqL.of hl,dg (j:=1) rfl,x,rfl,ox.2,fun G1 g1=>⟨_,rfl,?_⟩⟩
    cases cx:dW x with
    | false =>
     rw [cx,if_neg fun z=>absurd z.1 (by decide)] at q;exact c9 (c9 (q .non _ g1 rfl))
    | true =>
     have hl1:=g1 _ _ hl;refine cT ⟨_,rfl,l,_,2,_,rfl,rfl,SqL.of hl1,dg (j:=2) rfl,y,rfl,oy.2,fun G2 g2=>⟨_,rfl,?_⟩⟩
     cases cy:dW y with
     | false =>
      rw [cx,cy,if_neg fun z=>absurd z.2 (by decide)] at q;exact c9 (q .non _ (g1.trans g2) rfl)
     | true =>
      rw [cx,cy,if_pos ⟨rfl,rfl⟩] at q;refine cT ⟨_,rfl,l,_,rfl,.inl ⟨SqL.of (g2 _ _ hl1),fun t ht=>q _ _ ((g1.trans g2).trans (ax ht _)) ⟨t,rfl,?_⟩⟩⟩;rw [ao,c3];rfl
   ·rw [decide_eq_false (show ¬ (((w0 :: r).length:Nat):Int)=3 by rw [aG]; omega)];rw [F5 c4] at q;exact c9 (c9 (q .non _ (cO.refl _) rfl))
  rw [decide_eq_false c3];rw [if_neg c3] at q;refine c9 ?_;dsimp only [dX];refine aH ⟨_,rfl,rfl,_,rfl,?_⟩;rw [rP]
  by_cases c4:w0="if"
  ·rw [decide_eq_true c4];rw [if_pos c4] at q;refine cT (aH (bW ⟨_,rfl,1,rfl,l,_,rfl,SqL.of hl,fun p hp=>?_⟩));have cut:gU ((w0 :: r).map V.str) (some 1) none=r.map V.str:=sQ _ 1;rw [cut];have u1:=ax hp (.lst (r.map V.str));refine ⟨p,r,1,rfl,⟨ao,fun x m=>wk.ok x (by simp [m])⟩,by decide,by decide,fun G2 v g2 hv=>aF ?_⟩;dsimp only;have sG:=u1.trans g2
   cases e:kA r 1 with
   | none =>
    rw [ifW_n e] at q;rw [e] at hv;have hv':v=.non:=hv;subst hv';exact dR ⟨_,rfl,rfl,_,rfl,cT (q .non _ sG rfl)⟩
   | some fs =>
    obtain ⟨f1,rfl⟩:∃ f1,fs=[f1]:=by
     have:=Av e
     match fs,this with
     | [f1],_=>exact ⟨f1,rfl⟩
    rw [Hs e] at q;rw [e] at hv;obtain ⟨fp,us,rfl,hfp,pr⟩:=hv
    cases pr with
    | cons p1 pr =>
     cases pr;refine dR ⟨_,rfl,rfl,_,rfl,c9 ⟨_,rfl,fp,_,0,_,rfl,rfl,SqL.of hfp,rfl,by show 2<=aw; omega,fun t ht=>?_⟩⟩;exact q _ _ (sG.trans (ax ht _)) ⟨t,_,rfl,ao,p1.same (ax ht _)⟩
  rw [decide_eq_false c4];rw [if_neg c4] at q;refine c9 ?_;dsimp only [dX];refine aH ⟨_,rfl,by show 3<=aw; omega,fun t3 ht3=>?_⟩;have u0:=ax ht3 (.tup ([("put":Str),"push","draw"].map V.str));refine ⟨t3,[("put":Str),"push","draw"].map V.str,rfl,.inr (SqT.of ao),rfl,rfl,_,rfl,?_⟩;rw [if_neg (by decide:¬ (false=true)),vC]
  by_cases c5:w0∈[("put":Str),"push","draw"]
  ·rw [decide_eq_true c5];rw [if_pos c5] at q;have hl0:=u0 _ _ hl;refine cT (aH (bW ⟨_,rfl,2,rfl,l,_,rfl,SqL.of hl0,fun p hp=>?_⟩));have cut:gU ((w0 :: r).map V.str) (some 2) none=(r.drop 1).map V.str:=by
    rw [show gU ((w0 :: r).map V.str) (some 2) none=((w0 :: r).map V.str).drop 2 from sQ _ 2,yp];rfl
   rw [cut];have u1:=ax hp (.lst ((r.drop 1).map V.str));refine ⟨p,r.drop 1,1,rfl,⟨ao,fun x m=>wk.ok x (az _ (ia m))⟩,by decide,by decide,fun G2 v g2 hv=>aF ?_⟩;dsimp only;have sG:=(u0.trans u1).trans g2
   cases e:kA (r.drop 1) 1 with
   | none =>
    rw [Eo e] at q;rw [e] at hv;have hv':v=.non:=hv;subst hv';exact dR ⟨_,rfl,rfl,_,rfl,cT (cT (q .non _ sG rfl))⟩
   | some fs =>
    obtain ⟨f1,rfl⟩:∃ f1,fs=[f1]:=by
     have:=Av e
     match fs,this with
     | [f1],_=>exact ⟨f1,rfl⟩
    match r,e,hl,wk,q,hv with
    | [],e,_,_,_,_=>exact absurd (show kA [] 1=none from by decide) (by rw [show kA [] 1=some [f1] from e]; intro z; cases z)
    | w1 :: r',e,hl,wk,q,hv =>
     rw [zb (show kA r' 1=some [f1] from e)] at q;rw [e] at hv;obtain ⟨fp,us,rfl,hfp,pr⟩:=hv;have o1:=wk.ok w1 (by simp);have hl2:=sG _ _ hl
     cases pr with
     | cons p1 pr =>
      cases pr;refine dR ⟨_,rfl,rfl,_,rfl,c9 ⟨_,rfl,l,_,1,_,rfl,rfl,SqL.of hl2,dg (j:=1) rfl,w1,rfl,o1.2,fun G3 g3=>⟨_,rfl,?_⟩⟩⟩
      cases cn:dW w1 with
      | false =>
       rw [cn] at q;exact cT (q .non _ (sG.trans g3) rfl)
      | true =>
       rw [cn,if_pos rfl] at q;refine c9 ⟨_,rfl,_,rfl,l,_,1,_,rfl,rfl,SqL.of (g3 _ _ hl2),dg (j:=1) rfl,_,rfl,fp,_,0,_,rfl,rfl,SqL.of (g3 _ _ hfp),rfl,by show 3<=aw; omega,fun t ht=>?_⟩;exact q _ _ ((sG.trans g3).trans (ax ht _)) ⟨t,_,rfl,ao,(p1.same g3).same (ax ht _)⟩
  ·rw [decide_eq_false c5];rw [if_neg c5] at q;refine c9 ?_;dsimp only [dX];exact dR (q .non _ u0 rfl)
end
inductive Prs {α:Type} (R:α->V->List ak->Prop):List α->List V->List ak->Prop
 | nil:Prs R [] [] []
 | cons {x v a xs vs as}:R x v a->Prs R xs vs as->Prs R (x :: xs) (v :: vs) (a++as)
theorem Prs.app {α:Type} {R:α->V->List ak->Prop} {xs ys:List α} {us vs:List V} {as bs:List ak} (h:Prs R xs us as) (k:Prs R ys vs bs):Prs R (xs++ys) (us++vs) (as++bs):=by
 induction h with
 | nil=>exact k
 | cons h t ih=>rw [aS]; exact .cons h ih
theorem Prs.mono {α:Type} {R S:α->V->List ak->Prop} {xs:List α} {us:List V} {as:List ak} (h:Prs R xs us as) (k:∀ x v a,(∀ b∈a,b∈as)->R x v a->S x v a):Prs S xs us as:=by
 induction h with
 | nil=>exact .nil
 | cons h t ih=>exact .cons (k _ _ _ (fun b m=>cS _ m) h) (ih fun x v a s=>k x v a fun b m=>aP _ (s b m))
theorem Prs.len {α:Type} {R:α->V->List ak->Prop} {xs:List α} {us:List V} {as:List ak} (h:Prs R xs us as):xs.length=us.length:=by
 induction h with
 | nil=>rfl
 | cons h t ih=>rw [aG,aG,ih]
theorem Prs.at {α:Type} {R:α->V->List ak->Prop} {xs:List α} {us:List V} {as:List ak} (h:Prs R xs us as):∀ {i:Nat} {v:V},us[i]?=some v->∃ x a,xs[i]?=some x/\(∀ b∈a,b∈as)/\R x v a:=by
 induction h with
 | nil=>intro i v e; cases i <;> cases e
 | cons h t ih =>
  intro i v e
  cases i with
  | zero=>cases e; exact ⟨_,_,rfl,fun b m=>cS _ m,h⟩
  | succ i =>
   obtain ⟨x,a,e1,e2,e3⟩:=ih (i:=i) e;exact ⟨x,a,e1,fun b m=>aP _ (e2 b m),e3⟩
def Kx (fp:List ak) (H H':Hp):Prop:=(∀ b xs,H b=some (.tup xs)->H' b=some (.tup xs))/\∀ b∈fp,∀ xs,H b=some (.lst xs)->H' b=some (.lst xs)
theorem Kx.of_same {fp:List ak} {H H':Hp} (s:cO H H'):Kx fp H H':=⟨fun b _ e=>s b _ e,fun b _ _ e=>s b _ e⟩
theorem Kx.of_but {fp:List ak} {H H':Hp} {a:ak} {xs:List V} (ha:H a=some (.lst xs)) (s:But a H H') (n:a∉fp):Kx fp H H':=⟨fun b _ e=>s b _ e (fun z=>by rw [z,ha] at e; cases e),fun b m _ e=>s b _ e fun z=>n (z ▸ m)⟩
theorem Kx.sub {fp fq:List ak} {H H':Hp} (k:Kx fp H H') (s:∀ b∈fq,b∈fp):Kx fq H H':=⟨k.1,fun b m=>k.2 b (s b m)⟩
theorem Prs.lists {α:Type} {R:α->V->List ak->Prop} {H:Hp} {xs:List α} {us:List V} {as:List ak} (h:Prs R xs us as) (k:∀ x v a,R x v a->∀ b∈a,∃ xs,H b=some (.lst xs)):∀ b∈as,∃ xs,H b=some (.lst xs):=by
 induction h with
 | nil=>intro b m; cases m
 | cons h t ih =>
  intro b m
  rcases aN.mp m with m | m
  ·exact k _ _ _ h b m
  ·exact ih b m
def rNeS:R2:=fun x y H Q=>∃ (p q:ak) (ws us:List Str),x=.ref p/\y=.ref q/\H p=some (.lst (ws.map V.str))/\H q=some (.lst (us.map V.str))/\Q (.bl (!decide (ws=us))) H
theorem F7 {ws us:List Str} (h:ws.length=us.length):(jZ ws.length).all (fun i=>decide (ws[i]?=us[i]?))=decide (ws=us):=by
 by_cases c:ws=us
 ·subst c;rw [decide_eq_true rfl,iA];intro i _;exact decide_eq_true rfl
 ·rw [decide_eq_false c,Do];intro z;rw [iA] at z;refine c (Dw fun i=>?_)
  by_cases l:i < ws.length
  ·exact of_decide_eq_true (z i (rm.mpr l))
  ·rw [gW (by omega),gW (by omega)]
theorem IT {X:Cx} (hu:X.A.units + 50 < ic):OpR X (dA .NotEq) rNeS:=by
 intro pins s σ H x y v u Q I rx ry h;obtain ⟨p,q,ws,us,rfl,rfl,h1,h2,k⟩:=h
 cases rx
 cases ry;obtain ⟨as,r1,i1⟩:=gZ I.hok h1;obtain ⟨bs,r2,i2⟩:=gZ I.hok h2;have l1:=r1.length;have l2:=r2.length;rw [aa] at l1 l2
 by_cases c:ws.length=us.length
 ·have z:=SeqAt.RcNeAt.lists (A:=X.A) (e:=fun i=>decide (ws[i]?=us[i]?)) i1 i2 (by rw [aI,aI]; omega) (by omega) (fun j a b=>by
   have ja:j < as.length:=by simpa using a
   have jb:j < bs.length:=by simpa using b
   obtain ⟨u,eu,ru⟩:=r1.get (aL (l:=ws.map V.str) (i:=j) (by rw [aa]; omega));obtain ⟨v,ev,rv⟩:=r2.get (aL (l:=us.map V.str) (i:=j) (by rw [aa]; omega));rw [List.getElem_map] at ru rv;have e1:as[j]=u:=(bg.mp eu).2;have e2:bs[j]=v:=(bg.mp ev).2;have z:=IA (A:=X.A.in1) (s:=s) (.inr ⟨_,_,rfl,rfl,rfl⟩) ru rv;rw [show (decide (ws[j]'(by omega)=us[j]'(by omega)))=decide (ws[j]?=us[j]?) from by
    rw [aL (by omega),aL (by omega)];simp] at z
   simpa [e1,e2] using z)
  rw [aI,<- l1,F7 c] at z;exact z X.prog X.w _ _ ⟨.bl _,H,I,rfl,k⟩
 ·rw [decide_eq_false (fun z=>c (by rw [z]))] at k;refine sV i1 i2 (by
   rw [aI,aI,<- l1,<- l2,bne_iff_ne];exact c) (by omega) X.prog X.w _ _ ⟨.bl true,H,I,rfl,k⟩
structure NT (K:ai) (mg:Str->Option ag) (C D f:ak) (fd:cF):Prop where
 cl:vY K C D f
 F:Fun K "__init__" "NoText.__init__" oP f fd
 b:Binds K fd ["self","line"] []
 m:mg "NoText"=some (.ref C)
mutual
def qI (L:List Str):Nat->Nat->Nat->Nat->Except Nat (Option De×Nat×Nat)
 | 0,_,i,c=>.ok (none,i,c)
 | n + 1,d,i,c=>if 5 < d\/20<=c then .ok (none,i,c) else match iD (cH L i (d + 1)) with
  | none=>.ok (none,i,c)
  | some (.leaf x)=>.ok (some x,i + 1,c + 1)
  | some (.pull x y)=>(match kn L n (d + 1) (i + 1) (c + 1) with
   | .error e=>.error e
   | .ok (ds,i',c')=>.ok (some (.pull x y ds),i',c'))
  | some (.iff f)=>(match kn L n (d + 1) (i + 1) (c + 1) with
   | .error e=>.error e
   | .ok (as,i',c')=>if cH L i' (d + 1)=[("else":Str)] then (match kn L n (d + 1) (i' + 1) c' with
    | .error e=>.error e
    | .ok (bs,i'',c'')=>.ok (some (.iff f as bs),i'',c'')) else .error (i' + 1))
def kn (L:List Str):Nat->Nat->Nat->Nat->Except Nat (List De×Nat×Nat)
 | 0,_,i,c=>.ok ([],i,c)
 | n + 1,d,i,c=>match qI L n d i c with
  | .error e=>.error e
  | .ok (none,i',c')=>.ok ([],i',c')
  | .ok (some x,i',c')=>(match kn L n d i' c' with
   | .error e=>.error e
   | .ok (xs,i'',c'')=>.ok (x :: xs,i'',c''))
end
def iW (L:List Str) (d i c:Nat) (r:Except Nat (Option De×Nat×Nat)):Prop:=∀ n,1 + 2 * (20 - c)<=n->qI L n d i c=r
def eQ (L:List Str) (d i c:Nat) (r:Except Nat (List De×Nat×Nat)):Prop:=∀ n,2 + 2 * (20 - c)<=n->kn L n d i c=r
section
variable {L:List Str} {d i c:Nat}
theorem vD (h:5 < d\/20<=c):iW L d i c (.ok (none,i,c)):=fun n hn=>by
 cases n with
 | zero=>omega
 | succ n=>rw [qI,if_pos h]
theorem uC (h:¬ (5 < d\/20<=c)) (e:iD (cH L i (d + 1))=none):iW L d i c (.ok (none,i,c)):=fun n hn=>by
 cases n with
 | zero=>omega
 | succ n=>rw [qI,if_neg h,e]
theorem pX {x:De} (h:¬ (5 < d\/20<=c)) (e:iD (cH L i (d + 1))=some (.leaf x)):iW L d i c (.ok (some x,i + 1,c + 1)):=fun n hn=>by
 cases n with
 | zero=>omega
 | succ n=>rw [qI,if_neg h,e]
theorem x9 {x y:Str} {ds:List De} {i' c':Nat} (h:¬ (5 < d\/20<=c)) (e:iD (cH L i (d + 1))=some (.pull x y)) (k:eQ L (d + 1) (i + 1) (c + 1) (.ok (ds,i',c'))):iW L d i c (.ok (some (.pull x y ds),i',c')):=fun n hn=>by
 cases n with
 | zero=>omega
 | succ n =>
  rw [qI,if_neg h,e];dsimp only;rw [k n (by omega)]
theorem xc {x y:Str} {r:Nat} (h:¬ (5 < d\/20<=c)) (e:iD (cH L i (d + 1))=some (.pull x y)) (k:eQ L (d + 1) (i + 1) (c + 1) (.error r)):iW L d i c (.error r):=fun n hn=>by
 cases n with
 | zero=>omega
 | succ n =>
  rw [qI,if_neg h,e];dsimp only;rw [k n (by omega)]
theorem A8 {f:Fo} {r:Nat} (h:¬ (5 < d\/20<=c)) (e:iD (cH L i (d + 1))=some (.iff f)) (k:eQ L (d + 1) (i + 1) (c + 1) (.error r)):iW L d i c (.error r):=fun n hn=>by
 cases n with
 | zero=>omega
 | succ n =>
  rw [qI,if_neg h,e];dsimp only;rw [k n (by omega)]
theorem A9 {f:Fo} {as:List De} {i' c':Nat} (h:¬ (5 < d\/20<=c)) (e:iD (cH L i (d + 1))=some (.iff f)) (k:eQ L (d + 1) (i + 1) (c + 1) (.ok (as,i',c'))) (el:cH L i' (d + 1)≠[("else":Str)]):iW L d i c (.error (i' + 1)):=fun n hn=>by
 cases n with
 | zero=>omega
 | succ n =>
  rw [qI,if_neg h,e];dsimp only;rw [k n (by omega)];dsimp only;rw [if_neg el]
theorem zc {f:Fo} {as:List De} {i' c' r:Nat} (h:¬ (5 < d\/20<=c)) (e:iD (cH L i (d + 1))=some (.iff f)) (k:eQ L (d + 1) (i + 1) (c + 1) (.ok (as,i',c'))) (cc:c + 1<=c') (el:cH L i' (d + 1)=[("else":Str)]) (k2:eQ L (d + 1) (i' + 1) c' (.error r)):iW L d i c (.error r):=fun n hn=>by
 cases n with
 | zero=>omega
 | succ n =>
  rw [qI,if_neg h,e];dsimp only;rw [k n (by omega)];dsimp only;rw [if_pos el,k2 n (by omega)]
theorem Er {f:Fo} {as bs:List De} {i' c' i2 c2:Nat} (h:¬ (5 < d\/20<=c)) (e:iD (cH L i (d + 1))=some (.iff f)) (k:eQ L (d + 1) (i + 1) (c + 1) (.ok (as,i',c'))) (cc:c + 1<=c') (el:cH L i' (d + 1)=[("else":Str)]) (k2:eQ L (d + 1) (i' + 1) c' (.ok (bs,i2,c2))):iW L d i c (.ok (some (.iff f as bs),i2,c2)):=fun n hn=>by
 cases n with
 | zero=>omega
 | succ n =>
  rw [qI,if_neg h,e];dsimp only;rw [k n (by omega)];dsimp only;rw [if_pos el,k2 n (by omega)]
theorem yb {i' c':Nat} (k:iW L d i c (.ok (none,i',c'))):eQ L d i c (.ok ([],i',c')):=fun n hn=>by
 cases n with
 | zero=>omega
 | succ n=>rw [kn,k n (by omega)]
theorem IU {r:Nat} (k:iW L d i c (.error r)):eQ L d i c (.error r):=fun n hn=>by
 cases n with
 | zero=>omega
 | succ n=>rw [kn,k n (by omega)]
theorem uD {x:De} {xs:List De} {i' c' i2 c2:Nat} (k:iW L d i c (.ok (some x,i',c'))) (c20:c < 20) (cc:c < c') (k2:eQ L d i' c' (.ok (xs,i2,c2))):eQ L d i c (.ok (x :: xs,i2,c2)):=fun n hn=>by
 cases n with
 | zero=>omega
 | succ n =>
  rw [kn,k n (by omega)];dsimp only;rw [k2 n (by omega)]
theorem tI {x:De} {i' c' r:Nat} (k:iW L d i c (.ok (some x,i',c'))) (c20:c < 20) (cc:c < c') (k2:eQ L d i' c' (.error r)):eQ L d i c (.error r):=fun n hn=>by
 cases n with
 | zero=>omega
 | succ n =>
  rw [kn,k n (by omega)];dsimp only;rw [k2 n (by omega)]
end
def DeF (H:Hp):Nat->De->V->List ak->Prop
 | 0,_,_,_=>False
 | n + 1,d,v,fp=>match d with
  | .pull x y ds=>∃ (t l:ak) (vs:List V) (as:List ak),v=.ref t/\H t=some (.tup [.str "pull",.str x,.str y,.ref l])/\H l=some (.lst vs)/\Prs (DeF H n) ds vs as/\fp=l :: as
  | .iff f as bs=>∃ (t l1 l2:ak) (u:V) (v1 v2:List V) (a1 a2:List ak),v=.ref t/\H t=some (.tup [.str "if",u,.ref l1,.ref l2])/\jz H f u/\H l1=some (.lst v1)/\Prs (DeF H n) as v1 a1/\H l2=some (.lst v2)/\Prs (DeF H n) bs v2 a2/\fp=(l1 :: a1)++(l2 :: a2)
  | d=>LfF H d v/\fp=[]
theorem LfF.up {H H':Hp} {d:De} {v:V} (k:∀ t xs,H t=some (.tup xs)->H' t=some (.tup xs)) (h:LfF H d v):LfF H' d v:=by
 cases d with
 | fin=>obtain ⟨t,rfl,e⟩:=h; exact ⟨t,rfl,k _ _ e⟩
 | three a b f=>obtain ⟨t,u,rfl,e,e2⟩:=h; exact ⟨t,u,rfl,k _ _ e,e2.up k⟩
 | send z x f1 y f2 f3=>obtain ⟨t,u1,u2,u3,rfl,e,e1,e2,e3⟩:=h; exact ⟨t,u1,u2,u3,rfl,k _ _ e,e1.up k,e2.up k,e3.up k⟩
 | pull x y ds=>exact h.elim
 | iff f as bs=>exact h.elim
theorem DeF.kx {H H':Hp}:∀ {n:Nat} {d:De} {v:V} {fp:List ak},Kx fp H H'->DeF H n d v fp->DeF H' n d v fp
 | 0,_,_,_,_,h=>h
 | n + 1,d,v,fp,k,h=>by
  cases d with
  | pull x y ds =>
   obtain ⟨t,l,vs,as,rfl,e1,e2,e3,rfl⟩:=h;exact ⟨t,l,vs,as,rfl,k.1 _ _ e1,k.2 _ (by simp) _ e2,e3.mono fun x v a s i=>DeF.kx (k.sub fun b m=>az _ (s b m)) i,rfl⟩
  | iff f as bs =>
   obtain ⟨t,l1,l2,u,v1,v2,a1,a2,rfl,e1,ef,e2,e3,e4,e5,rfl⟩:=h;exact ⟨t,l1,l2,u,v1,v2,a1,a2,rfl,k.1 _ _ e1,ef.up k.1,k.2 _ (by simp) _ e2,e3.mono fun x v a s i=>DeF.kx (k.sub fun b m=>by simp [s b m]) i,k.2 _ (by simp) _ e4,e5.mono fun x v a s i=>DeF.kx (k.sub fun b m=>by simp [s b m]) i,rfl⟩
  | fin=>exact ⟨h.1.up k.1,h.2⟩
  | three a b f=>exact ⟨h.1.up k.1,h.2⟩
  | send z x f1 y f2 f3=>exact ⟨h.1.up k.1,h.2⟩
theorem DeF.ref {H:Hp}:∀ {n:Nat} {d:De} {v:V} {fp:List ak},DeF H n d v fp->v≠.non
 | 0,_,_,_,h=>h.elim
 | n + 1,d,v,fp,h=>fun z=>by
  subst z
  cases d with
  | pull x y ds=>obtain ⟨t,l,vs,as,z,_⟩:=h; cases z
  | iff f as bs=>obtain ⟨t,l1,l2,u,v1,v2,a1,a2,z,_⟩:=h; cases z
  | fin=>obtain ⟨⟨t,z,_⟩,_⟩:=h; cases z
  | three a b f=>obtain ⟨⟨t,u,z,_⟩,_⟩:=h; cases z
  | send z' x f1 y f2 f3=>obtain ⟨⟨t,u1,u2,u3,z,_⟩,_⟩:=h; cases z
theorem rR {C:ak} {G G':Hp} {s l:ak} {L:List Str} {i c:Nat} {fp:List ak} (ls:LsI C G s l L i c) (b:But s G G') (n:s∉fp):Kx fp G G':=⟨fun t xs e=>ls.tup b e,fun a m xs e=>b _ _ e fun z=>n (z ▸ m)⟩
theorem DeF.lists {H:Hp}:∀ {n:Nat} {d:De} {v:V} {fp:List ak},DeF H n d v fp->∀ b∈fp,∃ xs,H b=some (.lst xs)
 | 0,_,_,_,h=>h.elim
 | n + 1,d,v,fp,h=>by
  intro b m
  cases d with
  | pull x y ds =>
   obtain ⟨t,l,vs,as,rfl,e1,e2,e3,rfl⟩:=h
   rcases ar.mp m with rfl | m
   ·exact ⟨_,e2⟩
   ·exact e3.lists (fun _ _ _=>DeF.lists) b m
  | iff f as bs =>
   obtain ⟨t,l1,l2,u,v1,v2,a1,a2,rfl,e1,ef,e2,e3,e4,e5,rfl⟩:=h
   rcases aN.mp m with m | m
   ·rcases ar.mp m with rfl | m
    ·exact ⟨_,e2⟩
    ·exact e3.lists (fun _ _ _=>DeF.lists) b m
   ·rcases ar.mp m with rfl | m
    ·exact ⟨_,e4⟩
    ·exact e5.lists (fun _ _ _=>DeF.lists) b m
  | fin=>rw [h.2] at m; cases m
  | three a b f=>rw [h.2] at m; cases m
  | send z x f1 y f2 f3=>rw [h.2] at m; cases m
section
variable {P:aQ} {w:bT} {K:ai} {mg:Str->Option ag} {base:cP} {f fE fS fO fW fP fIn C CN D':ak} {fd fdE fdS fdO fdW fdP fdIn:cF}
seal PS PSs PE PA PT PW PI PG PGs PC PSC PSsC PEC PTC PAC PPs
theorem scIn:cK ["self","line"] ["self","line"] (aZ oP):={}
theorem Hu (N:NT K mg CN D' f fd):cW P w K mg base CX0 1 f fd ["self","line"] (Dy CN):=by
 refine N.F.ok scIn (fun vs H Q E h=>?_) (fun cdv A outer s H vs Q E hr h=>?_)
 ·obtain ⟨e,ob,n,rfl,_⟩:=h;rfl
 obtain ⟨e,ob,n,rfl,h1,h2,h3,h4,k⟩:=h;refine ⟨_,aO (FC N.cl (pv 0) (pv 1) rfl),?_⟩;exact ⟨_,rfl,_,rfl,e,ob,n,rfl,rfl,h1,h2,h3,h4,fun d hd hde=>k d hd hde⟩
inductive Hv (C CN:ak) (k:Nat) (vs:List V) (H:Hp) (Q:VK) (E:XK):Prop where
 | mk (s l:ak) (L:List Str) (i c d:Nat) (_:vs=[.ref s,.int d]) (_:d + k=6) (_:c<=20) (_:LsI C H s l L i c) (_:LOk L) (_:(∀ r H',iW L d i c (.error r)->But s H H'->E (.ref CN) (some r) H')) (_:(∀ v H' od i' c',iW L d i c (.ok (od,i',c'))->c'<=20->Mv C H H' s l L i' c'->(match od with | none=>v=.non/\c<=c' | some x=>c < 20/\c < c'/\∃ fp,DeF H' (k + 1) x v fp/\fp.Nodup/\∀ a∈fp,H a=none)->Q v H')):Hv C CN k vs H Q E
def IV (C CN:ak) (k:Nat):Sp:=fun vs H Q E=>Hv C CN k vs H Q E
inductive ze (C CN:ak) (k:Nat) (vs:List V) (H:Hp) (Q:VK) (E:XK):Prop where
 | mk (s l:ak) (L:List Str) (i c d:Nat) (_:vs=[.ref s,.int d]) (_:d + k=6) (_:c<=20) (_:LsI C H s l L i c) (_:LOk L) (_:(∀ r H',eQ L d i c (.error r)->But s H H'->E (.ref CN) (some r) H')) (_:(∀ dl us fp H' ds i' c',eQ L d i c (.ok (ds,i',c'))->c<=c'->c'<=20->Mv C H H' s l L i' c'->H' dl=some (.lst us)->Prs (DeF H' (k + 1)) ds us fp->(dl :: fp).Nodup->(∀ a∈dl :: fp,H a=none)->ds.length<=40->Q (.ref dl) H')):ze C CN k vs H Q E
def vE (C CN:ak) (k:Nat):Sp:=fun vs H Q E=>ze C CN k vs H Q E
abbrev nDs:List Str:=["lines","depth","deeds","deed"]
abbrev pDs:List Str:=["lines","depth"]
theorem Es:cK nDs pDs (aZ ju):={}
theorem sR {k n:Nat} (D:Df K mg "deeds_from" ju pDs f fd) (DE:Df K mg "deed_from" la ["lines","depth"] fE fdE) (GE:dP P w K mg base (CXl P w) n fE fdE ["lines","depth"] (IV C CN k)) (B:Bl mg):dP P w K mg base (CXl P w) (n + 1) f fd pDs (vE C CN k):=by
 refine D.F.okLC Es (fun vs H Q E h=>?_) (fun cdv A outer s H vs Q E hr h=>?_)
 ·obtain ⟨s,l,L,i,c,d,rfl,_⟩:=h;rfl
 obtain ⟨s,l,L,i,c,d,rfl,dk,cl20,ls,lok,qe,q⟩:=h;have rk:dj n _:=hr;refine ⟨_,aR (bJ (i:=2) Es.nd rfl (Or.inl rfl) (cA aj)).c
  (aR (iG (i:=3) Es.nd rfl (Or.inl rfl) (dq GE rk (by rfl) DE.m DE.F.kp DE.b .nil (jt.passes fun _ _ _ z=>z) (bD (pv 0) (bD (pv 1) aj))))
  (aR (qS jt.own (bh ER (pv 3) dJ (bR _)) (aR (fZ (gJ bZ cB cC fw (pv 2) (bD (pv 3) aj))).c
  (hJ (iG (i:=3) Es.nd rfl (Or.inl rfl) (dq GE rk (by rfl) DE.m DE.F.kp DE.b .nil (jt.passes fun _ _ _ z=>z) (bD (pv 0) (bD (pv 1) aj)))))))
  (aO (bO (pv 2))).c)),?_⟩
 have big:=dC;refine aH (bW ⟨aU _,fun dl hdl=>aF ?_⟩);dsimp only;have t0:=ax hdl (.lst []);obtain ⟨nds,ndl⟩:=ls.nes hdl;have hsn:∀ {a:ak},H a=none->a≠s:=fun z=>(ls.nes z).1;have ls0:=ls.same t0;refine aH (bW ⟨_,rfl,_,rfl,s,l,L,i,c,d,rfl,dk,cl20,ls0,lok,fun r H' e b=>qe r H' (IU e) ((fU t0).trans b),fun v G od i1 c1 de c120 mv hv=>aF ?_⟩);dsimp only;have hdl1:=mv.bt _ _ (ao (H:=H) (a:=dl) (o:=.lst [])) nds;refine aH ⟨fun m σ G=>∃ (acc:List De) (us:List V) (fp:List ak) (j cc j' cc':Nat) (od:Option De) (v:V),σ=[some (.ref s),some (.int d),some (.ref dl),some v]/\m=20 - cc/\acc.length<=cc/\cc'<=20/\cc<=20/\c<=cc/\Mv C H G s l L j' cc'/\G dl=some (.lst us)/\Prs (DeF G (k + 1)) acc us fp/\(dl :: fp).Nodup/\(∀ a∈dl :: fp,H a=none) /\
   iW L d j cc (.ok (od,j',cc'))/\(match od with | none=>v=.non/\cc<=cc' | some x=>cc < 20/\cc < cc'/\∃ fq,DeF G (k + 1) x v fq/\(dl :: (fp++fq)).Nodup/\∀ a∈fq,H a=none) /\
   (∀ ds i2 c2,eQ L d j cc (.ok (ds,i2,c2))->eQ L d i c (.ok (acc++ds,i2,c2)))/\(∀ r,eQ L d j cc (.error r)->eQ L d i c (.error r)),
  ⟨20 - c,[],[],[],i,c,i1,c1,od,v,rfl,rfl,aU _,c120,cl20,ay _,⟨mv.ls,(fU t0).trans mv.bt⟩,hdl1,.nil,by simp,fun a m=>by rw [au.mp m]; exact hdl,de,?_,fun _ _ _ z=>z,fun _ z=>z⟩,?_⟩
 ·cases od with
  | none=>exact hv
  | some x =>
   obtain ⟨h1,h2,fq,h3,h4,h5⟩:=hv;refine ⟨h1,h2,fq,h3,?_,fun a m=>eF fun o z=>by have:=h5 a m; rw [t0 _ _ z] at this; cases this⟩;rw [jY,eM];exact ⟨(fun m=>by have:=h5 dl m; rw [ao] at this; cases this),h4⟩
 clear hdl1 mv hv de;rintro m σ G ⟨acc,us,fp,j,cc,j',cc',od,v,rfl,rfl,al,a40,cc20,clc,mv,hG,pr,nd,nw,de,hv,ko,ke⟩;have ul:=pr.len;refine ⟨_,rfl,rfl,_,rfl,?_⟩
 cases od with
 | none =>
  obtain ⟨rfl,ccc⟩:=hv;rw [decide_eq_true rfl];refine c9 ?_;dsimp only;exact dR ⟨_,rfl,q dl us fp G acc j' cc' (by have:=ko [] j' cc' (yb de); rwa [bq] at this) (by omega) a40 mv hG pr nd nw (by omega)⟩
 | some x =>
  obtain ⟨c20,ccc,fq,hx,ndq,nwq⟩:=hv;rw [decide_eq_false hx.ref];refine cT ⟨fun σ' G'=>∃ m',m' < 20 - cc/\_,fun _ _ z=>z,?_⟩;refine aH ⟨_,rfl,.inl ⟨rfl,_,SqL.of hG⟩,_,rfl,dl,us,_,rfl,rfl,hG,by omega,?_⟩;have nodl:dl∉fp++fq:=(eM.mp ndq).1;have lsG:=mv.ls.upd (o':=.lst (us++[v])) hG nds ndl;have btG:But s H (upd G dl (.lst (us++[v]))):=fun b o e n=>by
   rw [aT (bF e hdl)];exact mv.bt _ _ e n
  have hG1:(upd G dl (.lst (us++[v]))) dl=some (.lst (us++[v])):=ao;have kxG:Kx (fp++fq) G (upd G dl (.lst (us++[v]))):=Kx.of_but hG (But.upd _ _ _) nodl;have pr1:Prs (DeF (upd G dl (.lst (us++[v]))) (k + 1)) (acc++[x]) (us++[v]) (fp++fq):=by
   refine Prs.app (pr.mono fun _ _ _ s i=>i.kx (kxG.sub fun b m=>cS _ (s b m))) ?_;rw [<- bq fq];exact .cons (hx.kx (kxG.sub fun b m=>aP _ m)) .nil
  have nw1:∀ a∈dl :: (fp++fq),H a=none:=fun a m=>by
   rcases ar.mp m with rfl | m
   ·exact hdl
   ·rcases aN.mp m with m | m
    ·exact nw a (az _ m)
    ·exact nwq a m
  generalize upd G dl (.lst (us++[v]))=G1 at lsG btG hG1 pr1;dsimp only;refine bW ⟨_,rfl,_,rfl,s,l,L,j',cc',d,rfl,dk,a40,lsG,lok,fun r H' e b=>qe r H' (ke r (tI de c20 ccc (IU e))) (btG.trans b),fun v2 G2 od2 j2 c2 de2 c220 mv2 hv2=>aF ?_⟩;have ns:s∉dl :: (fp++fq):=fun m=>hsn (nw1 s m) rfl;have kx2:Kx (dl :: (fp++fq)) G1 G2:=rR lsG mv2.bt ns;refine ⟨20 - cc',by omega,acc++[x],us++[v],fp++fq,j',cc',j2,c2,od2,v2,rfl,rfl,by rw [af]; show _ + 1<=_; omega,c220,a40,by omega,⟨mv2.ls,btG.trans mv2.bt⟩,mv2.bt _ _ hG1 nds,pr1.mono fun _ _ _ s i=>i.kx (kx2.sub fun b m=>az _ (s b m)),ndq,nw1,de2,?_,fun ds i2 c2 z=>?_,fun r z=>ke r (tI de c20 ccc z)⟩
  ·cases od2 with
   | none=>exact hv2
   | some x2 =>
    obtain ⟨h1,h2,fq2,h3,h4,h5⟩:=hv2;have in1:∀ a∈dl :: (fp++fq),∃ xs,G1 a=some (.lst xs):=fun a m=>by
     rcases ar.mp m with rfl | m
     ·exact ⟨_,hG1⟩
     ·exact pr1.lists (fun _ _ _=>DeF.lists) a m
    refine ⟨h1,h2,fq2,h3,?_,fun a m=>eF fun o z=>?_⟩
    ·rw [<- lD];refine dM.mpr ⟨ndq,h4,fun a ha b hb z=>?_⟩;subst z;obtain ⟨xs,e⟩:=in1 a ha;rw [h5 a hb] at e
     cases e
    ·by_cases as:a=s
     ·subst as;obtain ⟨⟨dx,e⟩,_⟩:=lsG;rw [h5 a m] at e
      cases e
     ·have:=btG _ _ z as;rw [h5 a m] at this
      cases this
  ·have:=ko _ _ _ (uD de c20 ccc z)
   rwa [aS]
def DhK (G:Hp) (dh:Dh) (v:V) (xs:List V):Prop:=match dh with
 | .leaf x=>LfF G x v/\∃ k0 r,xs=.str k0 :: r/\k0≠"pull"/\k0≠"if"
 | .pull x y=>xs=[.str "pull",.str x,.str y]
 | .iff f=>∃ u,xs=[.str "if",u]/\jz G f u
theorem tW {ws:List Str} {k x:Str} {f:Fo} (h:iD ws=some (.leaf (.three k x f))):k≠"pull"/\k≠"if":=by
 cases ws with
 | nil=>cases h
 | cons w0 r =>
  rw [pV] at h
  split at h
  ·exfalso;unfold xa at h
   split at h
   ·split at h
    ·split at h
     ·cases h
     ·cases h
    ·cases h
   ·cases h
  split at h
  ·split at h
   ·cases h
   ·cases h
  split at h
  ·exfalso;unfold xb at h
   split at h
   ·split at h
    ·cases h
    ·cases h
   ·cases h
  split at h
  ·exfalso;unfold ifW at h
   split at h
   ·cases h
   ·cases h
  split at h
  ·rename_i c3 c4 c5
   unfold rQ at h
   split at h
   ·split at h
    ·cases h;exact ⟨c3,c4⟩
    ·cases h
   ·cases h
  ·cases h
abbrev nDd:List Str:=["lines","depth","deed","ones"]
abbrev pDd:List Str:=["lines","depth"]
theorem IW:cK nDd pDd (aZ la):={}
theorem Ba {k n:Nat} (D:Df K mg "deed_from" la pDd f fd) (DO:Df K mg "deed_of" o7 pDo fO fdO) (GO:dP P w K mg base CX0 63 fO fdO pDo (Ep iD)) (DS:Df K mg "deeds_from" ju pDs fS fdS) (GS:dP P w K mg base (CXl P w) n fS fdS pDs (fun vs H Q E=>1<=k/\vE C CN (k - 1) vs H Q E)) (hn:63<=n) (MW:Mt K C "words" "Lines.words" gC pWd fW fdW) (GW:cW P w K mg base CX0 2 fW fdW pWd (El C)) (MP:Mt K C "pass_by" "Lines.pass_by" dQ pPb fP fdP) (N:NT K mg CN D' fIn fdIn) (T:LT K mg C) (B:Bl mg):dP P w K mg base (CXl P w) (n + 1) f fd pDd (IV C CN k):=by
 have GP:cW P w K mg base CX0 1 fP fdP pPb (Au C):=w6 MP T;have GI:cW P w K mg base CX0 1 fIn fdIn ["self","line"] (Dy CN):=Hu N;refine D.F.okLC IW (fun vs H Q E h=>?_) (fun cdv A outer s H vs Q E hr h=>?_)
 ·obtain ⟨s,l,L,i,c,d,rfl,_⟩:=h;rfl
 obtain ⟨s,l,L,i,c,d,rfl,dk,cl20,ls,lok,qe,q⟩:=h;have rk:dj n _:=hr;have r63:dj 63 _:=rk.mono hn;have r2:dj 2 _:=r63.mono (by omega);have r1:dj 1 _:=r63.mono (by omega);have h50:=C6 hr;refine ⟨_,aR (du ((jv (bh tK (pv 1) aq (bR _)) (i7 (bh Gm (lV K (by rfl) (pv 0) (by rfl)) aq (bR _)))).pt) (aO (bO dJ)) bX).c
  (aR (iG (i:=2) IW.nd rfl (Or.inl rfl) (dq GO r63 (by rfl) DO.m DO.F.kp DO.b .nil bM (iM (oo (pv 0) T.cl MW.m GW r2 MW.b .nil bM (hU (bI fJ (pv 1) aq) aj)) aj)))
  (aR (du (bh j3 (pv 2) dJ (bR _)) (aO (bO dJ)) bX).c
  (aR (fZ (j7 (pv 0) T.cl MP.m GP r1 MP.b .nil bM)).c
  (aR (wz (pv 0) aq CC).c
  (aR (vb (bh eD (cg d6 (pv 2) aq (fun _ _=>rfl)) aB (bR _)) (hJ (pQ (DK AK (pv 2) (uy (iL (dq GS rk (by rfl) DS.m DS.F.kp DS.b .nil (jt.passes fun _ _ _ z=>z) (bD (pv 0) (hU (bI fJ (pv 1) aq) aj))) (aj).c))))) bX.c)
  (aR (vb (bh eD (cg d6 (pv 2) aq (fun _ _=>rfl)) aB (bR _)) (aR (iG (i:=3) IW.nd rfl (Or.inl rfl) (dq GS rk (by rfl) DS.m DS.F.kp DS.b .nil (jt.passes fun _ _ _ z=>z) (bD (pv 0) (hU (bI fJ (pv 1) aq) aj))))
  (aR (du (bh (IT h50) (oo (pv 0) T.cl MW.m GW r2 MW.b .nil bM (hU (bI fJ (pv 1) aq) aj)) (cA (bo aB aj)) (bR _)) (aO (wO jt rfl N.cl (by rfl) N.m GI r2 N.b (hU (bI fJ (lV K (by rfl) (pv 0) (by rfl)) aq) aj))) bX).c
  (aR (fZ (j7 (pv 0) T.cl MP.m GP r1 MP.b .nil bM)).c
  (hJ (pQ (DK AK (pv 2) (uy (iL ((pv 3).c) (iL (dq GS rk (by rfl) DS.m DS.F.kp DS.b .nil (jt.passes fun _ _ _ z=>z) (bD (pv 0) (hU (bI fJ (pv 1) aq) aj))) (aj).c))))))))) bX.c)
  (aO (bO (pv 2))).c)))))),?_⟩
 have big:=dC;have nls:=ls.ne;obtain ⟨⟨dx,hs⟩,hl⟩:=ls;have ls:LsI C H s l L i c:=⟨⟨dx,hs⟩,hl⟩;refine aH ⟨_,rfl,_,_,rfl,rfl,_,rfl,?_⟩
 by_cases d5:5 < d
 ·rw [decide_eq_true (show (5:Int) < d by omega)];exact cT (cT (q .non _ none i c (vD (.inl d5)) cl20 ⟨ls,But.refl _ _⟩ ⟨rfl,ay _⟩))
 rw [decide_eq_false (show ¬ (5:Int) < d by omega)];refine c9 ⟨_,rfl,s,C,dx,_,_,rfl,hs,T.cl,T.nD,rfl,_,_,rfl,rfl,_,rfl,?_⟩
 by_cases c20:20<=c
 ·rw [decide_eq_true (show (20:Int)<=c by omega)];exact cT (q .non _ none i c (vD (.inr c20)) cl20 ⟨ls,But.refl _ _⟩ ⟨rfl,ay _⟩)
 rw [decide_eq_false (show ¬ (20:Int)<=c by omega)];refine c9 ?_;dsimp only [dX];have off:¬ (5 < d\/20<=c):=fun z=>z.elim d5 c20;have ed:((d:Int) + 1)=((d + 1:Nat):Int):=by omega
 refine aH (bW ⟨_,rfl,s,dx,_,rfl,hs,rfl,_,rfl,_,_,rfl,rfl,s,l,L,i,c,d + 1,rfl,ls,lok,by omega,fun p G hp sG hG=>⟨p,_,rfl,hG,lok.ws i (d + 1) (by omega),fun v G1 g1 hv=>aF ?_⟩⟩);dsimp only;have sG1:=sG.trans g1;have ls1:=ls.same sG1
 cases ew:iD (cH L i (d + 1)) with
 | none =>
  rw [ew] at hv;have hv':v=.non:=hv;subst hv';exact aH ⟨_,rfl,rfl,_,rfl,cT (q .non _ none i c (uC off ew) cl20 ⟨ls1,fU sG1⟩ ⟨rfl,ay _⟩)⟩
 | some dh =>
  rw [ew] at hv;obtain ⟨t,xs,rfl,ht,hk⟩:∃ t xs,v=.ref t/\G1 t=some (.tup xs)/\DhK G1 dh v xs:=by
   cases dh with
   | leaf x =>
    have hv':LfF G1 x v:=hv
    cases x with
    | fin=>obtain ⟨t,rfl,e⟩:=hv'; exact ⟨t,_,rfl,e,hv,_,_,rfl,by decide,by decide⟩
    | three a b f=>obtain ⟨t,u,rfl,e,e2⟩:=hv'; exact ⟨t,_,rfl,e,hv,_,_,rfl,(tW ew).1,(tW ew).2⟩
    | send z x f1 y f2 f3=>obtain ⟨t,u1,u2,u3,rfl,e,_⟩:=hv'; exact ⟨t,_,rfl,e,hv,_,_,rfl,by decide,by decide⟩
    | pull x y ds=>exact hv'.elim
    | iff f as bs=>exact hv'.elim
   | pull x y=>obtain ⟨t,rfl,e⟩:=hv; exact ⟨t,_,rfl,e,rfl⟩
   | iff f=>obtain ⟨t,u,rfl,e,e2⟩:=hv; exact ⟨t,_,rfl,e,u,rfl,e2⟩
  clear hv;refine aH ⟨_,rfl,rfl,_,rfl,c9 ?_⟩;dsimp only [dX];obtain ⟨dx1,hs1⟩:=ls1.1;refine aH ⟨_,rfl,s,dx1,_,rfl,hs1,rfl,s,l,L,i,c,rfl,ls1,fun G2 ls2 b2 n2=>?_⟩;dsimp only;have nls2:=ls2.ne;obtain ⟨⟨dx2,hs2⟩,hl2⟩:=ls2;refine aH ⟨_,rfl,s,C,dx2,_,_,rfl,hs2,T.cl,T.nD,rfl,_,_,rfl,rfl,dx2,_,hs2,(show 3 < 1000 by decide),?_⟩;dsimp only;have ls3:LsI C (upd G2 s (.ins C dx2 (lP "deed_count" (.int ((c:Int) + 1)) [("lines",.ref l),("place",.int ((i + 1:Nat):Int)),("deed_count",.int (c:Int))]))) s l L (i + 1) (c + 1):=⟨⟨dx2,by rw [ao]; rfl⟩,by rw [aT nls2]; exact hl2⟩;have b3:But s H (upd G2 s (.ins C dx2 (lP "deed_count" (.int ((c:Int) + 1)) [("lines",.ref l),("place",.int ((i + 1:Nat):Int)),("deed_count",.int (c:Int))]))):=((fU sG1).trans b2).trans (But.upd _ _ _);have b13:But s G1 (upd G2 s (.ins C dx2 (lP "deed_count" (.int ((c:Int) + 1)) [("lines",.ref l),("place",.int ((i + 1:Nat):Int)),("deed_count",.int (c:Int))]))):=b2.trans (But.upd _ _ _);generalize upd G2 s (.ins C dx2 (lP "deed_count" (.int ((c:Int) + 1)) [("lines",.ref l),("place",.int ((i + 1:Nat):Int)),("deed_count",.int (c:Int))]))=G3 at ls3 b3 b13;have tk3:∀ t xs,G1 t=some (.tup xs)->G3 t=some (.tup xs):=fun t xs e=>ls1.tup b13 e;have ht3:=tk3 _ _ ht;have nn:∀ {a:ak},G3 a=none->H a=none:=fun {a} e=>eF fun o z=>by
   by_cases as:a=s
   ·subst as;obtain ⟨⟨_,e'⟩,_⟩:=ls3;rw [e] at e'
    cases e'
   ·rw [b3 _ _ z as] at e
    cases e
  have c1:c + 1<=20:=by omega
  cases dh with
  | leaf x =>
   obtain ⟨lf,k0,r,rfl,n1,n2⟩:=hk;refine aH ⟨_,rfl,t,_,0,_,rfl,rfl,SqT.of ht3,dg (j:=0) rfl,rfl,_,rfl,?_⟩;rw [rP,decide_eq_false n1];refine c9 ?_;dsimp only [dX];refine aH ⟨_,rfl,t,_,0,_,rfl,rfl,SqT.of ht3,dg (j:=0) rfl,rfl,_,rfl,?_⟩;rw [rP,decide_eq_false n2];refine c9 ?_;dsimp only [dX];refine dR ⟨_,rfl,q _ _ (some x) (i + 1) (c + 1) (pX off ew) c1 ⟨ls3,b3⟩ ⟨by omega,by omega,[],?_,by simp,fun a m=>by cases m⟩⟩;have lf3:=lf.up tk3
   cases x with
   | fin=>exact ⟨lf3,rfl⟩
   | three a b f=>exact ⟨lf3,rfl⟩
   | send z x f1 y f2 f3=>exact ⟨lf3,rfl⟩
   | pull x y ds=>exact lf3.elim
   | iff f as bs=>exact lf3.elim
  | pull x y =>
   have hk':xs=[.str "pull",.str x,.str y]:=hk;subst hk';refine aH ⟨_,rfl,t,_,0,_,rfl,rfl,SqT.of ht3,rfl,rfl,_,rfl,?_⟩;rw [rP,decide_eq_true rfl];refine cT (dR ⟨_,rfl,_,rfl,_,rfl,_,_,rfl,rfl,by omega,s,l,L,i + 1,c + 1,d + 1,rfl,by omega,c1,ls3,lok,fun r H' e b=>qe r H' (xc off ew e) (b3.trans b),fun dl us fp G4 ds i' c' e cc c20' mv4 hdl pr nd nw l40=>⟨by show 1<=aw; omega,fun t5 ht5=>?_⟩⟩);have u5:=ax ht5 (.tup [.ref dl]);have ht5':=u5 _ _ (ls3.tup mv4.bt ht3);refine ⟨t,t5,_,_,rfl,rfl,SqT.of ht5',SqT.of ao,by simp,by show 3 + 1<=aw; omega,fun z=>(by cases z),fun _ t6 ht6=>?_⟩;have u6:=ax ht6 (.tup ([.str "pull",.str x,.str y]++[.ref dl]));have u:=u5.trans u6;refine q _ _ (some (.pull x y ds)) i' c' (x9 off ew e) c20' ⟨mv4.ls.same u,b3.trans (mv4.bt.same u)⟩ ⟨by omega,by omega,dl :: fp,⟨t6,dl,us,fp,rfl,ao,u _ _ hdl,?_,rfl⟩,nd,fun a m=>nn (nw a m)⟩;have:k - 1 + 1=k:=by omega
   rw [this] at pr;exact pr.mono fun _ _ _ _ i=>i.kx (Kx.of_same u)
  | iff f =>
   obtain ⟨u0,rfl,fo⟩:=hk;refine aH ⟨_,rfl,t,_,0,_,rfl,rfl,SqT.of ht3,rfl,rfl,_,rfl,?_⟩;rw [rP,decide_eq_false (by decide)];refine c9 ?_;dsimp only [dX];refine aH ⟨_,rfl,t,_,0,_,rfl,rfl,SqT.of ht3,rfl,rfl,_,rfl,?_⟩;rw [rP,decide_eq_true rfl];have kk:k - 1 + 1=k:=by omega
   refine cT (aH (bW ⟨_,rfl,_,rfl,_,_,rfl,rfl,by omega,s,l,L,i + 1,c + 1,d + 1,rfl,by omega,c1,ls3,lok,fun r H' e b=>qe r H' (A8 off ew e) (b3.trans b),fun dl us fp G4 as i' c' e cc c20' mv4 hdl pr nd nw l40=>aF ?_⟩));dsimp only;rw [kk] at pr;have ht4:=ls3.tup mv4.bt ht3;have b4:=b3.trans mv4.bt;obtain ⟨dx4,hs4⟩:=mv4.ls.1;refine aH ⟨_,rfl,s,dx4,_,rfl,hs4,rfl,_,rfl,_,_,rfl,rfl,s,l,L,i',c',d + 1,rfl,mv4.ls,lok,by omega,fun p5 G5 hp5 s5 hG5=>⟨by show 1<=aw; omega,fun p6 hp6=>?_⟩⟩;have u6:=ax hp6 (.lst [.str "else"]);refine ⟨p5,p6,_,[("else":Str)],rfl,rfl,u6 _ _ hG5,ao,_,rfl,?_⟩;have s56:=s5.trans u6;have ls6:=mv4.ls.same s56
   by_cases ce:cH L i' (d + 1)=[("else":Str)]
   ·rw [decide_eq_true ce];refine c9 ?_;dsimp only [dX];obtain ⟨dx6,hs6⟩:=ls6.1;refine aH ⟨_,rfl,s,dx6,_,rfl,hs6,rfl,s,l,L,i',c',rfl,ls6,fun G7 ls7 b7 n7=>?_⟩;dsimp only;have b47:But s G4 G7:=(fU s56).trans b7;have ns:s∉dl :: fp:=fun m=>by
     have:=nw s m;obtain ⟨⟨_,e'⟩,_⟩:=ls3;rw [this] at e'
     cases e'
    have kx47:Kx (dl :: fp) G4 G7:=rR mv4.ls b47 ns;have hdl7:=kx47.2 dl (by simp) _ hdl;have pr7:=pr.mono fun _ _ _ s' i=>i.kx (kx47.sub fun b m=>az _ (s' b m));refine dR ⟨_,rfl,_,rfl,_,rfl,_,rfl,_,_,rfl,rfl,by omega,s,l,L,i' + 1,c',d + 1,rfl,by omega,c20',ls7,lok,fun r H' e2 b=>qe r H' (zc off ew e cc ce e2) ((b4.trans b47).trans b),fun dl2 us2 fp2 G8 bs i2 c2 e2 cc2 c220 mv8 hdl2 pr2 nd2 nw2 l40'=>⟨by show 2<=aw; omega,fun t5 ht5=>?_⟩⟩;rw [kk] at pr2;have kx8:Kx (dl :: fp) G7 G8:=rR ls7 mv8.bt ns;have hdl8:=kx8.2 dl (by simp) _ hdl7;have pr8:=pr7.mono fun _ _ _ s' i=>i.kx (kx8.sub fun b m=>az _ (s' b m));have tk8:∀ t xs,G1 t=some (.tup xs)->G8 t=some (.tup xs):=fun t xs e=>ls7.tup mv8.bt (mv4.ls.tup b47 (ls3.tup mv4.bt (tk3 t xs e)));have u9:=ax ht5 (.tup [.ref dl,.ref dl2]);refine ⟨t,t5,_,_,rfl,rfl,SqT.of (u9 _ _ (tk8 _ _ ht)),SqT.of ao,by simp,by show 2 + 2<=aw; omega,fun z=>(by cases z),fun _ t6 ht6=>?_⟩;have u10:=ax ht6 (.tup ([.str "if",u0]++[.ref dl,.ref dl2]));have u:=u9.trans u10;have bH8:But s H G8:=(b4.trans b47).trans mv8.bt;have in7:∀ a∈dl :: fp,∃ xs,G7 a=some (.lst xs):=fun a m=>by
     rcases ar.mp m with rfl | m
     ·exact ⟨_,hdl7⟩
     ·exact pr7.lists (fun _ _ _=>DeF.lists) a m
    refine q _ _ (some (.iff f as bs)) i2 c2 (Er off ew e cc ce e2) c220 ⟨mv8.ls.same u,bH8.same u⟩ ⟨by omega,by omega,(dl :: fp)++(dl2 :: fp2),⟨t6,dl,dl2,u0,us,us2,fp,fp2,rfl,ao,(fo.up tk8).same u,u _ _ hdl8,pr8.mono fun _ _ _ _ i=>i.kx (Kx.of_same u),u _ _ hdl2,pr2.mono fun _ _ _ _ i=>i.kx (Kx.of_same u),rfl⟩,?_,fun a m=>?_⟩
    ·refine dM.mpr ⟨nd,nd2,fun a ha b hb z=>?_⟩;subst z;obtain ⟨xs,e'⟩:=in7 a ha;rw [nw2 a hb] at e'
     cases e'
    ·rcases aN.mp m with m | m
     ·exact nn (nw a m)
     ·refine eF fun o z=>?_;have:=nw2 a m
      by_cases as':a=s
      ·subst as';obtain ⟨⟨_,e'⟩,_⟩:=ls7;rw [this] at e'
       cases e'
      ·rw [(b4.trans b47) _ _ z as'] at this
       cases this
   ·rw [decide_eq_false ce];refine cT ?_;obtain ⟨dx6,hs6⟩:=ls6.1;refine ⟨_,rfl,s,C,dx6,_,_,rfl,hs6,T.cl,T.nP,rfl,_,_,rfl,rfl,i' + 1,rfl,qe _ _ (A9 off ew e ce) (b4.same s56)⟩
end
def jy (L:List Str):Nat->Nat->List (Str×List De)->Except Nat (List (Str×List De)×Nat)
 | 0,i,acc=>.ok (acc,i)
 | n + 1,i,acc=>match ek L i 1 "on" 2 (acc.map (·.1)) with
  | some [_,nm]=>(match kn L 42 1 (i + 1) 0 with
   | .error e=>.error e
   | .ok (ds,i',_)=>jy L n i' (acc++[(nm,ds)]))
  | _=>.ok (acc,i)
def HrF (H:Hp) (h:Str×List De) (v:V) (fp:List ak):Prop:=∃ (t l:ak) (us:List V) (as:List ak),v=.ref t/\H t=some (.tup [.str h.1,.ref l])/\H l=some (.lst us)/\Prs (DeF H 6) h.2 us as/\fp=l :: as/\h.2.length<=40
theorem HrF.kx {H H':Hp} {h:Str×List De} {v:V} {fp:List ak} (k:Kx fp H H') (i:HrF H h v fp):HrF H' h v fp:=by
 obtain ⟨t,l,us,as,rfl,e1,e2,e3,rfl,e4⟩:=i;exact ⟨t,l,us,as,rfl,k.1 _ _ e1,k.2 _ (by simp) _ e2,e3.mono fun x v a s i=>i.kx (k.sub fun b m=>az _ (s b m)),rfl,e4⟩
theorem HrF.lists {H:Hp} {h:Str×List De} {v:V} {fp:List ak} (i:HrF H h v fp):∀ b∈fp,∃ xs,H b=some (.lst xs):=by
 obtain ⟨t,l,us,as,rfl,e1,e2,e3,rfl,e4⟩:=i;intro b m
 rcases ar.mp m with rfl | m
 ·exact ⟨_,e2⟩
 ·exact e3.lists (fun _ _ _=>DeF.lists) b m
section
variable {P:aQ} {w:bT} {K:ai} {mg:Str->Option ag} {base:cP} {f fE fS fO fW fP fN fIn C CN D':ak} {fd fdE fdS fdO fdW fdP fdN fdIn:cF}
seal PS PSs PE PA PT PW PI PG PGs PC PSC PSsC PEC PTC PAC PPs
theorem Bb (DE:Df K mg "deed_from" la pDd fE fdE) (DS:Df K mg "deeds_from" ju pDs fS fdS) (DO:Df K mg "deed_of" o7 pDo fO fdO) (GO:dP P w K mg base CX0 63 fO fdO pDo (Ep iD)) (MW:Mt K C "words" "Lines.words" gC pWd fW fdW) (GW:cW P w K mg base CX0 2 fW fdW pWd (El C)) (MP:Mt K C "pass_by" "Lines.pass_by" dQ pPb fP fdP) (N:NT K mg CN D' fIn fdIn) (T:LT K mg C) (B:Bl mg) :
  ∀ k,dP P w K mg base (CXl P w) (64 + 2 * k) fE fdE pDd (IV C CN k)/\dP P w K mg base (CXl P w) (65 + 2 * k) fS fdS pDs (vE C CN k)
 | 0=>by
  have G0:dP P w K mg base (CXl P w) 63 fS fdS pDs (fun vs H Q E=>1<=0/\vE C CN (0 - 1) vs H Q E):=DS.F.okLC Es (fun vs H Q E h=>absurd h.1 (by decide)) (fun cdv A outer s H vs Q E hr h=>absurd h.1 (by decide));have G1:=Ba (k:=0) DE DO GO DS G0 (ay _) MW GW MP N T B;exact ⟨G1,sR DS DE G1 B⟩
 | k + 1=>by
  have ih:=(Bb DE DS DO GO MW GW MP N T B k).2;have G0:dP P w K mg base (CXl P w) (65 + 2 * k) fS fdS pDs (fun vs H Q E=>1<=k + 1/\vE C CN (k + 1 - 1) vs H Q E):=⟨fun vs H Q E h=>ih.len vs H Q E h.2,fun A outer s H args us vs Q E a b c d h=>ih.run A outer s H args us vs Q E a b c d h.2⟩;have G1:=Ba (k:=k + 1) DE DO GO DS G0 (by omega) MW GW MP N T B;rw [show 65 + 2 * k + 1=64 + 2 * (k + 1) by omega] at G1;have G2:=sR DS DE G1 B;rw [show 64 + 2 * (k + 1) + 1=65 + 2 * (k + 1) by omega] at G2;exact ⟨G1,G2⟩
inductive Hw (C CN:ak) (vs:List V) (H:Hp) (Q:VK) (E:XK):Prop where
 | mk (s l:ak) (L:List Str) (i c:Nat) (_:vs=[.ref s]) (_:LsI C H s l L i c) (_:LOk L) (_:(∀ r H',jy L 4 i []=.error r->But s H H'->E (.ref CN) (some r) H')) (_:(∀ hl us fp H' hs j c',jy L 4 i []=.ok (hs,j)->Mv C H H' s l L j c'->H' hl=some (.lst us)->Prs (HrF H') hs us fp->(hl :: fp).Nodup->(∀ a∈hl :: fp,H a=none)->hs.length<=4->Q (.ref hl) H')):Hw C CN vs H Q E
def spHf (C CN:ak):Sp:=fun vs H Q E=>Hw C CN vs H Q E
abbrev nHf:List Str:=["lines","hears","words"]
abbrev pHf:List Str:=["lines"]
theorem IX:cK nHf pHf (aZ kf):={}
theorem ndHf:((["heard"]:List Str)++nHf).Nodup:=by decide +kernel
theorem ok_hf (D:Df K mg "hears_from" kf pHf f fd) (MN:Mt K C "named" "Lines.named" gD pNd fN fdN) (GN:cW P w K mg base CX0 3 fN fdN pNd (Em C)) (MP:Mt K C "pass_by" "Lines.pass_by" dQ pPb fP fdP) (DS:Df K mg "deeds_from" ju pDs fS fdS) (GS:dP P w K mg base (CXl P w) 75 fS fdS pDs (vE C CN 5)) (T:LT K mg C) (B:Bl mg):dP P w K mg base (CXl P w) 76 f fd pHf (spHf C CN):=by
 have GP:cW P w K mg base CX0 1 fP fdP pPb (Au C):=w6 MP T;refine D.F.okLC IX (fun vs H Q E h=>?_) (fun cdv A outer s H vs Q E hr h=>?_)
 ·obtain ⟨s,l,L,i,c,rfl,_⟩:=h;rfl
 obtain ⟨s,l,L,i,c,rfl,ls,lok,qe,q⟩:=h;have rk:dj 75 _:=hr;have r3:dj 3 _:=rk.mono (by omega);have r1:dj 1 _:=rk.mono (by omega);refine ⟨_,aR (bJ (i:=1) IX.nd rfl (Or.inl rfl) (cA aj)).c
  (aR (qS jt.own (bh om (cR (dz K (by rfl)) (by rfl) B.len bE (bD (pv 1) aj)) aq (bR _)) (aR (bJ (i:=2) IX.nd rfl (Or.inl rfl) (oo (pv 0) T.cl MN.m GN r3 MN.b .nil bM (bo aq (bo aB (bo aq (ft (lR ["heard"] (hW.open (NN:=nHf) (N:=nHf) (sc:=aZ kf) rfl rfl (by decide +kernel) rfl (by decide +kernel) (by decide +kernel) rfl (by decide +kernel)) rfl (gx (pv 1)) (fun _ _ _ _=>df (i:=0) ndHf rfl (Or.inl rfl)) (fun _ _ _ _=>jr) (fun _ _ _ _=>cg (uz K (by rfl)) (pv 0) aq (fun _ _=>rfl))) aj)))))).c
  (aR (du (bh j3 (pv 2) dJ (bR _)) (aO r9) bX).c
  (aR (fZ (j7 (pv 0) T.cl MP.m GP r1 MP.b .nil bM)).c
  (aR (xt (pv 0) aq rfl).c
  (hJ (yW (DU bZ cB cC fw (pv 1) (iL (uy (iL ((cg cw (pv 2) aq (fun _ _=>rfl)).c) (iL (dq GS rk (by rfl) DS.m DS.F.kp DS.b .nil (jt.passes fun _ _ _ z=>z) (bD (pv 0) (bo aq aj))) (aj).c))) (aj).c) (hs:=vk)))))))))
  (aO (bO (pv 1))).c),?_⟩
 obtain ⟨res,hres⟩:∃ r,jy L 4 i []=r:=⟨_,rfl⟩;rw [hres] at q qe;have big:=dC;refine aH (bW ⟨aU _,fun bl hbl=>aF ?_⟩);dsimp only;have t0:=ax hbl (.lst []);obtain ⟨nbs,nbl⟩:=ls.nes hbl;refine aH ⟨fun m σ G=>∃ (acc:List (Str×List De)) (us:List V) (fp:List ak) (j cc:Nat) (u2:Option V),σ=[some (.ref s),some (.ref bl),u2]/\m=4 - acc.length/\acc.length<=4/\Mv C H G s l L j cc/\G bl=some (.lst us)/\Prs (HrF G) acc us fp/\(bl :: fp).Nodup/\(∀ a∈bl :: fp,H a=none)/\res=jy L (4 - acc.length) j acc,
  ⟨4,[],[],[],i,c,none,rfl,rfl,by decide,⟨ls.same t0,fU t0⟩,ao,.nil,by simp,(fun a m=>by rw [au.mp m]; exact hbl),hres.symm⟩,?_⟩
 rintro m σ G ⟨acc,us,fp,j,cc,u2,rfl,rfl,a4,mv,hG,pr,nd,nw,eq⟩;have ul:=pr.len;refine ⟨_,rfl,bl,_,rfl,.inl (SqL.of hG),_,_,rfl,rfl,_,rfl,?_⟩;rw [<- ul];have hsn:∀ {a:ak},H a=none->a≠s:=fun z=>(ls.nes z).1;have ns:s∉bl :: fp:=fun m=>hsn (nw s m) rfl;have fin:∀ {G:Hp} {u2:Option V},res=.ok (acc,j)->Mv C H G s l L j cc->G bl=some (.lst us)->Prs (HrF G) acc us fp->vN (kF 1) {nx:=fun x H'=>Q V.non H',rt:=Q} [some (.ref s),some (.ref bl),u2] G:=fun e mv hG pr=>dR ⟨_,rfl,q bl us fp _ acc j cc e mv hG pr nd nw a4⟩
 by_cases a3:acc.length < 4
 ·rw [decide_eq_true (show (acc.length:Int) < 4 by omega)];obtain ⟨n,hn⟩:∃ n,4 - acc.length=n + 1:=⟨4 - acc.length - 1,by omega⟩;rw [hn] at eq;rw [jy] at eq;refine cT ⟨fun σ' G'=>∃ m',m' < 4 - acc.length/\_,fun _ _ z=>z,?_⟩;obtain ⟨dx,hs⟩:=mv.ls.1;refine aH (bW ⟨_,rfl,s,dx,_,rfl,hs,rfl,?_⟩);dsimp only [gS,tC];refine qW acc (fun q=>q.1) (a:=bl) (us:=us) (fun R hR=>⟨_,rfl,hR⟩) hG ul (by omega) (fun k u x G' R hu hx sG hR=>?_) fun p1 G1 s1 hp1=>?_
  ·obtain ⟨x',_,hx',_,t,l',_,_,rfl,ht,_⟩:=pr.at hu;rw [hx] at hx'
   cases hx';exact ⟨_,rfl,t,_,0,_,rfl,rfl,SqT.of (sG _ _ ht),rfl,hR _ (cO.refl _)⟩
  have s1':=s1.trans (ax hp1 (.lst ((acc.map fun q=>q.1).map V.str)));refine ⟨s,l,p1,L,j,cc,1,2,"on",acc.map (·.1),rfl,mv.ls.same s1',lok,by decide,by decide,by decide,ao,fun G2 en g2=>aF ?_,fun ws p2 G2 en hp2 g2 hws=>aF ?_⟩
  ·rw [en] at eq;have sG:=s1'.trans g2;refine aH ⟨_,rfl,rfl,_,rfl,cT ?_⟩;exact fin eq (mv.same sG) (sG _ _ hG) (pr.mono fun _ _ _ _ i=>i.kx (Kx.of_same sG))
  ·obtain ⟨wl,wp,_⟩:=ph en;obtain ⟨w0,nm,rfl⟩:=A5 wl;rw [en] at eq;dsimp only at eq;have sG:=s1'.trans g2;have mv2:=mv.same sG;have hG2:=sG _ _ hG;refine aH ⟨_,rfl,rfl,_,rfl,c9 ?_⟩;dsimp only [dX];obtain ⟨dx3,hs3⟩:=mv2.ls.1;refine aH ⟨_,rfl,s,dx3,_,rfl,hs3,rfl,s,l,L,j,cc,rfl,mv2.ls,fun G4 ls4 b4 n4=>?_⟩;dsimp only;have nls4:=ls4.ne;obtain ⟨⟨dx4,hs4⟩,hl4⟩:=ls4;refine aH ⟨_,rfl,s,C,dx4,_,rfl,hs4,T.cl,T.nD,(show 3 < 1000 by decide),?_⟩;dsimp only;have ls5:LsI C (upd G4 s (.ins C dx4 (lP "deed_count" (.int 0) [("lines",.ref l),("place",.int ((j + 1:Nat):Int)),("deed_count",.int (cc:Int))]))) s l L (j + 1) 0:=⟨⟨dx4,by rw [ao]; rfl⟩,by rw [aT nls4]; exact hl4⟩;have b25:But s G2 (upd G4 s (.ins C dx4 (lP "deed_count" (.int 0) [("lines",.ref l),("place",.int ((j + 1:Nat):Int)),("deed_count",.int (cc:Int))]))):=b4.trans (But.upd _ _ _);generalize upd G4 s (.ins C dx4 (lP "deed_count" (.int 0) [("lines",.ref l),("place",.int ((j + 1:Nat):Int)),("deed_count",.int (cc:Int))]))=G5 at ls5 b25;have bH5:=mv2.bt.trans b25;have hG5:=b25 _ _ hG2 nbs;have np2:p2≠s:=(mv.ls.nes (eF fun o z=>by rw [s1' _ _ z] at hp2; cases hp2)).1;have hws5:=b25 _ _ hws np2;have kx5:Kx (bl :: fp) G2 G5:=rR mv2.ls b25 ns;have pr5:=(pr.mono fun _ _ _ _ i=>HrF.kx (Kx.of_same sG) i).mono fun _ _ _ s' i=>HrF.kx (kx5.sub fun b m=>az _ (s' b m)) i;refine ⟨_,rfl,.inl ⟨rfl,_,SqL.of hG5⟩,_,rfl,p2,_,1,_,rfl,rfl,SqL.of hws5,rfl,_,rfl,s,l,L,j + 1,0,1,rfl,rfl,aU _,ls5,lok,fun r H' e b=>qe r H' ?_ (bH5.trans b),fun dl vs as G6 ds i' c' e cc0 c20 mv6 hdl prd ndd nwd l40=>⟨by show 2<=aw; omega,fun t ht=>?_⟩⟩
   ·rw [eq,e 42 (by omega)]
   have u7:=ax ht (.tup [.str nm,.ref dl]);have ns5:s∉bl :: fp:=ns;have kx6:Kx (bl :: fp) G5 G6:=rR ls5 mv6.bt ns;have hG6:=kx6.2 bl (by simp) _ hG5;have pr6:=pr5.mono fun _ _ _ s' i=>HrF.kx (kx6.sub fun b m=>az _ (s' b m)) i;refine ⟨bl,us,_,rfl,rfl,u7 _ _ hG6,by omega,?_⟩;have in5:∀ a∈bl :: fp,∃ xs,G5 a=some (.lst xs):=fun a m=>by
    rcases ar.mp m with rfl | m
    ·exact ⟨_,hG5⟩
    ·exact pr5.lists (fun _ _ _=>HrF.lists) a m
   have ndall:((bl :: fp)++(dl :: as)).Nodup:=dM.mpr ⟨nd,ndd,fun a ha b hb z=>by
    subst z;obtain ⟨xs,e'⟩:=in5 a ha;rw [nwd a hb] at e'
    cases e'⟩
   have nwall:∀ a∈dl :: as,H a=none:=fun a m=>eF fun o z=>by
    have:=nwd a m
    by_cases as':a=s
    ·subst as';obtain ⟨⟨_,e'⟩,_⟩:=ls5;rw [this] at e'
     cases e'
    ·rw [bH5 _ _ z as'] at this
     cases this
   have nbx:bl∉fp++(dl :: as):=(eM.mp ndall).1;have kx7:Kx (fp++(dl :: as)) (upd G6 t (.tup [.str nm,.ref dl])) (upd (upd G6 t (.tup [.str nm,.ref dl])) bl (.lst (us++[.ref t]))):=Kx.of_but (u7 _ _ hG6) (But.upd _ _ _) nbx;have hr6:HrF (upd G6 t (.tup [.str nm,.ref dl])) (nm,ds) (.ref t) (dl :: as):=⟨t,dl,vs,as,rfl,ao,u7 _ _ hdl,prd.mono fun _ _ _ _ i=>i.kx (Kx.of_same u7),rfl,l40⟩;refine ⟨3 - acc.length,by omega,acc++[(nm,ds)],us++[.ref t],fp++(dl :: as),i',c',_,rfl,by rw [af]; show _=4 - (_ + 1); omega,by rw [af]; show _ + 1<=4; omega,⟨(mv6.ls.same u7).upd (u7 _ _ hG6) nbs nbl,fun b o e n=>?_⟩,ao,?_,ndall,fun a m=>?_,?_⟩
   ·rw [aT (bF e hbl)];exact u7 _ _ (mv6.bt _ _ (bH5 _ _ e n) n)
   ·refine Prs.app (pr6.mono fun _ _ _ s' i=>(HrF.kx (Kx.of_same u7) i).kx (kx7.sub fun b m=>cS _ (s' b m))) ?_;rw [<- bq (dl :: as)];exact .cons (hr6.kx (kx7.sub fun b m=>aP _ m)) .nil
   ·rcases ar.mp m with rfl | m
    ·exact hbl
    rcases aN.mp m with m | m
    ·exact nw a (az _ m)
    ·exact nwall a m
   ·rw [eq,e 42 (by omega),af,show 4 - (acc.length + [(nm,ds)].length)=n from by show 4 - (acc.length + 1)=n; omega]
 ·rw [decide_eq_false (show ¬ (acc.length:Int) < 4 by omega)];refine c9 ?_;refine fin ?_ mv hG pr;rw [eq,show 4 - acc.length=0 by omega];rfl
end
def kq (L:List Str) (i:Nat) (nm:Str):Except Nat (Mo×Nat):=match jy L 4 (jj L (gg L ((fk L 6 i []).1.map (·.1)) 3 (fk L 6 i []).2 []).2).2 [] with
 | .error e=>.error e
 | .ok (hs,j)=>.ok (⟨nm,(fk L 6 i []).1,(gg L ((fk L 6 i []).1.map (·.1)) 3 (fk L 6 i []).2 []).1,(jj L (gg L ((fk L 6 i []).1.map (·.1)) 3 (fk L 6 i []).2 []).2).1,hs⟩,j)
def MoF (H:Hp) (M:Mo) (v:V) (fp:List ak):Prop:=∃ (t lb lq ld lh:ak) (bs hs:List V) (fh:List ak),v=.ref t/\H t=some (.tup [.str M.nm,.ref lb,.ref lq,.ref ld,.ref lh])/\H lb=some (.lst bs)/\cL (BxI H) M.bx bs/\H lq=some (.lst (M.qs.map V.str))/\H ld=some (.lst (M.dr.map V.int))/\H lh=some (.lst hs)/\Prs (HrF H) M.hr hs fh/\fp=lb :: lq :: ld :: lh :: fh
theorem BxI.kx {H H':Hp} {q:Str×Int} {v:V} {fp:List ak} (k:Kx fp H H') (i:BxI H q v):BxI H' q v:=by
 obtain ⟨t,rfl,e⟩:=i;exact ⟨t,rfl,k.1 _ _ e⟩
theorem MoF.kx {H H':Hp} {M:Mo} {v:V} {fp:List ak} (k:Kx fp H H') (i:MoF H M v fp):MoF H' M v fp:=by
 obtain ⟨t,lb,lq,ld,lh,bs,hs,fh,rfl,e1,e2,e3,e4,e5,e6,e7,rfl⟩:=i;exact ⟨t,lb,lq,ld,lh,bs,hs,fh,rfl,k.1 _ _ e1,k.2 _ (by simp) _ e2,iJ (fun _ _ i=>i.kx k) e3,k.2 _ (by simp) _ e4,k.2 _ (by simp) _ e5,k.2 _ (by simp) _ e6,e7.mono fun x v a s i=>i.kx (k.sub fun b m=>by simp [s b m]),rfl⟩
theorem MoF.lists {H:Hp} {M:Mo} {v:V} {fp:List ak} (i:MoF H M v fp):∀ b∈fp,∃ xs,H b=some (.lst xs):=by
 obtain ⟨t,lb,lq,ld,lh,bs,hs,fh,rfl,e1,e2,e3,e4,e5,e6,e7,rfl⟩:=i;intro b m;simp only [ar] at m
 rcases m with rfl | rfl | rfl | rfl | m
 ·exact ⟨_,e2⟩
 ·exact ⟨_,e4⟩
 ·exact ⟨_,e5⟩
 ·exact ⟨_,e6⟩
 ·exact e7.lists (fun _ _ _=>HrF.lists) b m
theorem vF (L:List Str):∀ (n i:Nat) (acc:List (Str×Int)),(fk L n i acc).1.length<=acc.length + n
 | 0,i,acc=>by show acc.length<=_; omega
 | n + 1,i,acc=>by
  rw [fk]
  split
  ·split
   ·refine bN (vF L n _ _) ?_;rw [af];show acc.length + 1 + n<=_;omega
   ·show acc.length<=_; omega
  ·show acc.length<=_; omega
section
variable {P:aQ} {w:bT} {K:ai} {mg:Str->Option ag} {base:cP} {f fB fQ fD fH fM fN fP fL fBe fIn C CN D':ak} {fd fdB fdQ fdD fdH fdM fdN fdP fdL fdBe fdIn:cF}
seal PS PSs PE PA PT PW PI PG PGs PC PSC PSsC PEC PTC PAC PPs
inductive Hx (C CN:ak) (vs:List V) (H:Hp) (Q:VK) (E:XK):Prop where
 | mk (s l:ak) (L:List Str) (i c:Nat) (nm:Str) (_:vs=[.ref s,.str nm]) (_:LsI C H s l L i c) (_:LOk L) (_:(∀ r H',kq L i nm=.error r->But s H H'->E (.ref CN) (some r) H')) (_:(∀ v fp H' M j c',kq L i nm=.ok (M,j)->Mv C H H' s l L j c'->MoF H' M v fp->fp.Nodup->(∀ a∈fp,H a=none)->Q v H')):Hx C CN vs H Q E
def spMf (C CN:ak):Sp:=fun vs H Q E=>Hx C CN vs H Q E
abbrev nMf:List Str:=["lines","name","boxes","queues","draws"]
abbrev pMf:List Str:=["lines","name"]
theorem F8:cK nMf pMf (aZ jg):={}
theorem ndMf:((["box"]:List Str)++nMf).Nodup:=by decide +kernel
theorem ok_mf (D:Df K mg "machine_from" jg pMf f fd) (DB:Df K mg "boxes_from" kb pBf fB fdB) (GB:dP P w K mg base CX0 4 fB fdB pBf (spBf C)) (DQ:Df K mg "queues_from" kQ pQf fQ fdQ) (GQ:cW P w K mg base CX0 4 fQ fdQ pQf (spQf C)) (DD:Df K mg "draws_from" kd pDf fD fdD) (GD:dP P w K mg base CX0 3 fD fdD pDf (spDf C)) (DH:Df K mg "hears_from" kf pHf fH fdH) (GH:dP P w K mg base (CXl P w) 76 fH fdH pHf (spHf C CN)) (T:LT K mg C) (B:Bl mg):dP P w K mg base (CXl P w) 77 f fd pMf (spMf C CN):=by
 refine D.F.okLC F8 (fun vs H Q E h=>?_) (fun cdv A outer s H vs Q E hr h=>?_)
 ·obtain ⟨s,l,L,i,c,nm,rfl,_⟩:=h;rfl
 obtain ⟨s,l,L,i,c,nm,rfl,ls,lok,qe,q⟩:=h;have rk:dj 76 _:=hr;have r4:dj 4 _:=rk.mono (by omega);have r3:dj 3 _:=rk.mono (by omega);refine ⟨_,aR (iG (i:=2) F8.nd rfl (Or.inl rfl) (dq GB r4 (by rfl) DB.m DB.F.kp DB.b .nil bM (bD (pv 0) aj)))
  (aR (bJ (i:=3) F8.nd rfl (Or.inl rfl) (br GQ r4 (by rfl) DQ.m DQ.F.kp DQ.b .nil bM (bD (pv 0) (ft (lR ["box"] (hW.open (NN:=nMf) (N:=nMf) (sc:=aZ jg) rfl rfl (by decide +kernel) rfl (by decide +kernel) (by decide +kernel) rfl (by decide +kernel)) rfl (gx (pv 2)) (fun _ _ _ _=>df (i:=0) ndMf rfl (Or.inl rfl)) (fun _ _ _ _=>jr) (fun _ _ _ _=>cg (uz K (by rfl)) (pv 0) aq (fun _ _=>rfl))) aj)))).c
  (aR (iG (i:=4) F8.nd rfl (Or.inl rfl) (dq GD r3 (by rfl) DD.m DD.F.kp DD.b .nil bM (bD (pv 0) aj)))
  (hJ (pQ (uy (iL ((pv 1).c) (iL ((pv 2).c) (iL ((pv 3).c) (iL ((pv 4).c) (iL (dq GH rk (by rfl) DH.m DH.F.kp DH.b .nil (jt.passes fun _ _ _ z=>z) (bD (pv 0) aj)) (aj).c)))))))))),?_⟩
 have big:=dC;unfold kq at q qe;have bl6:=vF L 6 i [];have hsn:∀ {a:ak},H a=none->a≠s:=fun z=>(ls.nes z).1;refine aH (bW ⟨_,rfl,s,l,L,i,c,rfl,ls,lok,fun lb bs G1 hlb mv1 hb1 prb=>aF ?_⟩);dsimp only;generalize fk L 6 i []=bx at *;have bl:=kW prb;have nb:=hsn hlb;have nn1:∀ {a:ak},G1 a=none->H a=none:=fun {a} e=>eF fun o z=>by
  by_cases as:a=s
  ·subst as;obtain ⟨⟨_,e'⟩,_⟩:=mv1.ls;rw [e] at e'
   cases e'
  ·rw [mv1.bt _ _ z as] at e
   cases e
 refine aH (bW ⟨_,rfl,?_⟩);refine qW bx.1 (fun q=>q.1) (a:=lb) (us:=bs) (fun R hR=>⟨_,rfl,hR⟩) hb1 bl (by simp at bl6; omega) (fun k u x G' R hu hx sG hR=>?_) fun p1 G2 s2 hp1=>?_
 ·obtain ⟨x',hx',t,rfl,ht⟩:=iw prb hu;rw [hx] at hx'
  cases hx';exact ⟨_,rfl,t,_,0,_,rfl,rfl,SqT.of (sG _ _ ht),rfl,hR _ (cO.refl _)⟩
 have s2':=s2.trans (ax hp1 (.lst ((bx.1.map fun q=>q.1).map V.str)));have mv2:=mv1.same s2';have nn2:∀ {a:ak},(upd G2 p1 (.lst ((bx.1.map fun q=>q.1).map V.str))) a=none->G1 a=none:=fun {a} e=>eF fun o z=>by rw [s2' _ _ z] at e; cases e
 refine ⟨s,l,p1,L,bx.2,c,bx.1.map (·.1),rfl,mv2.ls,lok,ao,by rw [aa]; simp at bl6; omega,fun lq G3 hlq mv3 hq3=>aF ?_⟩;dsimp only;generalize gg L (bx.1.map (·.1)) 3 bx.2 []=qq at *;have nlq:H lq=none:=nn1 (nn2 hlq);have nq:=hsn nlq;refine aH (bW ⟨_,rfl,s,l,L,qq.2,c,rfl,mv3.ls,lok,fun ld G4 hld mv4 hd4=>aF ?_⟩);dsimp only;generalize jj L qq.2=dd at *;have nn3:∀ {a:ak},G3 a=none->(upd G2 p1 (.lst ((bx.1.map fun q=>q.1).map V.str))) a=none:=fun {a} e=>eF fun o z=>by
  by_cases as:a=s
  ·subst as;obtain ⟨⟨_,e'⟩,_⟩:=mv3.ls;rw [e] at e'
   cases e'
  ·rw [mv3.bt _ _ z as] at e
   cases e
 have nn4:∀ {a:ak},G4 a=none->G3 a=none:=fun {a} e=>eF fun o z=>by
  by_cases as:a=s
  ·subst as;obtain ⟨⟨_,e'⟩,_⟩:=mv4.ls;rw [e] at e'
   cases e'
  ·rw [mv4.bt _ _ z as] at e
   cases e
 have nld:H ld=none:=nn1 (nn2 (nn3 hld));have nd':=hsn nld;have bH4:But s H G4:=(mv1.bt.same s2').trans (mv3.bt.trans mv4.bt);have b14:But s G1 G4:=(fU s2').trans (mv3.bt.trans mv4.bt);have hb4:=b14 _ _ hb1 nb;have hq4:=mv4.bt _ _ hq3 nq;have prb4:cL (BxI G4) bx.1 bs:=iJ (fun _ _ ⟨t,e1,e2⟩=>⟨t,e1,mv1.ls.tup b14 e2⟩) prb;have nlbq:lb≠lq:=fun z=>by rw [z] at hb1; rw [nn2 hlq] at hb1; cases hb1
 have nlbd:lb≠ld:=fun z=>by rw [z] at hb1; rw [nn2 (nn3 hld)] at hb1; cases hb1
 have nlqd:lq≠ld:=fun z=>by rw [z] at hq3; rw [hld] at hq3; cases hq3
 refine dR ⟨_,rfl,_,rfl,_,rfl,_,rfl,_,rfl,s,l,L,dd.2,c,rfl,mv4.ls,lok,fun r H' e b=>qe r H' (by rw [e]) (bH4.trans b),fun lh hs fh G5 hh j c' e mv5 hh5 prh ndh nwh _=>⟨by show 5<=aw; omega,fun t ht=>?_⟩⟩;have u6:=ax ht (.tup [.str nm,.ref lb,.ref lq,.ref ld,.ref lh]);have hb5:=u6 _ _ (mv5.bt _ _ hb4 nb);have hq5:=u6 _ _ (mv5.bt _ _ hq4 nq);have hd5:=u6 _ _ (mv5.bt _ _ hd4 nd');have prb5:cL (BxI (upd G5 t (.tup [.str nm,.ref lb,.ref lq,.ref ld,.ref lh]))) bx.1 bs:=iJ (fun _ _ ⟨t',e1,e2⟩=>⟨t',e1,u6 _ _ (mv4.ls.tup mv5.bt e2)⟩) prb4;have nwH:∀ a∈lh :: fh,H a=none:=fun a m=>nn1 (nn2 (nn3 (nn4 (nwh a m))));have out:∀ {a:ak} {xs:List V},G4 a=some (.lst xs)->a∉lh :: fh:=fun e m=>by rw [nwh _ m] at e; cases e
 refine q (.ref t) (lb :: lq :: ld :: lh :: fh) _ ⟨nm,bx.1,qq.1,dd.1,hh⟩ j c' (by rw [e]) ⟨mv5.ls.same u6,(bH4.trans mv5.bt).same u6⟩ ⟨t,lb,lq,ld,lh,bs,hs,fh,rfl,ao,hb5,prb5,hq5,hd5,u6 _ _ hh5,prh.mono fun _ _ _ _ i=>i.kx (Kx.of_same u6),rfl⟩ ?_ fun a m=>?_
 ·refine eM.mpr ⟨fun m=>?_,eM.mpr ⟨fun m=>?_,eM.mpr ⟨out hd4,ndh⟩⟩⟩
  ·rcases ar.mp m with z | m
   ·exact nlbq z
   rcases ar.mp m with z | m
   ·exact nlbd z
   ·exact out hb4 m
  ·rcases ar.mp m with z | m
   ·exact nlqd z
   ·exact out hq4 m
 ·rcases ar.mp m with rfl | m
  ·exact hlb
  rcases ar.mp m with rfl | m
  ·exact nlq
  rcases ar.mp m with rfl | m
  ·exact nld
  ·exact nwH a m
end
def lL (L:List Str):Nat->Nat->List Mo->Except Nat (List Mo×Nat)
 | 0,i,acc=>.ok (acc,i)
 | n + 1,i,acc=>match ek L i 0 "machine" 2 (acc.map (·.nm)) with
  | some [_,nm]=>(match kq L (i + 1) nm with
   | .error e=>.error e
   | .ok (M,j)=>lL L n j (acc++[M]))
  | _=>.ok (acc,i)
def rdM (L:List Str):Except Nat (List Mo):=match lL L 6 0 [] with
 | .error e=>.error e
 | .ok (ms,j)=>if (ms.isEmpty || decide (j < L.length))=true then .error (j + 1) else .ok ms
section
variable {P:aQ} {w:bT} {K:ai} {mg:Str->Option ag} {base:cP} {f fM fN fP fL fBe fIn C CN D':ak} {fd fdM fdN fdP fdL fdBe fdIn:cF}
seal PS PSs PE PA PT PW PI PG PGs PC PSC PSsC PEC PTC PAC PPs
def spRm (CN:ak):Sp:=fun vs H Q E=>∃ x:Str,vs=[.str x]/\x.length<=100000/\LOk (linesOf x) /\
 (∀ r H',rdM (linesOf x)=.error r->cO H H'->E (.ref CN) (some r) H') /\
 (∀ ml us fp H' ms,rdM (linesOf x)=.ok ms->cO H H'->H' ml=some (.lst us)->Prs (MoF H') ms us fp->(ml :: fp).Nodup->(∀ a∈ml :: fp,H a=none)->ms.length<=6->Q (.ref ml) H')
abbrev nRm:List Str:=["text","lines","machines","words"]
abbrev pRm:List Str:=["text"]
theorem F9:cK nRm pRm (aZ ka):={}
theorem ndRm:((["machine"]:List Str)++nRm).Nodup:=by decide +kernel
theorem ok_rm (D:Df K mg "read_model" ka pRm f fd) (ML:Mk K C fL) (GL:cW P w K mg base CX0 2 fL fdL pLi (spLi C)) (bL:Binds K fdL pLi []) (MN:Mt K C "named" "Lines.named" gD pNd fN fdN) (GN:cW P w K mg base CX0 3 fN fdN pNd (Em C)) (MP:Mt K C "pass_by" "Lines.pass_by" dQ pPb fP fdP) (MB:Mt K C "is_behind" "Lines.is_behind" gd pBe fBe fdBe) (DM:Df K mg "machine_from" jg pMf fM fdM) (GM:dP P w K mg base (CXl P w) 77 fM fdM pMf (spMf C CN)) (N:NT K mg CN D' fIn fdIn) (T:LT K mg C) (B:Bl mg):dP P w K mg base (CXl P w) 78 f fd pRm (spRm CN):=by
 have GP:cW P w K mg base CX0 1 fP fdP pPb (Au C):=w6 MP T;have GB:cW P w K mg base CX0 1 fBe fdBe pBe (FZ C):=Hj MB T B;have GI:cW P w K mg base CX0 1 fIn fdIn ["self","line"] (Dy CN):=Hu N;refine D.F.okLC F9 (fun vs H Q E h=>?_) (fun cdv A outer s H vs Q E hr h=>?_)
 ·obtain ⟨x,rfl,_⟩:=h;rfl
 obtain ⟨x,rfl,xl,lok,qe,q⟩:=h;have rk:dj 77 _:=hr;have r3:dj 3 _:=rk.mono (by omega);have r2:dj 2 _:=rk.mono (by omega);have r1:dj 1 _:=rk.mono (by omega);refine ⟨_,aR (bJ (i:=1) F9.nd rfl (Or.inl rfl) (EW ML GL r3 (by rfl) T.m bL .nil bM (bD (pv 0) aj))).c
  (aR (bJ (i:=2) F9.nd rfl (Or.inl rfl) (cA aj)).c
  (aR (qS jt.own (bh om (cR (dz K (by rfl)) (by rfl) B.len bE (bD (pv 2) aj)) aq (bR _)) (aR (bJ (i:=3) F9.nd rfl (Or.inl rfl) (oo (pv 1) T.cl MN.m GN r3 MN.b .nil bM (bo aq (bo aB (bo aq (ft (lR ["machine"] (hW.open (NN:=nRm) (N:=nRm) (sc:=aZ ka) rfl rfl (by decide +kernel) rfl (by decide +kernel) (by decide +kernel) rfl (by decide +kernel)) rfl (gx (pv 2)) (fun _ _ _ _=>df (i:=0) ndRm rfl (Or.inl rfl)) (fun _ _ _ _=>jr) (fun _ _ _ _=>cg (uz K (by rfl)) (pv 0) aq (fun _ _=>rfl))) aj)))))).c
  (aR (du (bh j3 (pv 3) dJ (bR _)) (aO r9) bX).c
  (aR (fZ (j7 (pv 1) T.cl MP.m GP r1 MP.b .nil bM)).c
  (hJ (yW (DU bZ cB cC fw (pv 2) (iL (dq GM rk (by rfl) DM.m DM.F.kp DM.b .nil (jt.passes fun _ _ _ z=>z) (bD (pv 1) (gF (cg cw (pv 3) aq (fun _ _=>rfl)) aj))) (aj).c))))))))
  (aE (du ((jv (pD (uI (pv 2) (fun _=>rfl))) (i7 (pD (jF (j7 (pv 1) T.cl MB.m GB r1 MB.b .nil bM))))).pt) (aO (wO jt rfl N.cl (by rfl) N.m GI r2 N.b (hU (bI fJ (lV K (by rfl) (pv 1) (by rfl)) aq) aj))) bX)
  (aO (bO (pv 2)))).c)),?_⟩
 have big:=dC;refine aH (bW ⟨_,rfl,fun s dx hs0 hdx nsd=>⟨s,dx,x,H,rfl,ao,(ax hdx _).trans (ax (by rw [aT (eW nsd)]; exact hs0) _),hs0,xl,fun l G0 s0 ls=>⟨rfl,aF ?_⟩⟩⟩);dsimp only;unfold rdM at q qe;generalize linesOf x=L at lok qe q ls;obtain ⟨res,hres⟩:∃ r,lL L 6 0 []=r:=⟨_,rfl⟩;rw [hres] at q qe;refine aH (bW ⟨aU _,fun bl hbl=>aF ?_⟩);dsimp only;have t0:=ax hbl (.lst []);obtain ⟨nbs,nbl⟩:=ls.nes hbl;have toH:∀ {G:Hp},But s G0 G->cO H G:=fun b a o e=>b _ _ (s0 _ _ e) fun z=>by rw [z,hs0] at e; cases e
 have nH:∀ {a:ak},G0 a=none->H a=none:=fun {a} e=>eF fun o z=>by rw [s0 _ _ z] at e; cases e
 refine aH ⟨fun m σ G=>∃ (acc:List Mo) (us:List V) (fp:List ak) (j cc:Nat) (u3:Option V),σ=[some (.str x),some (.ref s),some (.ref bl),u3]/\m=6 - acc.length/\acc.length<=6/\Mv C G0 G s l L j cc/\G bl=some (.lst us)/\Prs (MoF G) acc us fp/\(bl :: fp).Nodup/\(∀ a∈bl :: fp,G0 a=none)/\res=lL L (6 - acc.length) j acc,
  ⟨6,[],[],[],0,0,none,rfl,rfl,by decide,⟨ls.same t0,fU t0⟩,ao,.nil,by simp,(fun a m=>by rw [au.mp m]; exact hbl),hres.symm⟩,?_⟩
 rintro m σ G ⟨acc,us,fp,j,cc,u3,rfl,rfl,a6,mv,hG,pr,nd,nw,eq⟩;have ul:=pr.len;refine ⟨_,rfl,bl,_,rfl,.inl (SqL.of hG),_,_,rfl,rfl,_,rfl,?_⟩;rw [<- ul];have hsn:∀ {a:ak},G0 a=none->a≠s:=fun z=>(ls.nes z).1;have ns:s∉bl :: fp:=fun m=>hsn (nw s m) rfl;have fin:∀ {G:Hp} {u3:Option V},res=.ok (acc,j)->Mv C G0 G s l L j cc->G bl=some (.lst us)->Prs (MoF G) acc us fp->EM (vO (tOr (EL fun σ H1 R=>kF 2 σ H1 fun y H'=>∃ b,HX K y H' b/\R b H') (EL (tB (CD C "is_behind" (FZ C) [] E0 (kF 1) q9)))) (xS CN E (gS (tOp (rI0 fun i j=>V.int (i + j)) (EU K (kF 1) "place") (tC (V.int 1))) q9)) dX) (vN (kF 2)) {nx:=fun x H'=>Q V.non H',rt:=Q} [some (.str x),some (.ref s),some (.ref bl),u3] G:=fun {G u3} e mv hG pr=>by
  rw [e] at q qe;dsimp only at q qe;obtain ⟨⟨dx1,hs1⟩,hl1⟩:=mv.ls;have fly:(acc.isEmpty || decide (j < L.length))=true->xS CN E (gS (tOp (rI0 fun i j=>V.int (i + j)) (EU K (kF 1) "place") (tC (V.int 1))) q9) {nx:=vN (kF 2) {nx:=fun x H'=>Q V.non H',rt:=Q},rt:=Q} [some (.str x),some (.ref s),some (.ref bl),u3] G:=fun c=>⟨_,rfl,s,C,dx1,_,_,rfl,hs1,T.cl,T.nP,rfl,_,_,rfl,rfl,j + 1,rfl,qe _ _ (if_pos c) (toH mv.bt)⟩;refine aH ⟨_,rfl,_,.inl ⟨us,SqL.of hG,rfl⟩,?_⟩;have ue:us.isEmpty=acc.isEmpty:=by
   cases acc with
   | nil=>cases us with
    | nil=>rfl
    | cons u us=>cases ul
   | cons a acc=>cases us with
    | nil=>cases ul
    | cons u us=>rfl
  rw [ue]
  cases ce:acc.isEmpty with
  | true=>exact cT (cT (fly (by rw [ce]; rfl)))
  | false =>
   refine c9 ⟨_,rfl,s,dx1,_,rfl,hs1,rfl,s,l,L,j,cc,rfl,mv.ls,_,rfl,?_⟩
   by_cases cj:L.length<=j
   ·rw [decide_eq_true cj];refine c9 ?_;dsimp only [dX];refine dR ⟨_,rfl,q bl us fp _ acc (if_neg (by rw [ce,decide_eq_false (by omega)]; decide)) (toH mv.bt) hG pr nd (fun a m=>nH (nw a m)) a6⟩
   ·rw [decide_eq_false cj];exact cT (fly (by rw [ce,decide_eq_true (by omega)]; rfl))
 by_cases a5:acc.length < 6
 ·rw [decide_eq_true (show (acc.length:Int) < 6 by omega)];obtain ⟨n,hn⟩:∃ n,6 - acc.length=n + 1:=⟨6 - acc.length - 1,by omega⟩;rw [hn] at eq;rw [lL] at eq;refine cT ⟨fun σ' G'=>∃ m',m' < 6 - acc.length/\_,fun _ _ z=>z,?_⟩;obtain ⟨dx1,hs⟩:=mv.ls.1;refine aH (bW ⟨_,rfl,s,dx1,_,rfl,hs,rfl,?_⟩);dsimp only [gS,tC];refine qW acc (fun q=>q.nm) (a:=bl) (us:=us) (fun R hR=>⟨_,rfl,hR⟩) hG ul (by omega) (fun k u x G' R hu hx sG hR=>?_) fun p1 G1 s1 hp1=>?_
  ·obtain ⟨x',_,hx',_,t,_,_,_,_,_,_,_,rfl,ht,_⟩:=pr.at hu;rw [hx] at hx'
   cases hx';exact ⟨_,rfl,t,_,0,_,rfl,rfl,SqT.of (sG _ _ ht),rfl,hR _ (cO.refl _)⟩
  have s1':=s1.trans (ax hp1 (.lst ((acc.map fun q=>q.nm).map V.str)));refine ⟨s,l,p1,L,j,cc,0,2,"machine",acc.map (·.nm),rfl,mv.ls.same s1',lok,by decide,by decide,by decide,ao,fun G2 en g2=>aF ?_,fun ws p2 G2 en hp2 g2 hws=>aF ?_⟩
  ·rw [en] at eq;have sG:=s1'.trans g2;refine aH ⟨_,rfl,rfl,_,rfl,cT ?_⟩;exact fin eq (mv.same sG) (sG _ _ hG) (pr.mono fun _ _ _ _ i=>i.kx (Kx.of_same sG))
  ·obtain ⟨wl,wp,_⟩:=ph en;obtain ⟨w0,nm,rfl⟩:=A5 wl;rw [en] at eq;dsimp only at eq;have sG:=s1'.trans g2;have mv2:=mv.same sG;have hG2:=sG _ _ hG;refine aH ⟨_,rfl,rfl,_,rfl,c9 ?_⟩;dsimp only [dX];obtain ⟨dx3,hs3⟩:=mv2.ls.1;refine aH ⟨_,rfl,s,dx3,_,rfl,hs3,rfl,s,l,L,j,cc,rfl,mv2.ls,fun G5 ls5 b25 n4=>?_⟩;dsimp only;have bH5:=mv2.bt.trans b25;have hG5:=b25 _ _ hG2 nbs;have np2:p2≠s:=(mv.ls.nes (eF fun o z=>by rw [s1' _ _ z] at hp2; cases hp2)).1;have hws5:=b25 _ _ hws np2;have kx5:Kx (bl :: fp) G2 G5:=rR mv2.ls b25 ns;have pr5:=(pr.mono fun _ _ _ _ i=>MoF.kx (Kx.of_same sG) i).mono fun _ _ _ s' i=>MoF.kx (kx5.sub fun b m=>az _ (s' b m)) i;refine ⟨_,rfl,.inl ⟨rfl,_,SqL.of hG5⟩,_,rfl,_,rfl,p2,_,1,_,rfl,rfl,SqL.of hws5,rfl,s,l,L,j + 1,cc,nm,rfl,ls5,lok,fun r H' e b=>qe r H' ?_ (toH (bH5.trans b)),fun v as G6 M i' c' e mv6 hM ndd nwd=>?_⟩
   ·rw [eq,e]
   have kx6:Kx (bl :: fp) G5 G6:=rR ls5 mv6.bt ns;have hG6:=kx6.2 bl (by simp) _ hG5;have pr6:=pr5.mono fun _ _ _ s' i=>MoF.kx (kx6.sub fun b m=>az _ (s' b m)) i;refine ⟨bl,us,_,rfl,rfl,hG6,by omega,?_⟩;have in5:∀ a∈bl :: fp,∃ xs,G5 a=some (.lst xs):=fun a m=>by
    rcases ar.mp m with rfl | m
    ·exact ⟨_,hG5⟩
    ·exact pr5.lists (fun _ _ _=>MoF.lists) a m
   have ndall:((bl :: fp)++as).Nodup:=dM.mpr ⟨nd,ndd,fun a ha b hb z=>by
    subst z;obtain ⟨xs,e'⟩:=in5 a ha;rw [nwd a hb] at e'
    cases e'⟩
   have nwall:∀ a∈as,G0 a=none:=fun a m=>eF fun o z=>by
    have:=nwd a m
    by_cases as':a=s
    ·subst as';obtain ⟨⟨_,e'⟩,_⟩:=ls5;rw [this] at e'
     cases e'
    ·rw [bH5 _ _ z as'] at this
     cases this
   have nbx:bl∉fp++as:=(eM.mp ndall).1;have kx7:Kx (fp++as) G6 (upd G6 bl (.lst (us++[v]))):=Kx.of_but hG6 (But.upd _ _ _) nbx;refine ⟨5 - acc.length,by omega,acc++[M],us++[v],fp++as,i',c',_,rfl,by rw [af]; show _=6 - (_ + 1); omega,by rw [af]; show _ + 1<=6; omega,⟨mv6.ls.upd hG6 nbs nbl,fun b o e n=>?_⟩,ao,?_,ndall,fun a m=>?_,?_⟩
   ·rw [aT (bF e hbl)];exact mv6.bt _ _ (bH5 _ _ e n) n
   ·refine Prs.app (pr6.mono fun _ _ _ s' i=>i.kx (kx7.sub fun b m=>cS _ (s' b m))) ?_;rw [<- bq as];exact .cons (hM.kx (kx7.sub fun b m=>aP _ m)) .nil
   ·rcases ar.mp m with rfl | m
    ·exact hbl
    rcases aN.mp m with m | m
    ·exact nw a (az _ m)
    ·exact nwall a m
   ·rw [eq,e,af,show 6 - (acc.length + [M].length)=n from by show 6 - (acc.length + 1)=n; omega]
 ·rw [decide_eq_false (show ¬ (acc.length:Int) < 6 by omega)];refine c9 ?_;refine fin ?_ mv hG pr;rw [eq,show 6 - acc.length=0 by omega];rfl
end
theorem yc (x y:Str):sw x y=decide (x.cps.toList.take y.length=y.cps.toList):=by
 have ly:y.cps.toList.length=y.length:=cJ;have lx:x.cps.toList.length=x.length:=cJ;have e:rh x y 0=decide (x.cps.toList.take y.length=y.cps.toList):=by
  unfold rh;rw [oa]
  by_cases c:x.cps.toList.take y.length=y.cps.toList
  ·rw [decide_eq_true c,beq_iff_eq];apply eT.mp;rw [rj];simpa using c
  ·rw [decide_eq_false c,beq_eq_false_iff_ne];intro z;refine c ?_;have:=congrArg HP z;rw [rj] at this;simpa using this
 unfold sw;rw [e]
 by_cases c:x.cps.toList.take y.length=y.cps.toList
 ·have:=congrArg iK c;rw [bP,ly,lx] at this;rw [decide_eq_true c,decide_eq_true (by omega)];rfl
 ·rw [decide_eq_false c,gT]
theorem tJ (a:Array Nat):∀ (n:Nat) (acc:Array Nat),((aJ n a).foldl (·++·) acc).toList=acc.toList++(aJ n a.toList).flatten
 | 0,acc=>by simp
 | n + 1,acc=>by
  rw [da,iZ,tJ a n,A0,da,kD,aS]
theorem fg (d:Nat):(dD d).cps.toList=aJ (2 * d) 32:=by
 show ((aJ d ("  ":Str).cps).foldl (·++·) #[]).toList=_;rw [tJ];have e:("  ":Str).cps.toList=[32,32]:=by decide
 rw [e];show []++_=_;rw [jY]
 induction d with
 | zero=>rfl
 | succ d ih =>
  rw [da,kD,ih,show 2 * (d + 1)=2 * d + 1 + 1 by omega,da,da];rfl
def jn (ws:List Str):Str:=cq " " ws
def ln (e:Nat) (ws:List Str):Str:=dD e++jn ws
structure GL (ws:List Str):Prop where
 w0:∃ c cs r,ws=c :: r/\c.cps.toList=cs/\cs≠[]
 ok:∀ w∈ws,32∉w.cps.toList/\(∀ c∈w.cps.toList,c < 128)/\w.length<=17
 many:ws.length<=60
theorem d9 (x y:Str):(x++y).cps.toList=x.cps.toList++y.cps.toList:=by
 show (x.cps++y.cps).toList=_;simp
theorem GL.head {ws:List Str} (g:GL ws):∃ a t,(jn ws).cps.toList=a :: t/\a≠32:=by
 obtain ⟨c,cs,r,rfl,hc,ne⟩:=g.w0;have h32:=(g.ok c (by simp)).1;rw [hc] at h32
 cases cs with
 | nil=>exact absurd rfl ne
 | cons a cs =>
  refine ⟨a,?_⟩;have na:a≠32:=fun z=>h32 (by simp [z])
  cases r with
  | nil=>exact ⟨cs,hc,na⟩
  | cons b r =>
   refine ⟨cs++(" "++cq " " (b :: r):Str).cps.toList,?_,na⟩;unfold jn;rw [dF,d9,d9,d9,hc,aS];rfl
theorem gL {L:List Str} {i e:Nat} {ws:List Str} (h:L[i]?=some (ln e ws)) (g:GL ws):cH L i e=ws:=by
 unfold cH;rw [h];dsimp only;have lb:=jJ e;have ll:(ln e ws).length=2 * e + (jn ws).length:=by unfold ln; rw [bf,lb]
 have hb:(dD e).cps.toList.length=2 * e:=by rw [fg,cU]
 rw [yc,decide_eq_true]
 ·rw [if_pos rfl,lB (by omega) (by omega) rfl];have:(⟨(((ln e ws).cps.toList.drop ((2 * e:Nat):Int).toNat).take (((ln e ws).length:Int) - ((2 * e:Nat):Int)).toNat).toArray⟩:Str)=jn ws:=by
   apply iI;show (((ln e ws).cps.toList.drop _).take _).toArray=(jn ws).cps;rw [eH];unfold ln;rw [d9,<- hb,xf,hb,show (((dD e++jn ws).length:Int) - ((2 * e:Nat):Int)).toNat=(jn ws).cps.toList.length from by rw [cJ,bf,lb]; show (((2 * e + (jn ws).length:Nat):Int) - ((2 * e:Nat):Int)).toNat=(jn ws).length; omega,cD,lJ]
  rw [this];exact nr (by obtain ⟨c,cs,r,rfl,_⟩:=g.w0; simp) fun w m=>(g.ok w m).1
 ·unfold ln;rw [d9,lb,<- hb,Hy]
theorem rS {L:List Str} {i e q:Nat} {ws:List Str} (h:L[i]?=some (ln e ws)) (g:GL ws) (l:e < q):cH L i q=[("":Str)]:=by
 unfold cH;rw [h];dsimp only;rw [yc,decide_eq_false,if_neg (by decide)];intro z;obtain ⟨a,t,ha,na⟩:=g.head;have lq:=jJ q;unfold ln at z;rw [d9,lq,fg,fg,ha] at z;have z2:=congrArg (fun l=>l[2 * e]?) z;rw [eK (by omega),cG (by rw [cU]; exact ay _),cU,iV,gq,if_pos (by omega)] at z2;exact na (bC z2)
def qJ (L:List Str) (j e:Nat):Prop:=L.length<=j\/∃ e' ws,L[j]?=some (ln e' ws)/\GL ws/\e' < e
theorem qJ.words {L:List Str} {j e q:Nat} (h:qJ L j e) (l:e<=q):cH L j q=[("":Str)]:=by
 rcases h with h | ⟨e',ws,h,g,l'⟩
 ·unfold cH;rw [gW h]
 ·exact rS h g (by omega)
theorem qJ.le {L:List Str} {j e q:Nat} (h:qJ L j e) (l:e<=q):qJ L j q:=by
 rcases h with h | ⟨e',ws,h,g,l'⟩
 ·exact .inl h
 ·exact .inr ⟨e',ws,h,g,by omega⟩
theorem zf:iD [("":Str)]=none:=by decide +kernel
abbrev nt (z:Int):Str:=bj (toString z)
def De.hw:De->List Str
 | .fin=>["end"]
 | .three k x f=>k :: x :: f.ws
 | .send z x f1 y f2 f3=>"send" :: nt z :: x :: nt y :: (f1.ws++(f2.ws++f3.ws))
 | .pull x y _=>["pull",x,y]
 | .iff f _ _=>"if" :: f.ws
def lsD:Nat->Nat->De->List Str
 | 0,_,_=>[]
 | n + 1,e,d=>match d with
  | .pull x y ds=>ln e ["pull",x,y] :: (ds.map (lsD n (e + 1))).flatten
  | .iff f as bs=>ln e ("if" :: f.ws) :: ((as.map (lsD n (e + 1))).flatten++ln e ["else"] :: (bs.map (lsD n (e + 1))).flatten)
  | d=>[ln e d.hw]
def mi:Nat->De->Nat
 | 0,_=>0
 | n + 1,d=>match d with
  | .pull _ _ ds=>1 + (ds.map (mi n)).sum
  | .iff _ as bs=>1 + ((as.map (mi n)).sum + (bs.map (mi n)).sum)
  | _=>1
def F15 (f:Fo):Prop:=f.Ok/\f.n<=15
def OkD:Nat->De->Prop
 | 0,_=>False
 | n + 1,d=>match d with
  | .fin=>True
  | .three k x f=>k∈[("put":Str),"push","draw"]/\Nam x/\F15 f
  | .send z x f1 y f2 f3=>(0<=z/\z<=5)/\(0<=y/\y<=9)/\Nam x/\F15 f1/\F15 f2/\F15 f3
  | .pull x y ds=>Nam x/\Nam y/\(∀ d∈ds,OkD n d)/\0 < n
  | .iff f as bs=>F15 f/\(∀ d∈as,OkD n d)/\(∀ d∈bs,OkD n d)/\0 < n
theorem Hz {g:Fo} (ok:g.Ok) (l:g.n<=15):kA g.ws 1=some [g]:=by
 have p:=pe ok (rest:=[]) (st:=[]) rfl;rw [bq] at p;unfold kA;rw [if_neg (by rw [g.ws_len]; omega),p];dsimp only;rw [if_neg];rintro (z | ⟨g',m',z⟩)
 ·exact z rfl
 ·rw [au.mp m'] at z;omega
theorem Et {f1 f2 f3:Fo} (h1:F15 f1) (h2:F15 f2) (h3:F15 f3):kA (f1.ws++(f2.ws++f3.ws)) 3=some [f1,f2,f3]:=by
 have p3:=pe h3.1 (rest:=[]) (st:=[]) rfl;rw [bq] at p3;have p2:=pe h2.1 p3;have p1:=pe h1.1 p2;unfold kA;rw [if_neg (by rw [af,af,f1.ws_len,f2.ws_len,f3.ws_len]; have:=h1.2; have:=h2.2; have:=h3.2; omega),p1];dsimp only;rw [if_neg];rintro (z | ⟨g',m',z⟩)
 ·exact z rfl
 ·simp only [ar,uE,or_false] at m';have:=h1.2;have:=h2.2;have:=h3.2
  rcases m' with rfl | rfl | rfl <;> omega
theorem jA {z:Int} (h:0<=z/\z<=9):Wo z:=by
 unfold Wo;omega
theorem sS {z lo hi:Int} (h:Wo z) (h1:lo<=z) (h2:z<=hi):gK (nt z) lo hi=some z:=by
 obtain ⟨c,cs,e,hc,_,it⟩:=o9 h;have ll:=ir h;unfold gK nt;rw [if_neg (by omega),it];show (if _ then none else some z)=_;rw [if_neg];rintro (h3 | h3 | h3)
 ·exact h3 rfl
 ·omega
 ·omega
theorem kindW:∀ w∈[("end":Str),"put","push","draw","send","pull","if","else","box","queue","draws","on","machine"],32∉w.cps.toList/\(∀ c∈w.cps.toList,c < 128)/\w.length<=17/\w.cps.toList≠[]:=by decide +kernel
theorem fV {x:Str} (h:Nam x):32∉x.cps.toList/\(∀ c∈x.cps.toList,c < 128)/\x.length<=17:=by
 refine ⟨fun m=>?_,fun c m=>?_,by have:=h.2.1; omega⟩
 all_goals
  have:=h.2.2 _ m;omega
theorem jC {z:Int} (h:Wo z):32∉(nt z).cps.toList/\(∀ c∈(nt z).cps.toList,c < 128)/\(nt z).length<=17:=by
 obtain ⟨c,cs,e,hc,hd,_⟩:=o9 h;have e':(nt z).cps.toList=c :: cs:=e;refine ⟨fun m=>?_,fun d m=>?_,ir h⟩
 all_goals
  rw [e'] at m
  rcases ar.mp m with y | y
  ·first | omega | (subst y; omega)
  ·have:=hd _ y;omega
theorem iN {w:Str} {r:List Str} (hw:w∈[("end":Str),"put","push","draw","send","pull","if","else","box","queue","draws","on","machine"]) (hr:∀ x∈r,32∉x.cps.toList/\(∀ c∈x.cps.toList,c < 128)/\x.length<=17) (l:r.length<=59):GL (w :: r):=by
 obtain ⟨k1,k2,k3,k4⟩:=kindW w hw;refine ⟨⟨w,_,r,rfl,rfl,k4⟩,fun x m=>?_,by rw [aG]; omega⟩
 rcases ar.mp m with rfl | m
 ·exact ⟨k1,k2,k3⟩
 ·exact hr x m
theorem OkD.gl {n:Nat} {d:De} (h:OkD (n + 1) d):GL d.hw:=by
 cases d with
 | fin=>exact iN (by decide) (fun x m=>by cases m) (by decide)
 | three k x f =>
  obtain ⟨h1,h2,h3⟩:=h;refine iN (by simp at h1 |-; rcases h1 with h | h | h <;> simp [h]) (fun y m=>?_) ?_
  ·rcases ar.mp m with rfl | m
   ·exact fV h2
   ·exact nv h3.1 y m
  ·rw [aG,f.ws_len];have:=h3.2;omega
 | send z x f1 y f2 f3 =>
  obtain ⟨h1,h2,h3,h4,h5,h6⟩:=h;refine iN (by decide) (fun u m=>?_) ?_
  ·rcases ar.mp m with rfl | m
   ·exact jC (jA ⟨h1.1,by omega⟩)
   rcases ar.mp m with rfl | m
   ·exact fV h3
   rcases ar.mp m with rfl | m
   ·exact jC (jA h2)
   rcases aN.mp m with m | m
   ·exact nv h4.1 u m
   rcases aN.mp m with m | m
   ·exact nv h5.1 u m
   ·exact nv h6.1 u m
  ·simp only [aG,af];rw [f1.ws_len,f2.ws_len,f3.ws_len];have:=h4.2;have:=h5.2;have:=h6.2;omega
 | pull x y ds =>
  obtain ⟨h1,h2,_⟩:=h;refine iN (by decide) (fun u m=>?_) (by show 2<=59; decide)
  rcases ar.mp m with rfl | m
  ·exact fV h1
  ·rw [au.mp m];exact fV h2
 | iff f as bs =>
  obtain ⟨h1,_,_⟩:=h;exact iN (by decide) (fun u m=>nv h1.1 u m) (by rw [f.ws_len]; have:=h1.2; omega)
theorem jD:GL [("else":Str)]:=iN (by decide) (fun x m=>by cases m) (by decide)
def Aw (d:De):Dh:=match d with
 | .pull x y _=>.pull x y
 | .iff f _ _=>.iff f
 | d=>.leaf d
theorem OkD.head {n:Nat} {d:De} (h:OkD (n + 1) d):iD d.hw=some (Aw d):=by
 cases d with
 | fin=>rfl
 | three k x f =>
  obtain ⟨h1,h2,h3⟩:=h;show iD (k :: x :: f.ws)=_;have ne:k≠"send"/\k≠"end"/\k≠"pull"/\k≠"if":=by
   simp at h1
   rcases h1 with rfl | rfl | rfl <;> decide
  rw [pV,if_neg ne.1,if_neg ne.2.1,if_neg ne.2.2.1,if_neg ne.2.2.2,if_pos h1,zb (Hz h3.1 h3.2),if_pos (kN h2)];rfl
 | send z x f1 y f2 f3 =>
  obtain ⟨h1,h2,h3,h4,h5,h6⟩:=h;show iD ("send" :: nt z :: x :: nt y :: (f1.ws++(f2.ws++f3.ws)))=_;rw [pV,if_pos rfl];show (if dW x=true then (match gK (nt z) 0 5,gK (nt y) 0 9,kA (f1.ws++(f2.ws++f3.ws)) 3 with
   | some z,some y,some [f1,f2,f3]=>some (Dh.leaf (.send z x f1 y f2 f3))
   | _,_,_=>none) else none)=_
  rw [if_pos (kN h3),sS (jA ⟨h1.1,by omega⟩) h1.1 h1.2,sS (jA h2) h2.1 h2.2,Et h4 h5 h6];rfl
 | pull x y ds =>
  obtain ⟨h1,h2,_⟩:=h;show iD ["pull",x,y]=_;rw [pV,if_neg (by decide),if_neg (by decide),if_pos rfl,A7,if_pos ⟨kN h1,kN h2⟩];rfl
 | iff f as bs =>
  obtain ⟨h1,_,_⟩:=h;show iD ("if" :: f.ws)=_;rw [pV,if_neg (by decide),if_neg (by decide),if_neg (by decide),if_pos rfl,Hs (Hz h1.1 h1.2)];rfl
theorem dG {α:Type} {L:List α} {i:Nat} {a:α} {t:List α} (h:L.drop i=a :: t):L[i]?=some a/\L.drop (i + 1)=t:=by
 constructor
 ·have:=congrArg (fun l=>l[0]?) h;rw [oq] at this;simpa using this
 ·rw [<- HA,h];rfl
theorem gw {α:Type} {L:List α} {i:Nat} {a t:List α} (h:L.drop i=a++t):L.drop (i + a.length)=t:=by
 rw [<- HA,h,xf]
def LsD (n e:Nat) (ds:List De):List Str:=(ds.map (lsD n e)).flatten
def CnD (n:Nat) (ds:List De):Nat:=(ds.map (mi n)).sum
theorem ix (n e:Nat) (x:De) (ds:List De):LsD n e (x :: ds)=lsD n e x++LsD n e ds:=rfl
theorem kr (n:Nat) (x:De) (ds:List De):CnD n (x :: ds)=mi n x + CnD n ds:=rfl
theorem ku {n e:Nat} {x:De} (ok:OkD n x):∃ t,lsD n e x=ln e x.hw :: t/\GL x.hw/\1<=mi n x:=by
 cases n with
 | zero=>exact absurd ok (fun z=>z)
 | succ n =>
  cases x with
  | fin=>exact ⟨_,rfl,ok.gl,ay _⟩
  | three k x f=>exact ⟨_,rfl,ok.gl,ay _⟩
  | send z x f1 y f2 f3=>exact ⟨_,rfl,ok.gl,ay _⟩
  | pull x y ds=>exact ⟨_,rfl,ok.gl,Ga _ _⟩
  | iff f as bs=>exact ⟨_,rfl,ok.gl,Ga _ _⟩
def OneD (L:List Str) (n d:Nat):Prop:=∀ (x:De) (i c:Nat) (rest:List Str),L.drop i=lsD n (d + 1) x++rest->OkD n x->c + mi n x<=20->qJ L (i + (lsD n (d + 1) x).length) (d + 2)->iW L d i c (.ok (some x,i + (lsD n (d + 1) x).length,c + mi n x))
theorem zi {L:List Str} {n d:Nat} (one:OneD L n d):∀ (ds:List De) (i c:Nat) (rest:List Str),L.drop i=LsD n (d + 1) ds++rest->(∀ x∈ds,OkD n x)->c + CnD n ds<=20->qJ L (i + (LsD n (d + 1) ds).length) (d + 1)->eQ L d i c (.ok (ds,i + (LsD n (d + 1) ds).length,c + CnD n ds))
 | [],i,c,rest,h,ok,cc,sh=>by
  refine yb ?_
  by_cases o:5 < d\/20<=c
  ·exact vD o
  ·refine uC o ?_;have s:qJ L i (d + 1):=sh;rw [s.words (ay _)];exact zf
 | x :: ds,i,c,rest,h,ok,cc,sh=>by
  have okx:=ok x aA;obtain ⟨t,ex,_,c1⟩:=ku (e:=d + 1) okx;rw [ix,aS] at h;rw [ix,af,<- fY] at sh |-;rw [kr,<- fY] at cc |-;have h2:=gw h;have s2:qJ L (i + (lsD n (d + 1) x).length) (d + 2):=by
   cases ds with
   | nil=>exact qJ.le (e:=d + 1) sh (by omega)
   | cons y ds =>
    obtain ⟨t',ey,gy,_⟩:=ku (e:=d + 1) (ok y (by simp));rw [ix,ey] at h2;exact .inr ⟨d + 1,y.hw,(dG h2).1,gy,by omega⟩
  exact uD (one x i c _ h okx (by omega) s2) (by omega) (by omega) (zi one ds _ _ rest h2 (fun y m=>ok y (az _ m)) cc sh)
theorem zj {L:List Str}:∀ (n d:Nat),n + d=6->OneD L n d
 | 0,d,_,x,i,c,rest,h,ok,cc,sh=>absurd ok (fun z=>z)
 | n + 1,d,hn,x,i,c,rest,h,ok,cc,sh=>by
  have ih:=zi (zj (L:=L) n (d + 1) (by omega));obtain ⟨t,ex,g,c1⟩:=ku (e:=d + 1) ok;have no:¬ (5 < d\/20<=c):=by omega
  have e:iD (cH L i (d + 1))=some (Aw x):=by
   rw [ex] at h;rw [gL (dG h).1 g];exact ok.head
  cases x with
  | fin=>exact pX no e
  | three k x f=>exact pX no e
  | send z x f1 y f2 f3=>exact pX no e
  | pull x y ds =>
   have h1:=(dG (show L.drop i=ln (d + 1) ["pull",x,y] :: (LsD n (d + 2) ds++rest) from h)).2;have lx:(lsD (n + 1) (d + 1) (.pull x y ds)).length=(LsD n (d + 2) ds).length + 1:=rfl;have cx:mi (n + 1) (.pull x y ds)=1 + CnD n ds:=rfl;rw [lx,show i + ((LsD n (d + 2) ds).length + 1)=i + 1 + (LsD n (d + 2) ds).length by omega] at sh |-;rw [cx,<- fY] at cc |-;exact x9 no e (ih ds (i + 1) (c + 1) rest h1 ok.2.2.1 cc sh)
  | iff f as bs =>
   have h1:=(dG (show L.drop i=ln (d + 1) ("if" :: f.ws) :: ((LsD n (d + 2) as++ln (d + 1) ["else"] :: LsD n (d + 2) bs)++rest) from h)).2;rw [aS] at h1;have h2:=gw h1;obtain ⟨h3,h4⟩:=dG (show L.drop (i + 1 + (LsD n (d + 2) as).length)=ln (d + 1) ["else"] :: (LsD n (d + 2) bs++rest) from h2);have lx:(lsD (n + 1) (d + 1) (.iff f as bs)).length=(LsD n (d + 2) as++ln (d + 1) ["else"] :: LsD n (d + 2) bs).length + 1:=rfl;have cx:mi (n + 1) (.iff f as bs)=1 + (CnD n as + CnD n bs):=rfl;rw [lx,af,aG,show i + ((LsD n (d + 2) as).length + ((LsD n (d + 2) bs).length + 1) + 1)=i + 1 + (LsD n (d + 2) as).length + 1 + (LsD n (d + 2) bs).length by omega] at sh |-;rw [cx,<- fY,<- fY] at cc |-;exact Er no e (ih as (i + 1) (c + 1) _ h1 ok.2.1 (by omega) (.inr ⟨d + 1,["else"],h3,jD,by omega⟩)) (by omega) (gL h3 jD) (ih bs _ _ rest h4 ok.2.2.1 cc sh)
theorem qK {L:List Str} {i d:Nat} {kind x:Str} {cnt:Nat} {names r:List Str} (h:cH L i d=kind :: x :: r) (hl:r.length + 2=cnt) (hx:Nam x) (hn:x∉names):ek L i d kind cnt names=some (kind :: x :: r):=by
 unfold ek;rw [h,if_pos];refine ⟨by rw [<- hl]; rfl,rfl,?_⟩;show (dW x && !decide (x∈names))=true;rw [kN hx,decide_eq_false hn];rfl
theorem qX {L:List Str} {i d:Nat} {kind w:Str} {cnt:Nat} {names r:List Str} (h:cH L i d=w :: r) (n:w≠kind):ek L i d kind cnt names=none:=by
 unfold ek;rw [if_neg];rintro ⟨_,z,_⟩;rw [h] at z;exact n (bC z)
def sT (L:List Str) (i:Nat) (ks:List Str):Prop:=∃ w r,cH L i 1=w :: r/\w∉ks
theorem Eu {L:List Str}:∀ (bs:List (Str×Int)) (n i:Nat) (acc:List (Str×Int)) (rest:List Str),L.drop i=bs.map (fun b=>ln 1 ["box",b.1,nt b.2])++rest->bs.length<=n->(∀ b∈bs,Nam b.1/\Wo b.2)->(acc.map (·.1)++bs.map (·.1)).Nodup->fk L n i acc=fk L (n - bs.length) (i + bs.length) (acc++bs)
 | [],n,i,acc,rest,h,l,ok,nd=>by rw [bq]; rfl
 |(x,z) :: bs,0,i,acc,rest,h,l,ok,nd=>absurd l (by simp)
 |(x,z) :: bs,n + 1,i,acc,rest,h,l,ok,nd=>by
  obtain ⟨h1,h2⟩:=dG h;obtain ⟨hx,hz⟩:=ok (x,z) aA;have g:GL ["box",x,nt z]:=iN (by decide) (fun u m=>by
   rcases ar.mp m with rfl | m
   ·exact fV hx
   ·rw [au.mp m]; exact jC hz) (by show 2<=59; decide)
  have hx':x∉acc.map (·.1):=fun m=>(dM.mp nd).2.2 x m x aA rfl;rw [fk,show ek L i 1 "box" 3 (acc.map (·.1))=some [("box":Str),x,nt z] from qK (gL h1 g) rfl hx hx'];dsimp only;rw [sS hz hz.1 hz.2];dsimp only;rw [Eu bs n (i + 1) (acc++[(x,z)]) rest h2 (by simpa using l) (fun b m=>ok b (az _ m)) (by simpa using nd),aS,aG,show i + 1 + bs.length=i + (bs.length + 1) by omega,Bc];rfl
theorem Bd {L:List Str} {n j:Nat} {acc:List (Str×Int)} (h:sT L j ["box"]):fk L n j acc=(acc,j):=by
 obtain ⟨w,r,hw,nw⟩:=h
 cases n with
 | zero=>rfl
 | succ n=>rw [fk,show ek L j 1 "box" 3 (acc.map (·.1))=none from qX hw (by simpa using nw)]
theorem Ew {L names:List Str}:∀ (qs:List Str) (n i:Nat) (acc:List Str) (rest:List Str),L.drop i=qs.map (fun q=>ln 1 ["queue",q])++rest->qs.length<=n->(∀ q∈qs,Nam q)->((names++acc)++qs).Nodup->gg L names n i acc=gg L names (n - qs.length) (i + qs.length) (acc++qs)
 | [],n,i,acc,rest,h,l,ok,nd=>by rw [bq]; rfl
 | x :: qs,0,i,acc,rest,h,l,ok,nd=>absurd l (by simp)
 | x :: qs,n + 1,i,acc,rest,h,l,ok,nd=>by
  obtain ⟨h1,h2⟩:=dG h;have hx:=ok x aA;have g:GL ["queue",x]:=iN (by decide) (fun u m=>by
   rw [au.mp m];exact fV hx) (by show 1<=59; decide)
  have hx':x∉names++acc:=fun m=>(dM.mp nd).2.2 x m x aA rfl;rw [gg,show ek L i 1 "queue" 2 (names++acc)=some [("queue":Str),x] from qK (gL h1 g) rfl hx hx'];dsimp only;rw [Ew qs n (i + 1) (acc++[x]) rest h2 (by simpa using l) (fun b m=>ok b (az _ m)) (by simpa using nd),aS,aG,show i + 1 + qs.length=i + (qs.length + 1) by omega,Bc];rfl
theorem HB {L names:List Str} {n j:Nat} {acc:List Str} (h:sT L j ["queue"]):gg L names n j acc=(acc,j):=by
 obtain ⟨w,r,hw,nw⟩:=h
 cases n with
 | zero=>rfl
 | succ n=>rw [gg,show ek L j 1 "queue" 2 (names++acc)=none from qX hw (by simpa using nw)]
theorem Be:∀ {zs:List Int},(∀ z∈zs,Wo z/\0<=z)->nA 0 (10 ^ 15) (zs.map nt)=some zs
 | [],_=>rfl
 | z :: zs,h=>by
  obtain ⟨h1,h2⟩:=h z aA;show (match gK (nt z) 0 (10 ^ 15),nA 0 (10 ^ 15) (zs.map nt) with
   | some z,some zs=>some (z :: zs)
   | _,_=>none)=_
  rw [sS h1 h2 h1.2,Be fun y m=>h y (az _ m)]
theorem HD {L:List Str} {zs:List Int} {i:Nat} (h:L[i]?=some (ln 1 ("draws" :: zs.map nt))) (ne:zs≠[]) (l:zs.length<=20) (ok:∀ z∈zs,Wo z/\0<=z):jj L i=(zs,i + 1):=by
 have g:GL ("draws" :: zs.map nt):=iN (by decide) (fun u m=>by
  obtain ⟨z,mz,rfl⟩:=cu.mp m;exact jC (ok z mz).1) (by rw [aa]; omega)
 unfold jj;rw [gL h g];dsimp only;have l1:=dH.mpr ne;rw [if_pos ⟨rfl,by rw [aa]; omega,by rw [aa]; omega⟩,Be ok]
theorem Ax {L:List Str} {i:Nat} (h:sT L i ["draws"]):jj L i=([],i):=by
 obtain ⟨w,r,hw,nw⟩:=h;unfold jj;rw [hw];dsimp only;rw [if_neg];rintro ⟨z,_⟩;exact nw (by simp [z])
def lsH (h:Str×List De):List Str:=ln 1 ["on",h.1] :: LsD 5 2 h.2
def OkH (h:Str×List De):Prop:=Nam h.1/\(∀ x∈h.2,OkD 5 x)/\CnD 5 h.2<=20
theorem rB {x:Str} (h:Nam x):GL [("on":Str),x]:=iN (by decide) (fun u m=>by rw [au.mp m]; exact fV h) (by show 1<=59; decide)
theorem pY {x:Str} (h:Nam x):GL [("machine":Str),x]:=iN (by decide) (fun u m=>by rw [au.mp m]; exact fV h) (by show 1<=59; decide)
theorem HE {L:List Str}:∀ (hs:List (Str×List De)) (n i:Nat) (acc:List (Str×List De)) (rest:List Str),L.drop i=(hs.map lsH).flatten++rest->hs.length<=n->(∀ h∈hs,OkH h)->(acc.map (·.1)++hs.map (·.1)).Nodup->qJ L (i + (hs.map lsH).flatten.length) 1->jy L n i acc=.ok (acc++hs,i + (hs.map lsH).flatten.length)
 | [],n,i,acc,rest,h,l,ok,nd,sh=>by
  rw [bq]
  cases n with
  | zero=>rfl
  | succ n =>
   have s:qJ L i 1:=sh;show (match ek L i 1 "on" 2 (acc.map (·.1)) with
     | some [_,nm]=>_
     | _=>Except.ok (acc,i))=_
   rw [show ek L i 1 "on" 2 (acc.map (·.1))=none from qX (s.words (ay _)) (by decide)];rfl
 |(x,ds) :: hs,0,i,acc,rest,h,l,ok,nd,sh=>absurd l (by simp)
 |(x,ds) :: hs,n + 1,i,acc,rest,h,l,ok,nd,sh=>by
  obtain ⟨hx,hd,hc⟩:=ok (x,ds) aA;have hf:(((x,ds) :: hs).map lsH).flatten=ln 1 ["on",x] :: (LsD 5 2 ds++(hs.map lsH).flatten):=rfl;rw [hf] at h sh |-;obtain ⟨h1,h2⟩:=dG (show L.drop i=ln 1 ["on",x] :: ((LsD 5 2 ds++(hs.map lsH).flatten)++rest) from h);rw [aS] at h2;have h3:=gw h2;rw [aG,af,show i + ((LsD 5 2 ds).length + (hs.map lsH).flatten.length + 1)=i + 1 + (LsD 5 2 ds).length + (hs.map lsH).flatten.length by omega] at sh |-;have hx':x∉acc.map (·.1):=fun m=>(dM.mp nd).2.2 x m x aA rfl;have s2:qJ L (i + 1 + (LsD 5 2 ds).length) 2:=by
   cases hs with
   | nil=>exact qJ.le (e:=1) sh (by omega)
   | cons y hs=>exact .inr ⟨1,["on",y.1],(dG h3).1,rB (ok y (by simp)).1,by omega⟩
  have k:kn L 42 1 (i + 1) 0=.ok (ds,i + 1 + (LsD 5 2 ds).length,0 + CnD 5 ds):=zi (zj 5 1 rfl) ds (i + 1) 0 _ h2 hd (by rw [oa]; exact hc) s2 42 (by omega);show (match ek L i 1 "on" 2 (acc.map (·.1)) with
     | some [_,nm]=>(match kn L 42 1 (i + 1) 0 with
      | .error e=>Except.error e
      | .ok (ds,i',_)=>jy L n i' (acc++[(nm,ds)]))
     | _=>Except.ok (acc,i))=_
  rw [show ek L i 1 "on" 2 (acc.map (·.1))=some [("on":Str),x] from qK (gL h1 (rB hx)) rfl hx hx'];dsimp only;rw [k];dsimp only;rw [HE hs n _ (acc++[(x,ds)]) rest h3 (by simpa using l) (fun b m=>ok b (az _ m)) (by simpa using nd) sh,aS];rfl
theorem qY {L:List Str} {j:Nat} {w:Str} {r ks:List Str} (h:L[j]?=some (ln 1 (w :: r))) (g:GL (w :: r)) (n:w∉ks):sT L j ks:=⟨w,r,gL h g,n⟩
theorem Gb {L:List Str} {j:Nat} {ks:List Str} (h:qJ L j 1) (n:("":Str)∉ks):sT L j ks:=⟨"",[],h.words (ay _),n⟩
theorem sT.sub {L:List Str} {j:Nat} {ks us:List Str} (h:sT L j ks) (s:∀ x∈us,x∈ks):sT L j us:=by
 obtain ⟨w,r,e,n⟩:=h;exact ⟨w,r,e,fun m=>n (s w m)⟩
def bxL (bs:List (Str×Int)):List Str:=bs.map (fun b=>ln 1 ["box",b.1,nt b.2])
def qsL (qs:List Str):List Str:=qs.map (fun q=>ln 1 ["queue",q])
def drL (zs:List Int):List Str:=if zs=[] then [] else [ln 1 ("draws" :: zs.map nt)]
def mj (M:Mo):List Str:=bxL M.bx++(qsL M.qs++(drL M.dr++(M.hr.map lsH).flatten))
def lsM (M:Mo):List Str:=ln 0 ["machine",M.nm] :: mj M
structure OkM (M:Mo):Prop where
 nm:Nam M.nm
 b6:M.bx.length<=6
 q3:M.qs.length<=3
 d20:M.dr.length<=20
 h4:M.hr.length<=4
 bx:∀ b∈M.bx,Nam b.1/\Wo b.2
 qs:∀ q∈M.qs,Nam q
 dr:∀ z∈M.dr,Wo z/\0<=z
 hr:∀ h∈M.hr,OkH h
 nd:(M.bx.map (·.1)++M.qs).Nodup
 ndh:(M.hr.map (·.1)).Nodup
theorem Ex {L:List Str} {M:Mo} {i:Nat} {T:List Str} (h:L.drop i=bxL M.bx++(qsL M.qs++(drL M.dr++T))) (ok:OkM M) (n3:sT L (i + M.bx.length + M.qs.length + (drL M.dr).length) ["box","queue","draws"]):fk L 6 i []=(M.bx,i + M.bx.length)/\gg L (M.bx.map (·.1)) 3 (i + M.bx.length) []=(M.qs,i + M.bx.length + M.qs.length)/\jj L (i + M.bx.length + M.qs.length)=(M.dr,i + M.bx.length + M.qs.length + (drL M.dr).length)/\L.drop (i + M.bx.length + M.qs.length + (drL M.dr).length)=T:=by
 have h1:=gw h;have h2:=gw h1;have h3:=gw h2;have lb:(bxL M.bx).length=M.bx.length:=aa ..;have lq:(qsL M.qs).length=M.qs.length:=aa ..;rw [lb] at h1 h2 h3;rw [lq] at h2 h3;have n2:sT L (i + M.bx.length + M.qs.length) ["box","queue"]/\jj L (i + M.bx.length + M.qs.length)=(M.dr,i + M.bx.length + M.qs.length + (drL M.dr).length):=by
  by_cases e:M.dr=[]
  ·have d0:drL M.dr=[]:=by unfold drL; rw [if_pos e]
   rw [d0] at n3 |-;rw [e];exact ⟨n3.sub (by simp),Ax (n3.sub (by simp))⟩
  ·have d1:drL M.dr=[ln 1 ("draws" :: M.dr.map nt)]:=by unfold drL; rw [if_neg e]
   rw [d1] at h2 |-;have a:=(dG h2).1;have g:GL (("draws":Str) :: M.dr.map nt):=iN (by decide) (fun u m=>by
    obtain ⟨z,mz,rfl⟩:=cu.mp m;exact jC (ok.dr z mz).1) (by rw [aa]; have:=ok.d20; omega)
   exact ⟨qY a g (by decide),HD a e ok.d20 ok.dr⟩
 have n1:sT L (i + M.bx.length) ["box"]:=by
  cases e:M.qs with
  | nil =>
   have:=n2.1;rw [e] at this;exact this.sub (by simp)
  | cons y qs =>
   rw [e] at h1;exact qY (dG h1).1 (iN (by decide) (fun u m=>by rw [au.mp m]; exact fV (ok.qs y (by rw [e]; exact aA))) (by show 1<=59; decide)) (by decide)
 exact ⟨(Eu M.bx 6 i [] _ h ok.b6 ok.bx (dM.mp ok.nd).1).trans (Bd n1),(Ew M.qs 3 _ [] _ h1 ok.q3 ok.qs (by rw [bq]; exact ok.nd)).trans (HB (n2.1.sub (by simp))),n2.2,h3⟩
theorem IY (M:Mo) (i:Nat):i + (mj M).length=i + M.bx.length + M.qs.length + (drL M.dr).length + (M.hr.map lsH).flatten.length:=by
 have lb:(bxL M.bx).length=M.bx.length:=aa ..;have lq:(qsL M.qs).length=M.qs.length:=aa ..;unfold mj;rw [af,af,af,lb,lq];omega
theorem rd_ma {L:List Str} {M:Mo} {i:Nat} {rest:List Str} (h:L.drop i=mj M++rest) (ok:OkM M) (sh:qJ L (i + (mj M).length) 1):kq L i M.nm=.ok (M,i + (mj M).length):=by
 unfold mj at h;rw [aS,aS,aS] at h;rw [IY] at sh |-;have h3:=gw (gw (gw h));rw [show (bxL M.bx).length=M.bx.length from aa ..,show (qsL M.qs).length=M.qs.length from aa ..] at h3;have n3:sT L (i + M.bx.length + M.qs.length + (drL M.dr).length) ["box","queue","draws"]:=by
  cases e:M.hr with
  | nil =>
   rw [e] at sh;exact Gb sh (by decide)
  | cons y hs =>
   rw [e] at h3;exact qY (dG h3).1 (rB (ok.hr y (by rw [e]; exact aA)).1) (by decide)
 obtain ⟨B,Q,Dr,h3⟩:=Ex h ok n3;unfold kq;rw [B];dsimp only;rw [Q];dsimp only;rw [Dr];dsimp only;rw [HE M.hr 4 _ [] rest h3 ok.h4 ok.hr ok.ndh sh];rfl
def Hds (first:Int) (ss:List Str) (i:Nat):Prop:=ss.map (fun x=>x.cps.toList.head?)=(jZ i).map fun j:Nat=>atI abc.cps.toList ((first + 3 * (0 + (j:Int))) % 26)
theorem Hds.snoc {first:Int} {ss:List Str} {i c:Nat} {y:Str} (h:Hds first ss i) (hc:atI abc.cps.toList ((first + 3 * (0 + (i:Int))) % 26)=some c):Hds first (ss++[⟨#[c]⟩++y]) (i + 1):=by
 unfold Hds at h |-;rw [List.range_succ,bA,bA,h];show _++[((⟨#[c]⟩++y:Str).cps.toList.head?)]=_++[atI abc.cps.toList ((first + 3 * (0 + (i:Int))) % 26)];rw [hc,d9];rfl
theorem Gc:∀ f:Fin 26,((jZ 9).map fun j:Nat=>atI abc.cps.toList (((f.val:Int) + 3 * (0 + (j:Int))) % 26)).Nodup:=by decide +kernel
theorem Hds.nodup {first:Int} {ss:List Str} {i:Nat} (h:Hds first ss i) (f0:0<=first) (f1:first < 26) (i9:i<=9):ss.Nodup:=by
 obtain ⟨f,rfl⟩:∃ f:Nat,first=f:=⟨first.toNat,by omega⟩;refine List.Pairwise.of_map (S:=(·≠·)) (fun x:Str=>x.cps.toList.head?) (fun a b n e=>n (congrArg (fun x:Str=>x.cps.toList.head?) e)) ?_;unfold Hds at h;rw [h];refine ff (List.Sublist.map _ ?_) (Gc ⟨f,by omega⟩);have e:jZ i=(jZ 9).take i:=by
  rw [List.take_range,gA i9]
 rw [e];exact jc ..
section
variable {P:aQ} {w:bT} {K:ai} {mg:Str->Option ag} {base:cP} {f fT fW:ak} {fd fdT fdW:cF}
seal PS PSs PE PA PT PW PI PG PGs PC
inductive xg (vs:List V) (H:Hp) (Q:VK) (_e:XK):Prop where
 | mk (p:ak) (n:Int) (_:vs=[.ref p,.int n]) (_:eU H p) (_:0<=n) (_:n<=9) (_:∀ (l:ak) (ss:List Str) (H':Hp),H l=none->H' l=some (.lst (ss.map V.str))->(ss.length:Int)=n->(∀ x∈ss,Nam x)->ss.Nodup->eU H' p->But p H H'->Q (.ref l) H'):xg vs H Q _e
def vG:Sp:=fun vs H Q _e=>xg vs H Q _e
theorem xh (D:Df K mg "_law_names" jN pN f fd) (DT:Df K mg "_law_take" fc pT fT fdT) (B:Bl mg):cW P w K mg base CX0 2 f fd pN vG:=by
 have GT:cW P w K mg base CX0 1 fT fdT pT lK:=lW DT B;refine D.F.ok scN (fun vs H Q E h=>?_) (fun cdv A outer s H vs Q E r1 h=>?_)
 ·obtain ⟨p,n,rfl,_⟩:=h;rfl
 obtain ⟨p,n,rfl,hp,hn0,hn9,q⟩:=h;refine ⟨_,aE (bJ (i:=2) scN.nd rfl (Or.inr rfl) aB)
  (aE (bJ (i:=3) scN.nd rfl (Or.inl rfl) (br GT r1 (by rfl) DT.m DT.F.kp DT.b .nil bM (bD (pv 0) (bo aq aj))))
  (aE (bJ (i:=4) scN.nd rfl (Or.inl rfl) (cA aj))
  (aE (mK c8 rfl (kH (by rfl) B.range (bD (pv 1) aj)) (df (i:=5) scN.nd rfl (Or.inl rfl)) (aE (bJ (i:=6) scN.nd rfl (Or.inl rfl) (br GT r1 (by rfl) DT.m DT.F.kp DT.b .nil bM (bD (pv 0) (bo aq aj))))
  (aE (uo (i:=7) ["_law_j"] (hW.open (NN:=nN) (N:=nN) (sc:=aZ jN) rfl rfl (by decide +kernel) rfl (by decide +kernel) (by decide +kernel) rfl (by decide +kernel)) rfl scN.nd rfl (Or.inl rfl) (kH (by rfl) B.range (bD (pv 6) aj)) (fun _ _ _ _=>df (i:=0) ndN rfl (Or.inl rfl)) (fun _ _ _ _=>jr) (fun _ _ _ _=>cg CM (pv 3) (br GT r1 (by rfl) DT.m DT.F.kp DT.b .nil bM (bD (pv 1) (bo aq aj))) (fun _ _=>rfl)))
  (aO (fZ (gJ bZ cB cC fw (pv 4) (hU (bI cV (cg CM (pv 2) (bI mL (bI fJ (pv 3) (bI rE aq (pv 5))) aq) (fun _ _=>rfl)) (gJ bK fu fv pO aB (bD (pv 7) aj))) aj)))))))
  (aO (bO (pv 4)))))),?_⟩
 have big:=dC;refine aH (bW ?_);refine aF ?_;dsimp only;refine aH (bW ?_);refine ⟨_,rfl,p,26,rfl,hp,by decide,by decide,fun first H1 f0 f1 hp1 b1=>?_⟩;refine aF ?_;dsimp only;refine aH (bW ?_);refine ⟨aU _,fun l hl=>?_⟩;have s3:=ax hl (.lst []);have nl:l≠p:=nY hp1 hl;have hlH:H l=none:=by
  cases e:H l with
  | none=>rfl
  | some o =>
   rw [b1 l o e nl] at hl
   cases hl
 refine aF ?_;dsimp only;refine aH ?_;refine ⟨_,rfl,n,rfl,by omega,by omega,mC (n:=n.toNat) (fun i σ G=>∃ (ss:List Str) (v6 v7 v8:Option V),σ=[some (.ref p),some (.int n),some (.str abc),some (.int first),some (.ref l),v6,v7,v8]/\i<=n.toNat/\G l=some (.lst (ss.map V.str))/\ss.length=i/\(∀ x∈ss,Nam x)/\Hds first ss i/\eU G p/\But p H G)
  ⟨[],none,none,none,rfl,aU _,ao,rfl,(fun x e=>by cases e),rfl,hp1.same s3,b1.same s3⟩ ?_ ?_⟩
 ·rintro i σ G hi ⟨ss,v6,v7,v8,rfl,hi2,hG,hss,gn,hd,pu,bt⟩;refine aH (bW ?_);refine ⟨_,rfl,p,6,rfl,pu,by decide,by decide,fun m G1 m0 m1 pu1 bt1=>?_⟩;refine aF ?_;dsimp only;have hG1:=bt1 _ _ hG nl;obtain ⟨k,rfl⟩:∃ k:Nat,m=(k:Int):=⟨m.toNat,by omega⟩;refine aH (bW ?_);refine wU (fun m G'=>m=k/\G'=G1) (fun R hR=>⟨_,rfl,hR k G1 ⟨rfl,rfl⟩⟩) (fun m G' h=>by omega) (fun m G' i ys G2=>∃ ts:List Str,ys=ts.map V.str/\ts.length=i/\(∀ x∈ts,x.length<=1/\Ltr x)/\eU G2 p/\But p G1 G2) ?_ ?_ ?_ ?_
  ·rintro m G' ⟨rfl,rfl⟩;exact ⟨[],rfl,rfl,(fun x e=>by cases e),pu1,But.refl _ _⟩
  ·rintro m G' ⟨rfl,rfl⟩ i ys G2 hi ⟨ts,rfl,hts,_⟩;rw [aa];omega
  ·rintro m G' ⟨rfl,rfl⟩ j ys G2 hj ⟨ts,rfl,hts,lts,pu2,bt2⟩;refine aF ⟨rfl,?_⟩;unfold t8;refine cT ?_;refine ⟨_,rfl,_,rfl,p,26,rfl,pu2,by decide,by decide,fun r G3 r0 r1' pu3 bt3=>?_⟩;obtain ⟨c,hc⟩:=DX r0 r1';refine ⟨abc,_,c,rfl,rfl,wR,hc,ts++[⟨#[c]⟩],by rw [bA]; rfl,by rw [af]; show _=j + 1; rw [hts]; rfl,fun x hx=>?_,pu3,bt2.trans bt3⟩
   rcases aN.mp hx with z | z
   ·exact lts x z
   ·rw [au.mp z];exact ⟨ay 1,AZ (D0 hc)⟩
  ·rintro m G' ⟨rfl,rfl⟩ ys G2 ⟨ts,rfl,hts,lts,pu2,bt2⟩ lt hlt;refine aF ?_;dsimp only;have st:=ax hlt (.lst (ts.map V.str));have hG2:=st _ _ (bt2 _ _ hG1 nl);have pu3:=pu2.same st;have z1:=DX (gz (first + 3 * (0 + (i:Int))) (show (26:Int)≠0 by decide)) (eS (first + 3 * (0 + (i:Int))) (by decide));obtain ⟨c,hc⟩:=z1;have js:jsz "" ts<=5:=by
    have:=vq (z:="") fun x hx=>(lts x hx).1;have e0:("":Str).length=0:=by decide
    rw [e0,hts] at this;omega
   have jl:=kg "" ts;refine ⟨_,rfl,.inl ⟨rfl,_,SqL.of hG2⟩,_,rfl,_,rfl,_,rfl,_,_,rfl,rfl,.inl ⟨by decide,by decide⟩,_,_,rfl,rfl,_,_,rfl,rfl,(by show (0:Int) < 26; decide),abc,_,c,rfl,rfl,wR,hc,rfl,_,rfl,_,lt,ts,rfl,rfl,.inl (SqL.of ao),by omega,_,_,rfl,rfl,?_,l,_,_,rfl,rfl,hG2,(by rw [aa]; omega),?_⟩
   ·show 1 + (cq "" ts).length<=aw;omega
   ·refine ⟨ss++[⟨#[c]⟩++cq "" ts],_,_,_,rfl,by omega,by rw [bA]; exact ao,by rw [af,hss]; rfl,fun x hx=>?_,hd.snoc hc,tH pu3 nl,?_⟩
    ·rcases aN.mp hx with z | z
     ·exact gn x z
     ·rw [au.mp z];refine ⟨?_,?_,x5 (AZ (D0 hc)) (y7 fun x hx=>(lts x hx).2)⟩
      ·rw [bf];show 1<=1 + _;omega
      ·rw [bf];show 1 + _<=6;omega
    ·intro b o e n;have nb:b≠l:=bF e hlH;rw [aT nb];exact st _ _ (bt2 _ _ (bt1 _ _ (bt _ _ e n) n) n)
 ·rintro σ G ⟨ss,v6,v7,v8,rfl,hi2,hG,hss,gn,hd,pu,bt⟩;refine ⟨_,rfl,?_⟩;exact q l ss G hlH hG (by omega) gn (hd.nodup f0 f1 (by omega)) pu bt
end
end My
namespace My.Dr
open PySem L2
abbrev Rw:=Nat×(Str->List Str)
def rowsC (rs:List Rw):Nat:=(rs.map (·.1)).sum
def rowsL (rs:List Rw) (b:Str):List Str:=rs.flatMap fun r=>r.2 b
inductive LfD (H:Hp):V->Str->Prop where
 | fin {t}:H t=some (.tup [.str "end"])->LfD H (.ref t) "end"
 | three {t k x v s}:H t=some (.tup [.str k,.str x,v])->(k="put"\/k="push"\/k="draw")->Nam x->FI H 15 v s->LfD H (.ref t) (cq " " [k,x,s])
 | send {t z x v1 y v2 v3 s1 s2 s3}:H t=some (.tup [.str "send",.int z,.str x,v1,.int y,v2,v3])->(0<=z/\z<=5)->(0<=y/\y<=9)->Nam x->FI H 15 v1 s1->FI H 15 v2 s2->FI H 15 v3 s3 ->
  LfD H (.ref t) (cq " " ["send",bj (toString z),x,bj (toString y),s1,s2,s3])
def DI (H:Hp):Nat->V->Rw->Prop
 | 0,_,_=>False
 | n + 1,v,r=>(∃ s,LfD H v s/\r=(1,fun b=>[b++s])) \/
  (∃ t l x y vs rs,0 < n/\v=.ref t/\H t=some (.tup [.str "pull",.str x,.str y,.ref l])/\Nam x/\Nam y/\H l=some (.lst vs)/\cL (fun r v=>DI H n v r) rs vs /\
   r=(1 + rowsC rs,fun b=>(b++cq " " ["pull",x,y]) :: rowsL rs (b++"  "))) \/
  (∃ t l1 l2 f s vs1 vs2 rs1 rs2,0 < n/\v=.ref t/\H t=some (.tup [.str "if",f,.ref l1,.ref l2])/\FI H 15 f s/\H l1=some (.lst vs1)/\H l2=some (.lst vs2)/\cL (fun r v=>DI H n v r) rs1 vs1/\cL (fun r v=>DI H n v r) rs2 vs2 /\
   r=(1 + rowsC rs1 + rowsC rs2,fun b=>(b++("if "++s)) :: (rowsL rs1 (b++"  ")++(b++"else") :: rowsL rs2 (b++"  "))))
def Tk (H H':Hp):Prop:=∀ t xs,H t=some (.tup xs)->H' t=some (.tup xs)
theorem Tk.trans {H H1 H2:Hp} (a:Tk H H1) (b:Tk H1 H2):Tk H H2:=fun t xs e=>b _ _ (a _ _ e)
def Nl (H H1 G:Hp):Prop:=∀ a xs,H a=none->H1 a=some (.lst xs)->G a=some (.lst xs)
def OwD (H H1:Hp) (n:Nat) (v:V) (r:Rw):Prop:=∀ G,Tk H1 G->Nl H H1 G->DI G n v r
def OwS (H H1:Hp) (n:Nat) (vs:List V) (rs:List Rw):Prop:=∀ G,Tk H1 G->Nl H H1 G->cL (fun r v=>DI G n v r) rs vs
theorem LfD.up {H H':Hp} {v:V} {s:Str} (h:LfD H v s) (k:Tk H H'):LfD H' v s:=by
 cases h with
 | fin a=>exact .fin (k _ _ a)
 | three a b c d=>exact .three (k _ _ a) b c (d.up k)
 | send a b c d e1 e2 e3=>exact .send (k _ _ a) b c d (e1.up k) (e2.up k) (e3.up k)
def Bt2 (p q:ak) (H H':Hp):Prop:=∀ b o,H b=some o->b≠p->b≠q->H' b=some o
theorem Bt2.of {p q:ak} {H H':Hp} (h:But p H H'):Bt2 p q H H':=fun b o e n _=>h b o e n
theorem Bt2.trans {p q:ak} {H H1 H2:Hp} (a:Bt2 p q H H1) (b:Bt2 p q H1 H2):Bt2 p q H H2:=fun c o e n m=>b c o (a c o e n m) n m
theorem Bt2.same {p q:ak} {H H1 H2:Hp} (a:Bt2 p q H H1) (b:cO H1 H2):Bt2 p q H H2:=fun c o e n m=>b c o (a c o e n m)
structure Two (H:Hp) (p q:ak) (z:Int):Prop where
 pu:eU H p
 le:H q=some (.lst [.int z])
theorem Two.ne {H:Hp} {p q:ak} {z:Int} (h:Two H p q z):q≠p:=by
 obtain ⟨⟨x,y,e⟩,e2⟩:=h;exact Cj e2 e (fun w=>by cases w)
theorem Two.tk {H H':Hp} {p q:ak} {z:Int} (h:Two H p q z) (b:Bt2 p q H H'):Tk H H':=fun t xs e=>b _ _ e (fun w=>by
  obtain ⟨⟨x,y,e3⟩,e2⟩:=h;rw [<- w,e] at e3
  cases e3) (fun w=>by
  have e2:=h.le;rw [<- w,e] at e2
  cases e2)
theorem Two.but {H H':Hp} {p q:ak} {z:Int} (h:Two H p q z) (b:But p H H') (pu:eU H' p):Two H' p q z:=⟨pu,b _ _ h.le h.ne⟩
theorem Two.same {H H':Hp} {p q:ak} {z:Int} (h:Two H p q z) (b:cO H H'):Two H' p q z:=⟨h.pu.same b,b _ _ h.le⟩
theorem Two.nm {H H':Hp} {p q l:ak} {z:Int} (h:Two H p q z) (nm:wb H l) (b:Bt2 p q H H'):wb H' l:=by
 obtain ⟨ns,e,r⟩:=nm;refine ⟨ns,b _ _ e (uA h.pu e) (fun w=>?_),r⟩;have e2:=h.le;rw [<- w,e] at e2
 cases ns with
 | nil=>cases e2
 | cons a s=>cases e2
theorem Two.dm {H H':Hp} {p q:ak} {z':Int} (b:Bt2 p q H H') (h:Two H' p q z') {a:ak} (n:H' a=none):H a=none:=by
 cases e:H a with
 | none=>rfl
 | some o =>
  obtain ⟨⟨x,y,e3⟩,e2⟩:=h
  by_cases c:a=p
  ·rw [c,e3] at n
   cases n
  by_cases c2:a=q
  ·rw [c2,e2] at n
   cases n
  rw [b a o e c c2] at n
  cases n
theorem Two.nn {H:Hp} {p q a:ak} {z:Int} (h:Two H p q z) (n:H a=none):a≠p/\a≠q:=by
 obtain ⟨⟨x,y,e3⟩,e2⟩:=h;exact ⟨(bF e3 n).symm,(bF e2 n).symm⟩
theorem Nl.back {H H1 H2 G:Hp} {p q:ak} {z:Int} (tw:Two H p q z) (b:Bt2 p q H1 H2) (nl:Nl H H2 G):Nl H H1 G:=fun a xs ha e=>nl a xs ha (b a _ e (tw.nn ha).1 (tw.nn ha).2)
theorem Nl.pull {H G1 H1 G:Hp} {p q:ak} {z:Int} (b:Bt2 p q H G1) (tw:Two G1 p q z) (nl:Nl H H1 G):Nl G1 H1 G:=fun a xs ha e=>nl a xs (Two.dm b tw ha) e
theorem psnoc {α β:Type} {R:α->β->Prop} {rs:List α} {vs:List β} {r:α} {v:β} (h:cL R rs vs) (e:R r v):cL R (rs++[r]) (vs++[v]):=by
 induction h with
 | nil=>exact .cons e .nil
 | cons a _ ih=>exact .cons a ih
section
variable {P:aQ} {w:bT} {K:ai} {mg:Str->Option ag} {base:cP} {f fT fW fF fE fS:ak} {fd fdT fdW fdF fdE fdS:cF}
seal PS PSs PE PA PT PW PI PG PGs PC
abbrev nE:List Str:=["_law_purse_here","_law_names_here","_law_left","_law_deep","_law_sort","_law_name","_law_one","_law_ones","_law_rank","_law_two"]
abbrev pE:List Str:=["_law_purse_here","_law_names_here","_law_left","_law_deep"]
theorem scE:cK nE pE (aZ nj):={}
abbrev nS:List Str:=["_law_purse_here","_law_names_here","_law_left","_law_deep","_law_found","_law_k"]
abbrev pS:List Str:=["_law_purse_here","_law_names_here","_law_left","_law_deep"]
theorem scS:cK nS pS (aZ jO):={}
theorem pick_i {p l q:ak} {z:Int} {i j:Nat} {σ:St} {G:Hp} {E':XK} {R:VK} (hp:σ[i]?=some (some (.ref p))) (hl:σ[j]?=some (some (.ref l))) (tw:Two G p q z) (nm:wb G l)
  (h:∀ (x:Str) (G1:Hp),Nam x->Two G1 p q z->wb G1 l->Bt2 p q G G1->R (.str x) G1):tOp (EZ K) (kF j) (AI lK [] E' (gS (kF i) (gS (tCB (GK K) (gS (kF j) q9)) q9))) σ G R:=by
 obtain ⟨ns,e,n0,n9,n6⟩:=nm;refine ⟨_,hl,_,hp,_,hl,l,_,rfl,.inl (SqL.of e),p,_,rfl,tw.pu,by rw [aa]; omega,by rw [aa]; omega,fun r G1 r0 r1 pu b=>?_⟩;rw [aa] at r1;obtain ⟨x,hx,mx⟩:=sM r0 r1;have e1:=b _ _ e (uA tw.pu e);exact ⟨l,_,_,_,rfl,rfl,SqL.of e1,hx,h x G1 (n6 x mx) (tw.but b pu) ⟨ns,e1,n0,n9,n6⟩ (.of b)⟩
inductive spDeI (n:Nat) (vs:List V) (H:Hp) (Q:VK) (_e:XK):Prop where
 | mk (p l q:ak) (d z:Int) (_:vs=[.ref p,.ref l,.ref q,.int d]) (_:Two H p q z) (_:wb H l) (_:0 < z) (_:5 < d + n) (_:d<=5) (_:∀ (v:V) (r:Rw) (H':Hp) (z':Int),OwD H H' n v r->Two H' p q z'->(r.1:Int) + z'<=z->0<=z'->Bt2 p q H H'->Q v H'):spDeI n vs H Q _e
def spDe (n:Nat):Sp:=fun vs H Q _e=>spDeI n vs H Q _e
inductive ze (n:Nat) (vs:List V) (H:Hp) (Q:VK) (_e:XK):Prop where
 | mk (p l q:ak) (d z:Int) (_:vs=[.ref p,.ref l,.ref q,.int d]) (_:Two H p q z) (_:wb H l) (_:0<=z) (_:5 < d + n) (_:d<=5) (_:∀ (m:ak) (vs:List V) (rs:List Rw) (H':Hp) (z':Int),H m=none->H' m=some (.lst vs)->OwS H H' n vs rs->Two H' p q z'->(rowsC rs:Int) + z'<=z->0<=z'->Bt2 p q H H'->Q (.ref m) H'):ze n vs H Q _e
def vE (n:Nat):Sp:=fun vs H Q _e=>ze n vs H Q _e
theorem de_step {n:Nat} (D:Df K mg "_law_deed" nj pE f fd) (DT:Df K mg "_law_take" fc pT fT fdT) (DW:Df K mg "_law_worth" iB pW fW fdW) (DF:Df K mg "_law_formula" iR pFo fF fdF) (DS:Df K mg "_law_deeds" jO pS fS fdS) (B:Bl mg) (GS:cW P w K mg base CX0 (2 * n + 19) fS fdS pS (vE n)):cW P w K mg base CX0 (2 * n + 20) f fd pE (spDe (n + 1)):=by
 have GT:cW P w K mg base CX0 1 fT fdT pT lK:=lW DT B;have GF:cW P w K mg base CX0 17 fF fdF pFo (FR 15):=GZ DF DT DW B 15 (by decide);refine D.F.ok scE (fun vs H Q E h=>?_) (fun cdv A outer s H vs Q E hr h=>?_)
 ·obtain ⟨p,l,q,d,z,rfl,_⟩:=h;rfl
 obtain ⟨p,l,q,d,z,rfl,tw,nm,z0,dn,d5,k⟩:=h;have r1:dj 1 _:=hr.mono (by omega);have r17:dj 17 _:=hr.mono (by omega);refine ⟨_,aE (bJ (i:=4) scE.nd rfl (Or.inl rfl) (br GT r1 (by rfl) DT.m DT.F.kp DT.b .nil bM (bD (pv 0) (bo aq aj))))
  (aE (zD (bI kI (cg cw (pv 2) aq (fun _ _=>rfl)) aq) (Cp (pv 2) aq yA))
  (aE (bJ (i:=5) scE.nd rfl (Or.inl rfl) (cg cw (pv 1) (br GT r1 (by rfl) DT.m DT.F.kp DT.b .nil bM (bD (pv 0) (iM (cR (dz K (by rfl)) (by rfl) B.len bE (bD (pv 1) aj)) aj))) (fun _ _=>rfl)))
  (aE (du (bh eD (pv 4) aq (bR _)) (aO (bO (fK (bo aB aj)))) bX)
  (aE (du ((pB (bh eD (pv 4) aq (bR _)) (og (bh om (pv 3) aq (bR _)))).pt) (aO (bO (fK (bo aB (bD (pv 5) (gF (cg cw (pv 1) (br GT r1 (by rfl) DT.m DT.F.kp DT.b .nil bM (bD (pv 0) (iM (cR (dz K (by rfl)) (by rfl) B.len bE (bD (pv 1) aj)) aj))) (fun _ _=>rfl)) (iM (br GS hr (by rfl) DS.m DS.F.kp DS.b .nil bM (bD (pv 0) (bD (pv 1) (bD (pv 2) (hU (bI fJ (pv 3) aq) aj))))) aj))))))) bX)
  (aE (bJ (i:=6) scE.nd rfl (Or.inl rfl) (br GF r17 (by rfl) DF.m DF.F.kp DF.b .nil bM (bD (pv 0) (bD (pv 1) (gF (cg cw (cA (bo aq (bo aq (bo aq (bo aq aj))))) (br GT r1 (by rfl) DT.m DT.F.kp DT.b .nil bM (bD (pv 0) (bo aq aj))) (fun _ _=>rfl)) aj)))))
  (aE (du ((pB (bh eD (pv 4) aq (bR _)) (og (bh om (pv 3) aq (bR _)))).pt) (aE (bJ (i:=7) scE.nd rfl (Or.inl rfl) (br GS hr (by rfl) DS.m DS.F.kp DS.b .nil bM (bD (pv 0) (bD (pv 1) (bD (pv 2) (hU (bI fJ (pv 3) aq) aj))))))
  (aO (bO (fK (bo aB (bD (pv 6) (bD (pv 7) (iM (br GS hr (by rfl) DS.m DS.F.kp DS.b .nil bM (bD (pv 0) (bD (pv 1) (bD (pv 2) (hU (bI fJ (pv 3) aq) aj))))) aj)))))))) bX)
  (aE (du (bh tK (pv 4) aq (bR _)) (aE (bJ (i:=8) scE.nd rfl (Or.inl rfl) (br GT r1 (by rfl) DT.m DT.F.kp DT.b .nil bM (bD (pv 0) (bo aq aj))))
  (aE (bJ (i:=9) scE.nd rfl (Or.inl rfl) (br GF r17 (by rfl) DF.m DF.F.kp DF.b .nil bM (bD (pv 0) (bD (pv 1) (bo aq aj)))))
  (aO (bO (fK (bo aB (iM (br GT r1 (by rfl) DT.m DT.F.kp DT.b .nil bM (bD (pv 0) (bo aq aj))) (bD (pv 5) (bD (pv 6) (bD (pv 8) (bD (pv 9) (iM (br GF r17 (by rfl) DF.m DF.F.kp DF.b .nil bM (bD (pv 0) (bD (pv 1) (bo aq aj)))) aj)))))))))))) bX)
  (aO (bO (fK (gF (cg cw (cA (bo aB (bo aB (bo aB aj)))) (pv 4) (fun _ _=>rfl)) (bD (pv 5) (bD (pv 6) aj))))))))))))),?_⟩
 have big:=dC;have fin:∀ {G:Hp} {xs:List V} {r:Rw} {z':Int},Bt2 p q H G->Two G p q z'->(r.1:Int) + z'<=z->0<=z'->(∀ G' t,Tk G G'->Nl H G G'->G' t=some (.tup xs)->DI G' (n + 1) (.ref t) r)->xs.length<=7->xs.length<=aw/\∀ t,G t=none->Q (.ref t) (upd G t (.tup xs)):=fun {G xs r z'} b tw1 hz hz0 hD hl=>⟨by omega,fun t ht=>by
  have sm:=ax ht (.tup xs);exact k (.ref t) r _ z' (fun G' tk nl=>hD G' t (fun a ys e=>tk _ _ (sm _ _ e)) (fun a ys ha e=>nl a ys ha (sm _ _ e)) (tk t xs ao)) (tw1.same sm) hz hz0 (b.same sm)⟩
 refine aH (bW ?_);refine ⟨_,rfl,p,8,rfl,tw.pu,by decide,by decide,fun so G1 so0 so1 pu1 b1=>?_⟩;refine aF ?_;dsimp only;have tw1:=tw.but b1 pu1;refine aH (bW ?_);refine ⟨_,rfl,q,_,_,_,rfl,rfl,SqL.of tw1.le,rfl,_,_,rfl,rfl,_,rfl,q,_,_,_,rfl,rfl,tw1.le,rfl,?_⟩;have tw2:Two (upd G1 q (.lst ([V.int z].set (Gd 0) (V.int (z - 1))))) p q (z - 1):=⟨by
  obtain ⟨x,y,e⟩:=tw1.pu;exact ⟨x,y,by rw [aT tw1.ne.symm]; exact e⟩,ao⟩
 have b2:Bt2 p q H (upd G1 q (.lst ([V.int z].set (Gd 0) (V.int (z - 1))))):=fun b o e np nq=>by
  rw [aT nq];exact b1 b o e np
 have nm2:=tw.nm nm b2;dsimp only;generalize upd G1 q (.lst ([V.int z].set (Gd 0) (V.int (z - 1))))=G2 at tw2 b2 nm2 |-;refine aH (bW ?_);refine pick_i (i:=0) (j:=1) rfl rfl tw2 nm2 (fun x G3 lx tw3 nm3 b3=>aF ?_);dsimp only;have b03:=b2.trans b3;refine aH ?_;refine pU (vo rfl) (fun _=>?_) (fun _=>?_)
 ·exact fin (r:=(1,fun b=>[b++"end"])) b03 tw3 (by show (1:Int) + (z - 1)<=z; omega) (by omega) (fun G' t _ _ e=>.inl ⟨_,.fin e,rfl⟩) (by show 1<=7; decide)
 refine aH ?_;refine pU (Det.and (vo rfl) fun _=>xY rfl) (fun c=>?_) (fun _=>?_)
 ·have d4:d < 5:=of_decide_eq_true (cY _ _ ▸ c).2;refine ⟨_,rfl,pick_i (i:=0) (j:=1) rfl rfl tw3 nm3 (fun y G4 ly tw4 nm4 b4=>?_)⟩;have b04:=b03.trans b4;refine ⟨_,rfl,_,rfl,_,rfl,_,rfl,_,_,rfl,rfl,p,l,q,d + 1,z - 1,rfl,tw4,nm4,by omega,by omega,by omega,fun m vs rs G5 z5 hm hm5 ow tw5 hz hz0 b5=>?_⟩;refine fin (r:=(1 + rowsC rs,fun b=>(b++cq " " ["pull",x,y]) :: rowsL rs (b++"  "))) (b04.trans b5) tw5 (by show ((1 + rowsC rs:Nat):Int) + z5<=z; omega) hz0 (fun G' t tk nl e=>.inr (.inl ⟨t,m,x,y,vs,rs,by omega,rfl,e,lx,ly,?_,?_,rfl⟩)) (by show 4<=7; decide)
  ·exact nl m vs (Two.dm b04 tw4 hm) hm5
  ·exact ow G' tk (nl.pull b04 tw4)
 refine fj ?_;dsimp only;refine aH (bW ?_);refine ⟨_,rfl,_,rfl,⟨by show 4<=aw; omega,fun l4 hl4=>?_⟩⟩;have s4:=ax hl4 (.lst [V.int 15,V.int 5,V.int 3,V.int 1]);have tw4:=tw3.same s4;refine ⟨_,rfl,p,4,rfl,tw4.pu,by decide,by decide,fun r5 G5 r50 r51 pu5 b5=>?_⟩;obtain ⟨mo,hmo,mo1,mo2⟩:∃ mo:Nat,atI [V.int 15,V.int 5,V.int 3,V.int 1] r5=some (.int mo)/\0 < mo/\mo<=15:=by
  have:r5=0\/r5=1\/r5=2\/r5=3:=by omega
  rcases this with rfl | rfl | rfl | rfl
  ·exact ⟨15,rfl,by decide,by decide⟩
  ·exact ⟨5,rfl,by decide,by decide⟩
  ·exact ⟨3,rfl,by decide,by decide⟩
  ·exact ⟨1,rfl,by decide,by decide⟩
 have tw5:=tw4.but b5 pu5;have b05:Bt2 p q H G5:=(b03.same s4).trans (.of b5);refine ⟨l4,_,_,_,rfl,rfl,SqL.of (b5 _ _ ao (nY tw3.pu hl4)),hmo,p,l,mo,rfl,tw5.pu,tw.nm nm b05,mo1,mo2,fun v1 s1 G6 F1 pu6 b6=>aF ?_⟩;dsimp only;have F1:=F1.le mo2;have tw6:=tw5.but b6 pu6;have b06:=b05.trans (.of b6);have nm6:=tw.nm nm b06;refine aH ?_;refine pU (Det.and (vo rfl) fun _=>xY rfl) (fun c=>?_) (fun _=>?_)
 ·have d4:d < 5:=of_decide_eq_true (cY _ _ ▸ c).2;refine aH (bW ?_);refine ⟨_,rfl,_,rfl,_,rfl,_,rfl,_,_,rfl,rfl,p,l,q,d + 1,z - 1,rfl,tw6,nm6,by omega,by omega,by omega,fun m7 vs7 rs7 G7 z7 hm7 hm77 ow7 tw7 hz7 hz70 b7=>aF ?_⟩;dsimp only;have b07:=b06.trans b7;refine ⟨_,rfl,_,rfl,_,rfl,_,rfl,_,rfl,_,rfl,_,_,rfl,rfl,p,l,q,d + 1,z7,rfl,tw7,tw.nm nm b07,hz70,by omega,by omega,fun m8 vs8 rs8 G8 z8 hm8 hm88 ow8 tw8 hz8 hz80 b8=>?_⟩;have b08:=b07.trans b8;refine fin (r:=(1 + rowsC rs7 + rowsC rs8,fun b=>(b++("if "++s1)) :: (rowsL rs7 (b++"  ")++(b++"else") :: rowsL rs8 (b++"  ")))) b08 tw8 (by show ((1 + rowsC rs7 + rowsC rs8:Nat):Int) + z8<=z; omega) hz80 (fun G' t tk nl e=>.inr (.inr ⟨t,m7,m8,v1,s1,vs7,vs8,rs7,rs8,by omega,rfl,e,?_,?_,?_,?_,?_,rfl⟩)) (by show 4<=7; decide)
  ·exact F1.up (((tw6.tk b7).trans (tw7.tk b8)).trans tk)
  ·exact nl m7 vs7 (Two.dm b06 tw6 hm7) (b8 _ _ hm77 (tw6.nn hm7).1 (tw6.nn hm7).2)
  ·exact nl m8 vs8 (Two.dm b07 tw7 hm8) hm88
  ·exact ow7 G' ((tw7.tk b8).trans tk) ((nl.pull b06 tw6).back tw6 b8)
  ·exact ow8 G' tk (nl.pull b07 tw7)
 refine aH ?_;refine pU (IL rfl) (fun _=>?_) (fun c=>?_)
 ·refine aH (bW ?_);refine ⟨_,rfl,p,10,rfl,tw6.pu,by decide,by decide,fun rk G7 rk0 rk1 pu7 b7=>aF ?_⟩;dsimp only;have tw7:=tw6.but b7 pu7;have b07:=b06.trans (.of b7);refine aH (bW ?_);refine ⟨_,rfl,_,rfl,p,l,3,rfl,tw7.pu,tw.nm nm b07,by decide,by decide,fun v2 s2 G8 F2 pu8 b8=>aF ?_⟩;dsimp only;have tw8:=tw7.but b8 pu8;have b08:=b07.trans (.of b8);refine ⟨_,rfl,p,6,rfl,tw8.pu,by decide,by decide,fun to G9 to0 to1 pu9 b9=>?_⟩;have tw9:=tw8.but b9 pu9;have b09:=b08.trans (.of b9);refine ⟨_,rfl,_,rfl,_,rfl,_,rfl,_,rfl,_,rfl,p,l,3,rfl,tw9.pu,tw.nm nm b09,by decide,by decide,fun v3 s3 G10 F3 pu10 b10=>?_⟩;have tw10:=tw9.but b10 pu10;refine fin (r:=(1,fun b=>[b++cq " " ["send",bj (toString to),x,bj (toString rk),s1,s2,s3]])) (b09.trans (.of b10)) tw10 (by show (1:Int) + (z - 1)<=z; omega) (by omega) (fun G' t tk nl e=>.inl ⟨_,.send e ⟨to0,by omega⟩ ⟨rk0,by omega⟩ lx (F1.up ?_) ((F2.le (by decide)).up ?_) ((F3.le (by decide)).up tk),rfl⟩) (by show 7<=7; decide)
  ·exact Tk.trans (Tk.trans (Tk.trans (Tk.trans (nk tw6.pu b7) (nk tw7.pu b8)) (nk tw8.pu b9)) (nk tw9.pu b10)) tk
  ·exact Tk.trans (Tk.trans (nk tw8.pu b9) (nk tw9.pu b10)) tk
 have so2:so<=2:=by
  have:=of_decide_eq_false c;omega
 refine fj ?_;dsimp only;refine ⟨by show 3<=aw; omega,fun l7 hl7=>?_⟩;have s7:=ax hl7 (.lst [V.str "put",V.str "push",V.str "draw"]);obtain ⟨kk,hkk,kk3⟩:∃ kk:Str,atI [V.str "put",V.str "push",V.str "draw"] so=some (.str kk)/\(kk="put"\/kk="push"\/kk="draw"):=by
  have:so=0\/so=1\/so=2:=by omega
  rcases this with rfl | rfl | rfl
  ·exact ⟨_,rfl,.inl rfl⟩
  ·exact ⟨_,rfl,.inr (.inl rfl)⟩
  ·exact ⟨_,rfl,.inr (.inr rfl)⟩
 refine ⟨_,rfl,l7,_,_,_,rfl,rfl,SqL.of ao,hkk,_,rfl,_,rfl,?_⟩;exact fin (r:=(1,fun b=>[b++cq " " [kk,x,s1]])) (b06.same s7) (tw6.same s7) (by show (1:Int) + (z - 1)<=z; omega) (by omega) (fun G' t tk nl e=>.inl ⟨_,.three e kk3 lx (F1.up fun a ys e=>tk _ _ (s7 _ _ e)),rfl⟩) (by show 3<=7; decide)
theorem sR {n:Nat} (D:Df K mg "_law_deeds" jO pS f fd) (DT:Df K mg "_law_take" fc pT fT fdT) (DE:Df K mg "_law_deed" nj pE fE fdE) (B:Bl mg) (GE:cW P w K mg base CX0 (2 * n + 18) fE fdE pE (spDe n)):cW P w K mg base CX0 (2 * n + 19) f fd pS (vE n):=by
 have GT:cW P w K mg base CX0 1 fT fdT pT lK:=lW DT B;refine D.F.ok scS (fun vs H Q E h=>?_) (fun cdv A outer s H vs Q E hr h=>?_)
 ·obtain ⟨p,l,q,d,z,rfl,_⟩:=h;rfl
 obtain ⟨p,l,q,d,z,rfl,tw,nm,z0,dn,d5,k⟩:=h;have r1:dj 1 _:=hr.mono (by omega);refine ⟨_,aE (bJ (i:=4) scS.nd rfl (Or.inl rfl) (cA aj))
  (aE (mK c8 rfl (kH (by rfl) B.range (gF (cg cw (cA (bo aq (bo aq (bo aq (bo aq (bo aq aj)))))) (br GT r1 (by rfl) DT.m DT.F.kp DT.b .nil bM (bD (pv 0) (bo aq aj))) (fun _ _=>rfl)) aj)) (df (i:=5) scS.nd rfl (Or.inl rfl)) (aO (du (bh tK (cg cw (pv 2) aq (fun _ _=>rfl)) aq (bR _)) (aO (fZ (gJ bZ cB cC fw (pv 4) (iM (br GE hr (by rfl) DE.m DE.F.kp DE.b .nil bM (bD (pv 0) (bD (pv 1) (bD (pv 2) (bD (pv 3) aj))))) aj)))) bX)))
  (aO (bO (pv 4)))),?_⟩
 have big:=dC;refine aH (bW ?_);refine ⟨aU _,fun m hm=>aF ?_⟩;dsimp only;have sm:=ax hm (.lst []);have tw1:=tw.same sm;have hm1:upd H m (.lst []) m=some (.lst []):=ao;have dm1:∀ a,upd H m (.lst []) a=none->H a=none:=fun a e=>by
  cases h:H a with
  | none=>rfl
  | some o=>rw [sm _ _ h] at e; cases e
 have hH1:∀ a o,upd H m (.lst []) a=some o->a≠m->H a=some o:=fun a o e n=>by
  rw [aT n] at e;exact e
 generalize upd H m (.lst [])=H1 at sm tw1 hm1 dm1 hH1 |-;refine aH ?_;refine ⟨by show 5<=aw; omega,fun l2 hl2=>?_⟩;have s2:=ax hl2 (.lst [V.int 1,V.int 2,V.int 0,V.int 3,V.int 6]);refine ⟨_,rfl,p,5,rfl,(tw1.same s2).pu,by decide,by decide,fun r3 G3 r30 r31 pu3 b3=>?_⟩;obtain ⟨c,hc,c6⟩:∃ c:Nat,atI [V.int 1,V.int 2,V.int 0,V.int 3,V.int 6] r3=some (.int c)/\c<=6:=by
  have:r3=0\/r3=1\/r3=2\/r3=3\/r3=4:=by omega
  rcases this with rfl | rfl | rfl | rfl | rfl
  ·exact ⟨1,rfl,by decide⟩
  ·exact ⟨2,rfl,by decide⟩
  ·exact ⟨0,rfl,by decide⟩
  ·exact ⟨3,rfl,by decide⟩
  ·exact ⟨6,rfl,by decide⟩
 have tw3:=(tw1.same s2).but b3 pu3;have b13:Bt2 p q H1 G3:=fun b o e np nq=>b3 _ _ (s2 _ _ e) np;have nmp:=tw.nn hm;refine ⟨l2,_,_,_,rfl,rfl,SqL.of (b3 _ _ ao (nY tw1.pu hl2)),hc,c,rfl,by omega,by omega,?_⟩;rw [eH];refine mC (n:=c) (fun i σ G=>∃ (vs:List V) (rs:List Rw) (z':Int) (v5:Option V),σ=[some (.ref p),some (.ref l),some (.ref q),some (.int d),some (.ref m),v5]/\vs.length<=i/\G m=some (.lst vs)/\OwS H1 G n vs rs/\Two G p q z'/\(rowsC rs:Int) + z'<=z/\0<=z'/\Bt2 p q H G)
  ⟨[],[],z,none,rfl,ay _,b13 _ _ hm1 nmp.1 nmp.2,fun G' _ _=>.nil,tw3,by show (0:Int) + z<=z; omega,z0,fun b o e np nq=>b13 _ _ (sm _ _ e) np nq⟩ ?_ ?_
 ·rintro i σ G hi ⟨vs,rs,z',v5,rfl,hlen,hG,ow,twG,hz,hz0,bG⟩;refine ⟨_,rfl,q,_,_,_,rfl,rfl,SqL.of twG.le,rfl,_,_,rfl,rfl,_,rfl,?_⟩;refine E3 (fun cz=>?_) (fun _=>?_)
  ·have cz:=GJ cz;refine ⟨_,rfl,.inl ⟨rfl,_,SqL.of hG⟩,_,rfl,_,rfl,_,rfl,_,rfl,p,l,q,d,z',rfl,twG,tw.nm nm bG,cz,dn,d5,fun v r G1 z1 ow1 tw1' hz1 hz10 b1=>?_⟩;have hG1:=b1 _ _ hG nmp.1 nmp.2;refine ⟨m,vs,v,rfl,rfl,hG1,by omega,?_⟩;have tk2:Tk G1 (upd G1 m (.lst (vs++[v]))):=fun t xs e=>by
    rw [aT (Cj e hG1 (fun w=>by cases w))];exact e
   have dmG:∀ a,G a=none->H1 a=none:=fun a e=>by
    cases h:H1 a with
    | none=>rfl
    | some o =>
     by_cases ca:a=m
     ·rw [ca,hG] at e
      cases e
     ·have e1:=hH1 a o h ca;rw [Two.dm bG twG e] at e1
      cases e1
   refine ⟨vs++[v],rs++[r],z1,_,rfl,by rw [af]; show _ + 1<=_; omega,ao,fun G' tk nl=>?_,⟨tH tw1'.pu nmp.1,by rw [aT nmp.2.symm]; exact tw1'.le⟩,?_,hz10,fun b o e np nq=>?_⟩
   ·refine psnoc (ow G' ((twG.tk b1).trans (tk2.trans tk)) fun a xs ha e=>?_) (ow1 G' (tk2.trans tk) fun a xs ha e=>?_)
    ·refine nl a xs ha ?_;rw [aT (bF hm1 ha).symm];exact b1 _ _ e (tw1.nn ha).1 (tw1.nn ha).2
    ·refine nl a xs (dmG a ha) ?_;rw [aT (bF hG ha).symm];exact e
   ·have:rowsC (rs++[r])=rowsC rs + r.1:=by
     unfold rowsC;rw [bA,mG];show _ + (r.1 + 0)=_;omega
    rw [this];omega
   ·rw [aT (bF e hm)];exact b1 _ _ (bG _ _ e np nq) np nq
  ·exact ⟨vs,rs,z',_,rfl,by omega,hG,ow,twG,hz,hz0,bG⟩
 ·rintro σ G ⟨vs,rs,z',v5,rfl,hlen,hG,ow,twG,hz,hz0,bG⟩;refine ⟨_,rfl,?_⟩;exact k m vs rs G z' hm hG (fun G' tk nl=>ow G' tk fun a xs ha e=>nl a xs (dm1 a ha) e) twG hz hz0 bG
theorem ok_dsde (DE:Df K mg "_law_deed" nj pE fE fdE) (DS:Df K mg "_law_deeds" jO pS fS fdS) (DT:Df K mg "_law_take" fc pT fT fdT) (DW:Df K mg "_law_worth" iB pW fW fdW) (DF:Df K mg "_law_formula" iR pFo fF fdF) (B:Bl mg):∀ n:Nat,cW P w K mg base CX0 (2 * n + 18) fE fdE pE (spDe n)/\cW P w K mg base CX0 (2 * n + 19) fS fdS pS (vE n)
 | 0=>by
  have z:cW P w K mg base CX0 18 fE fdE pE (spDe 0):=⟨fun vs H Q E h=>(by obtain ⟨p,l,q,d,z,rfl,_,_,_,h1,h2,_⟩:=h; omega),fun A outer s H args us vs Q E a b c d h=>(by obtain ⟨p,l,q,d,z,rfl,_,_,_,h1,h2,_⟩:=h; omega)⟩;exact ⟨z,sR (n:=0) DS DT DE B z⟩
 | n + 1=>by
  have e:=de_step (n:=n) DE DT DW DF DS B (ok_dsde DE DS DT DW DF B n).2;exact ⟨e,sR (n:=n + 1) DS DT DE B e⟩
end
def WD (H:Hp) (v:V) (s:Str):Prop:=LfD H v s\/(∃ t x y o,v=.ref t/\H t=some (.tup [.str "pull",.str x,.str y,o])/\Nam x/\Nam y/\s=cq " " ["pull",x,y]) \/
 ∃ t f w o1 o2,v=.ref t/\H t=some (.tup [.str "if",f,o1,o2])/\FI H 15 f w/\s="if "++w
theorem jsz_cons (z x:Str) (ys:List Str):jsz z (x :: ys)=x.length + z.length + jsz z ys:=by
 unfold jsz;rw [bY,fX,aG,kL];omega
theorem sp1:(" ":Str).length=1:=by decide
theorem join_le {ys:List Str} {k:Nat} (h:jsz " " ys<=k):(cq " " ys).length<=k:=bN (kg _ _) h
theorem send_jsz {z y:Int} {x s1 s2 s3:Str} (hz:Wo z) (hy:Wo y) (lx:x.length<=6) (l1:s1.length < 18 * 15) (l2:s2.length < 18 * 15) (l3:s3.length < 18 * 15):jsz " " ["send",bj (toString z),x,bj (toString y),s1,s2,s3]<=1000:=by
 have:=ir hz;have:=ir hy;have e:("send":Str).length=4:=by decide
 have e0:jsz " " []=0:=rfl;simp only [jsz_cons,sp1,e,e0];omega
theorem WD.len {H:Hp} {v:V} {s:Str} (h:WD H v s):s.length<=1000:=by
 have e0:jsz " " []=0:=rfl
 rcases h with h | ⟨t,x,y,o,rfl,_,l1,l2,rfl⟩ | ⟨t,f,w,o1,o2,rfl,_,hf,rfl⟩
 ·cases h with
  | fin =>
   have:("end":Str).length=3:=by decide
   omega
  | @three t k x v s _ hk lx hf =>
   have lx:=lx.2.1;have:=hf.len;have hk:k.length<=4:=by rcases hk with rfl | rfl | rfl <;> decide
   refine join_le ?_;simp only [jsz_cons,sp1,e0];omega
  | send _ hz hy lx f1 f2 f3=>exact join_le (send_jsz (jA ⟨hz.1,by omega⟩) (jA hy) lx.2.1 f1.len f2.len f3.len)
 ·have l1:=l1.2.1;have l2:=l2.2.1;refine join_le ?_;have:("pull":Str).length=4:=by decide
  simp only [jsz_cons,sp1,e0];omega
 ·have:=hf.len;have e:("if ":Str).length=3:=by decide
  rw [bf];omega
theorem nz {K:ai} {n:Nat} {ti:TE} {g:TG} {tc:L2.TT} {te:TE} {σ:St} {H:Hp} {Q:VK} {xs:List V} (PP:ak->Hp->Prop) (hi:∀ R:VK,(∀ a H1,PP a H1->R (.ref a) H1)->ti σ H R) (hx:∀ a H1,PP a H1->SqL K H1 a xs) (Pv:ak->Hp->Nat->List V->Hp->Prop) (h0:∀ a H1,PP a H1->Pv a H1 0 [] H1)
  (hl:∀ a H1,PP a H1->∀ i ys G,i<=xs.length->Pv a H1 i ys G->SqL K G a xs/\ys.length < aw)
  (hs:∀ a H1,PP a H1->∀ i x ys G,xs[i]?=some x->Pv a H1 i ys G->g x (aJ n none++σ) G fun σ2 H2=>σ2.drop n=σ/\tc σ2 H2 fun b H3=>if b=true then te σ2 H3 fun y H4=>Pv a H1 (i + 1) (ys++[y]) H4 else Pv a H1 (i + 1) ys H3)
  (hd:∀ a H1,PP a H1->∀ ys G,Pv a H1 xs.length ys G->∀ p,G p=none->Q (.ref p) (upd G p (.lst ys))):pZ n (wm K ti) g tc te σ H Q:=
 hi _ fun a H1 p=>⟨a,rfl,⟨xs,hx a H1 p⟩,qQ (Pv a H1) (h0 a H1 p) (hl a H1 p) (hs a H1 p) (hd a H1 p)⟩
theorem rowsL_snoc (rs:List Rw) (r:Rw) (b:Str):rowsL (rs++[r]) b=rowsL rs b++r.2 b:=by
 unfold rowsL;rw [B5];simp
theorem rowsC_snoc (rs:List Rw) (r:Rw):rowsC (rs++[r])=rowsC rs + r.1:=by
 unfold rowsC;rw [bA,mG];show _ + (r.1 + 0)=_;omega
theorem rows_len {rs:List Rw} (b:Str) (h:∀ r∈rs,(r.2 b).length<=2 * r.1):(rowsL rs b).length<=2 * rowsC rs:=by
 unfold rowsL rowsC
 induction rs with
 | nil=>exact ay _
 | cons r rs ih =>
  have h1:=h r (aA ..);have h2:=ih fun x hx=>h x (az _ hx);rw [pk,af,bY,fX];omega
theorem paired_mem {α β:Type} {R:α->β->Prop} {rs:List α} {vs:List β} (h:cL R rs vs):∀ r∈rs,∃ v,R r v:=by
 induction h with
 | nil=>intro r hr; cases hr
 | cons a _ ih =>
  intro r hr
  rcases ar.mp hr with e | e
  ·exact ⟨_,e ▸ a⟩
  ·exact ih r e
theorem two2:("  ":Str).length=2:=by decide
theorem DI.lines {H:Hp}:∀ {n:Nat} {v:V} {r:Rw},DI H n v r->∀ b:Str,(r.2 b).length<=2 * r.1/\∀ x∈r.2 b,x.length<=b.length + 2 * n + 1000
 | n + 1,v,r,h=>by
  have els:("else":Str).length=4:=by decide
  have sub:∀ (rs:List Rw) (vs:List V) (b:Str),cL (fun r v=>DI H n v r) rs vs->(rowsL rs b).length<=2 * rowsC rs/\∀ x∈rowsL rs b,x.length<=b.length + 2 * n + 1000:=fun rs vs b h=>by
   refine ⟨rows_len b fun r hr=>?_,fun x hx=>?_⟩
   ·obtain ⟨v,hv⟩:=paired_mem h r hr;exact (DI.lines hv b).1
   ·obtain ⟨r,hr,hx⟩:=p9.mp hx;obtain ⟨v,hv⟩:=paired_mem h r hr;exact (DI.lines hv b).2 x hx
  intro b
  rcases h with ⟨s,hs,rfl⟩ | ⟨t,l,x,y,vs,rs,_,rfl,a,lx,ly,hl,hp,rfl⟩ | ⟨t,l1,l2,f,s,vs1,vs2,rs1,rs2,_,rfl,a,hf,h1,h2,p1,p2,rfl⟩
  ·have:=WD.len (.inl hs);refine ⟨by show 1<=2; decide,fun x hx=>?_⟩;rw [au.mp hx,bf];omega
  ·have hw:=WD.len (H:=H) (v:=.ref t) (.inr (.inl ⟨t,x,y,_,rfl,a,lx,ly,rfl⟩));obtain ⟨c1,c2⟩:=sub rs vs (b++"  ") hp;refine ⟨by show (rowsL rs _).length + 1<=2 * (1 + rowsC rs); omega,fun z hz=>?_⟩
   rcases ar.mp hz with rfl | hz
   ·rw [bf];omega
   ·have:=c2 z hz;rw [bf,two2] at this;omega
  ·have hw:=WD.len (H:=H) (v:=.ref t) (.inr (.inr ⟨t,f,s,_,_,rfl,a,hf,rfl⟩));obtain ⟨c1,c2⟩:=sub rs1 vs1 (b++"  ") p1;obtain ⟨d1,d2⟩:=sub rs2 vs2 (b++"  ") p2;refine ⟨?_,fun z hz=>?_⟩
   ·show (rowsL rs1 _++(b++"else") :: rowsL rs2 _).length + 1<=2 * (1 + rowsC rs1 + rowsC rs2);rw [af,aG];omega
   ·rcases ar.mp hz with rfl | hz
    ·rw [bf];omega
    rcases aN.mp hz with hz | hz
    ·have:=c2 z hz;rw [bf,two2] at this;omega
    rcases ar.mp hz with rfl | hz
    ·rw [bf,els];omega
    ·have:=d2 z hz;rw [bf,two2] at this;omega
theorem rows_ok {H:Hp} {n:Nat} {rs:List Rw} {vs:List V} (h:cL (fun r v=>DI H n v r) rs vs) (b:Str):(rowsL rs b).length<=2 * rowsC rs/\∀ x∈rowsL rs b,x.length<=b.length + 2 * n + 1000:=by
 refine ⟨rows_len b fun r hr=>?_,fun x hx=>?_⟩
 ·obtain ⟨v,hv⟩:=paired_mem h r hr;exact (DI.lines hv b).1
 ·obtain ⟨r,hr,hx⟩:=p9.mp hx;obtain ⟨v,hv⟩:=paired_mem h r hr;exact (DI.lines hv b).2 x hx
theorem DI.tk {H H':Hp} (s:cO H H'):∀ {n:Nat} {v:V} {r:Rw},DI H n v r->DI H' n v r
 | n + 1,v,r,h=>by
  have sub:∀ (rs:List Rw) (vs:List V),cL (fun r v=>DI H n v r) rs vs->cL (fun r v=>DI H' n v r) rs vs:=fun rs vs h=>by
   induction h with
   | nil=>exact .nil
   | cons a _ ih=>exact .cons (DI.tk s a) ih
  rcases h with ⟨z,hz,rfl⟩ | ⟨t,l,x,y,vs,rs,n0,rfl,a,lx,ly,hl,hp,rfl⟩ | ⟨t,l1,l2,f,z,vs1,vs2,rs1,rs2,n0,rfl,a,hf,h1,h2,p1,p2,rfl⟩
  ·exact .inl ⟨z,hz.up fun _ _ e=>s _ _ e,rfl⟩
  ·exact .inr (.inl ⟨t,l,x,y,vs,rs,n0,rfl,s _ _ a,lx,ly,s _ _ hl,sub _ _ hp,rfl⟩)
  ·exact .inr (.inr ⟨t,l1,l2,f,z,vs1,vs2,rs1,rs2,n0,rfl,s _ _ a,hf.same s,s _ _ h1,s _ _ h2,sub _ _ p1,sub _ _ p2,rfl⟩)
theorem rows_same {H H':Hp} (s:cO H H') {n:Nat} {rs:List Rw} {vs:List V} (h:cL (fun r v=>DI H n v r) rs vs):cL (fun r v=>DI H' n v r) rs vs:=by
 induction h with
 | nil=>exact .nil
 | cons a _ ih=>exact .cons (a.tk s) ih
inductive spDlI (n:Nat) (vs:List V) (H:Hp) (Q:VK) (_e:XK):Prop where
 | mk (l:ak) (b:Str) (us:List V) (rs:List Rw) (_:vs=[.ref l,.str b]) (_:0 < n) (_:H l=some (.lst us)) (_:cL (fun r v=>DI H n v r) rs us) (_:b.length + 2 * n<=100) (_:rowsC rs<=100) (_:∀ (m:ak) (H':Hp),H m=none->H' m=some (.lst ((rowsL rs b).map V.str))->cO H H'->Q (.ref m) H'):spDlI n vs H Q _e
def spDl (n:Nat):Sp:=fun vs H Q _e=>spDlI n vs H Q _e
theorem iw {α β:Type} {R:α->β->Prop} {rs:List α} {vs:List β} (h:cL R rs vs):∀ {i:Nat} {v:β},vs[i]?=some v->∃ r,rs[i]?=some r/\R r v:=by
 induction h with
 | nil=>intro i v e; simp at e
 | cons a _ ih =>
  intro i v e
  cases i with
  | zero=>simp at e; subst e; exact ⟨_,rfl,a⟩
  | succ i =>
   rw [zk] at e;obtain ⟨r,h1,h2⟩:=ih e;exact ⟨r,by rw [zk]; exact h1,h2⟩
theorem paired_len {α β:Type} {R:α->β->Prop} {rs:List α} {vs:List β} (h:cL R rs vs):rs.length=vs.length:=by
 induction h with
 | nil=>rfl
 | cons _ _ ih=>rw [aG,aG,ih]
theorem rows_take (rs:List Rw) (i:Nat):rowsC (rs.take i)<=rowsC rs:=by
 have e:rowsC rs=rowsC (rs.take i) + rowsC (rs.drop i):=by
  conv=>lhs; rw [<- i6 i rs]
  unfold rowsC;rw [bA,mG]
 omega
theorem rows_at {rs:List Rw} {i:Nat} {r:Rw} (h:rs[i]?=some r):rs.take (i + 1)=rs.take i++[r]:=by
 rw [dS,h];rfl
theorem rows_le {rs:List Rw} {i:Nat} {r:Rw} (h:rs[i]?=some r):r.1<=rowsC rs:=by
 have h1:=rows_take rs (i + 1);rw [rows_at h,rowsC_snoc] at h1;omega
theorem take_len {H:Hp} {n:Nat} {rs:List Rw} {vs:List V} (h:cL (fun r v=>DI H n v r) rs vs) (b:Str) (i:Nat):(rowsL (rs.take i) b).length<=2 * rowsC rs:=by
 have h1:=rows_take rs i;have h2:=rows_len (rs:=rs.take i) b fun r hr=>by
  obtain ⟨v,hv⟩:=paired_mem h r (dN hr);exact (DI.lines hv b).1
 omega
theorem qL {H G:Hp} {m:ak} {o:HO} (s:cO H G) (h:H m=none):cO H (upd G m o):=fun a o e=>by
 rw [aT (bF e h)];exact s _ _ e
structure Mc where
 nm:Str
 bx:List (Str×Int)
 qs:List Str
 dr:List Int
 hr:List (Str×List Rw)
abbrev shw (z:Int):Str:=bj (toString z)
def boxL (q:Str×Int):Str:="  box "++q.1++" "++shw q.2
def queL (x:Str):Str:="  queue "++x
def drawL (ns:List Int):List Str:=if ns.isEmpty then [] else ["  draws "++cq " " (ns.map shw)]
def hearL (h:Str×List Rw):List Str:=("  on "++h.1) :: rowsL h.2 "    "
def Mc.lines (M:Mc):List Str:=["machine "++M.nm]++M.bx.map boxL++M.qs.map queL++drawL M.dr++M.hr.flatMap hearL
structure McX (M:Mc):Prop where
 nm:Nam M.nm
 b6:M.bx.length<=6
 q3:M.qs.length<=3
 h4:M.hr.length<=4
 bx:∀ b∈M.bx,Nam b.1
 qs:∀ q∈M.qs,Nam q
 dr:∀ z∈M.dr,0<=z
 hr:∀ h∈M.hr,Nam h.1
 nd:(M.bx.map (·.1)++M.qs).Nodup
 ndh:(M.hr.map (·.1)).Nodup
structure McOk (M:Mc):Prop where
 more:McX M
 nm:M.nm.length<=6
 lb:M.bx.length<=9
 bx:∀ q∈M.bx,q.1.length<=6/\Wo q.2
 lq:M.qs.length<=9
 qs:∀ x∈M.qs,x.length<=6
 ld:M.dr.length<=20
 dr:∀ z∈M.dr,Wo z
 lh:M.hr.length<=9
 hr:∀ h∈M.hr,h.1.length<=6/\rowsC h.2<=20
def BxI (H:Hp) (q:Str×Int) (v:V):Prop:=∃ t,v=.ref t/\H t=some (.tup [.str q.1,.int q.2])
def HrI (H:Hp) (h:Str×List Rw) (v:V):Prop:=∃ t l us,v=.ref t/\H t=some (.tup [.str h.1,.ref l])/\H l=some (.lst us)/\cL (fun r v=>DI H 5 v r) h.2 us
def MI (H:Hp) (M:Mc) (v:V):Prop:=∃ t lb lq ld lh bs hs,v=.ref t/\H t=some (.tup [.str M.nm,.ref lb,.ref lq,.ref ld,.ref lh])/\H lb=some (.lst bs)/\cL (BxI H) M.bx bs/\H lq=some (.lst (M.qs.map V.str))/\H ld=some (.lst (M.dr.map V.int))/\H lh=some (.lst hs)/\cL (HrI H) M.hr hs
theorem paired_imp {α β:Type} {R S:α->β->Prop} {rs:List α} {vs:List β} (h:cL R rs vs) (f:∀ a b,R a b->S a b):cL S rs vs:=by
 induction h with
 | nil=>exact .nil
 | cons a _ ih=>exact .cons (f _ _ a) ih
theorem BxI.same {H H':Hp} (s:cO H H') {q:Str×Int} {v:V} (h:BxI H q v):BxI H' q v:=by
 obtain ⟨t,e,h⟩:=h;exact ⟨t,e,s _ _ h⟩
theorem HrI.same {H H':Hp} (s:cO H H') {q:Str×List Rw} {v:V} (h:HrI H q v):HrI H' q v:=by
 obtain ⟨t,l,us,e,h1,h2,h3⟩:=h;exact ⟨t,l,us,e,s _ _ h1,s _ _ h2,rows_same s h3⟩
theorem MI.same {H H':Hp} (s:cO H H') {M:Mc} {v:V} (h:MI H M v):MI H' M v:=by
 obtain ⟨t,lb,lq,ld,lh,bs,hs,e,a,h1,h2,h3,h4,h5,h6⟩:=h;exact ⟨t,lb,lq,ld,lh,bs,hs,e,s _ _ a,s _ _ h1,paired_imp h2 fun _ _=>BxI.same s,s _ _ h3,s _ _ h4,s _ _ h5,paired_imp h6 fun _ _=>HrI.same s⟩
theorem flat_le {α:Type} {f:α->List Str} {k:Nat}:∀ {xs:List α},(∀ x∈xs,(f x).length<=k)->(xs.flatMap f).length<=xs.length * k
 | [],_=>aU _
 | x :: xs,h=>by
  have h1:=h x (aA ..);have h2:=flat_le (xs:=xs) fun y hy=>h y (az _ hy);rw [pk,af,aG,kL];omega
theorem empty_app (x:Str):zu++x=x:=by
 show (⟨#[]++x.cps⟩:Str)=x;rw [Array.empty_append]
theorem ifS_join {t:L2.TT} {a b:TS} {D:Ends} {σ:St} {H:Hp} (R:Hp->Prop) (k:∀ H',R H'->D.nx σ H') (h:(∀ H',R H'->D.nx σ H')->vO t a b D σ H):vO t a b D σ H:=h k
theorem join_ints {ns:List Int} (l:ns.length<=20) (h:∀ z∈ns,Wo z):jsz " " (ns.map shw)<=360:=by
 have:=vq (z:=" ") (k:=17) (ys:=ns.map shw) fun x hx=>by
  obtain ⟨z,hz,rfl⟩:=cu.mp hx;exact ir (h z hz)
 rw [sp1,aa] at this;have:=gp 18 l;omega
abbrev MsIn (H:Hp) (Ms:List Mc) (ms:List V):Prop:=cL (fun M v=>MI H M v/\McOk M) Ms ms
theorem MI.lines {H:Hp} {M:Mc} {v:V} (h:MI H M v) (ok:McOk M):M.lines.length<=400/\∀ x∈M.lines,x.length<=2000:=by
 obtain ⟨t,lb,lq,ld,lh,bs,hs,e,a,h1,p1,h3,h4,h5,p6⟩:=h;have rowsH:∀ y∈M.hr,(hearL y).length<=41/\∀ x∈hearL y,x.length<=2000:=fun y hy=>by
  obtain ⟨v,_,_,us,_,_,_,hp⟩:=paired_mem p6 y hy;obtain ⟨z1,z2⟩:=rows_ok hp "    ";obtain ⟨z3,z4⟩:=ok.hr y hy;have e3:("  on ":Str).length=5:=by decide
  have e4:("    ":Str).length=4:=by decide
  refine ⟨by show _ + 1<=41; omega,fun x hx=>?_⟩
  rcases ar.mp hx with rfl | hx
  ·rw [bf];omega
  ·have:=z2 x hx;omega
 have ldr:(drawL M.dr).length<=1:=by
  unfold drawL
  split <;> simp
 have fl:=flat_le (f:=hearL) (k:=41) (xs:=M.hr) fun y hy=>(rowsH y hy).1;have fl2:=gp 41 ok.lh;have l1:=ok.lb;have l2:=ok.lq;refine ⟨?_,fun x hx=>?_⟩
 ·unfold Mc.lines;rw [af,af,af,af,aa,aa];show 1 + _ + _ + _ + _<=_;omega
 ·unfold Mc.lines at hx
  rcases aN.mp hx with hx | hx
  ·rcases aN.mp hx with hx | hx
   ·rcases aN.mp hx with hx | hx
    ·rcases aN.mp hx with hx | hx
     ·rw [au.mp hx,bf];have:=ok.nm;have:("machine ":Str).length=8:=by decide
      omega
     ·obtain ⟨y,hy,rfl⟩:=cu.mp hx;obtain ⟨o1,o2⟩:=ok.bx y hy;have:(shw y.2).length<=17:=ir o2;have:("  box ":Str).length=6:=by decide
      unfold boxL;rw [bf,bf,bf,sp1];omega
    ·obtain ⟨y,hy,rfl⟩:=cu.mp hx;have:=ok.qs y hy;have:("  queue ":Str).length=8:=by decide
     unfold queL;rw [bf];omega
   ·unfold drawL at hx
    split at hx
    ·cases hx
    ·rw [au.mp hx,bf];have:=join_ints ok.ld ok.dr;have:=kg " " (M.dr.map shw);have:("  draws ":Str).length=8:=by decide
     omega
  ·obtain ⟨y,hy,hx⟩:=p9.mp hx;exact (rowsH y hy).2 x hx
theorem ms_bound {H:Hp} {Ms:List Mc} {ms:List V} (h:MsIn H Ms ms) (l:Ms.length<=6):(Ms.flatMap Mc.lines).length<=2400/\jsz "\n" (Ms.flatMap Mc.lines)<=16777216:=by
 have each:∀ M∈Ms,M.lines.length<=400/\∀ x∈M.lines,x.length<=2000:=fun M hM=>by
  obtain ⟨v,h1,h2⟩:=paired_mem h M hM;exact h1.lines h2
 have z:=flat_le (f:=Mc.lines) (k:=400) (xs:=Ms) fun M hM=>(each M hM).1;have z2:=gp 400 l;have z3:(Ms.flatMap Mc.lines).length<=2400:=by omega
 refine ⟨z3,?_⟩;have z4:=vq (z:="\n") (k:=2000) (ys:=Ms.flatMap Mc.lines) fun x hx=>by
  obtain ⟨M,hM,hx⟩:=p9.mp hx;exact (each M hM).2 x hx
 have e:("\n":Str).length=1:=by decide
 rw [e] at z4;have z5:=gp (2000 + 1) z3;omega
section
variable {P:aQ} {w:bT} {K:ai} {mg:Str->Option ag} {base:cP} {f fF fS fE:ak} {fd fdF fdS fdE:cF}
seal PS PSs PE PA PT PW PI PG PGs PC
abbrev nEl:List Str:=["_law_deed_here","_law_ahead","_law_words_here","_law_found"]
abbrev pEl:List Str:=["_law_deed_here","_law_ahead"]
theorem scEl:cK nEl pEl (aZ ip):={}
abbrev nSl:List Str:=["_law_deeds_here","_law_ahead","_law_found","_law_deed_here"]
abbrev pSl:List Str:=["_law_deeds_here","_law_ahead"]
theorem scSl:cK nSl pSl (aZ gf):={}
inductive spElI (n:Nat) (vs:List V) (H:Hp) (Q:VK) (_e:XK):Prop where
 | mk (v:V) (b:Str) (r:Rw) (_:vs=[v,.str b]) (_:DI H n v r) (_:b.length + 2 * n<=100) (_:r.1<=100) (_:∀ (m:ak) (H':Hp),H m=none->H' m=some (.lst ((r.2 b).map V.str))->cO H H'->Q (.ref m) H'):spElI n vs H Q _e
def spEl (n:Nat):Sp:=fun vs H Q _e=>spElI n vs H Q _e
theorem el_step {n:Nat} (D:Df K mg "_law_deed_lines" ip pEl f fd) (DS:Df K mg "_law_deeds_lines" gf pSl fS fdS) (DF:Df K mg "_law_words" jP pLw fF fdF) (B:Bl mg) (GS:cW P w K mg base CX0 (2 * n + 17) fS fdS pSl (spDl n)):cW P w K mg base CX0 (2 * n + 18) f fd pEl (spEl (n + 1)):=by
 have GF:cW P w K mg base CX0 15 fF fdF pLw (FO 15):=GV DF B 15 (by decide);refine D.F.ok scEl (fun vs H Q E h=>?_) (fun cdv A outer s H vs Q E hr h=>?_)
 ·obtain ⟨v,b,r,rfl,_⟩:=h;rfl
 obtain ⟨v,b,r,rfl,hD,hb,hc,q⟩:=h;have r15:dj 15 _:=hr.mono (by omega);refine ⟨_,aE (du (bh eD (cg d6 (pv 0) aq (fun _ _=>rfl)) aB (bR _)) (aO (bO (cA (hU (bI cV (pv 1) aB) aj)))) bX)
  (aE (du (bh eD (cg d6 (pv 0) aq (fun _ _=>rfl)) aB (bR _)) (aE (bJ (i:=2) scEl.nd rfl (Or.inl rfl) (cA (bo aB (iM (iO jo (by rfl) B.str boot_str (gF (cg d6 (pv 0) aq (fun _ _=>rfl)) aj)) (gF (cg d6 (pv 0) aq (fun _ _=>rfl)) (iM (iO jo (by rfl) B.str boot_str (gF (cg d6 (pv 0) aq (fun _ _=>rfl)) aj)) aj))))))
  (aE (bJ (i:=2) scEl.nd rfl (Or.inl rfl) (bI e9 (pv 2) (cA (iM (br GF r15 (by rfl) DF.m DF.F.kp DF.b .nil bM (gF (cg d6 (pv 0) aq (fun _ _=>rfl)) aj)) (iM (br GF r15 (by rfl) DF.m DF.F.kp DF.b .nil bM (gF (cg d6 (pv 0) aq (fun _ _=>rfl)) aj)) (iM (br GF r15 (by rfl) DF.m DF.F.kp DF.b .nil bM (gF (cg d6 (pv 0) aq (fun _ _=>rfl)) aj)) aj))))))
  (aO (bO (cA (hU (bI cV (pv 1) (gJ bK fu fv pO aB (bD (pv 2) aj))) aj)))))) bX)
  (aE (du (bh eD (cg d6 (pv 0) aq (fun _ _=>rfl)) aB (bR _)) (aE (bJ (i:=3) scEl.nd rfl (Or.inl rfl) (cA (hU (bI cV (pv 1) (gJ bK fu fv pO aB (gF (gu Ib (pv 0) iY (gM aq)) aj))) aj)))
  (aO (bO (bI e9 (pv 3) (br GS hr (by rfl) DS.m DS.F.kp DS.b .nil bM (gF (cg d6 (pv 0) aq (fun _ _=>rfl)) (hU (bI cV (pv 1) aB) aj))))))) bX)
  (aE (du (bh eD (cg d6 (pv 0) aq (fun _ _=>rfl)) aB (bR _)) (aE (bJ (i:=3) scEl.nd rfl (Or.inl rfl) (bI e9 (cA (hU (bI cV (bI cV (pv 1) aB) (br GF r15 (by rfl) DF.m DF.F.kp DF.b .nil bM (gF (cg d6 (pv 0) aq (fun _ _=>rfl)) aj))) aj)) (br GS hr (by rfl) DS.m DS.F.kp DS.b .nil bM (gF (cg d6 (pv 0) aq (fun _ _=>rfl)) (hU (bI cV (pv 1) aB) aj)))))
  (aO (bO (bI e9 (bI e9 (pv 3) (cA (hU (bI cV (pv 1) aB) aj))) (br GS hr (by rfl) DS.m DS.F.kp DS.b .nil bM (gF (cg d6 (pv 0) aq (fun _ _=>rfl)) (hU (bI cV (pv 1) aB) aj))))))) bX)
  (aO (bO (cA (hU (bI cV (bI cV (bI cV (bI cV (bI cV (pv 1) (cg d6 (pv 0) aq (fun _ _=>rfl))) aB) (cg d6 (pv 0) aq (fun _ _=>rfl))) aB) (br GF r15 (by rfl) DF.m DF.F.kp DF.b .nil bM (gF (cg d6 (pv 0) aq (fun _ _=>rfl)) aj))) aj))))))),?_⟩
 have big:10000 < aw:=by decide
 have ks:(¬ ("if":Str)="end"/\¬ ("if":Str)="send"/\¬ ("if":Str)="pull"/\¬ ("pull":Str)="end"/\¬ ("pull":Str)="send"/\¬ ("send":Str)="end"):=by decide +kernel
 have k3:∀ k:Str,(k="put"\/k="push"\/k="draw")->¬ k="end"/\¬ k="if"/\¬ k="pull"/\¬ k="send":=by
  intro k h
  rcases h with rfl | rfl | rfl <;> decide +kernel
 have e0:jsz " " []=0:=rfl;have l3:("end":Str).length=3:=by decide
 have l4:("pull":Str).length=4:=by decide
 have li:("if ":Str).length=3:=by decide
 have le:("else":Str).length=4:=by decide
 rcases hD with ⟨z,hz,rfl⟩ | ⟨t,l2,x,y,vs2,rs2,n0,rfl,a,lx,ly,hl2,hp2,rfl⟩ | ⟨t,l1,l2,g,z,vs1,vs2,rs1,rs2,n0,rfl,a,hf,h1,h2,p1,p2,rfl⟩
 ·have one:∀ (G:Hp) (x:Str),cO H G->x=b++z->1<=aw/\∀ m,G m=none->Q (.ref m) (upd G m (.lst [V.str x])):=fun G x sg e=>⟨by omega,fun m hm=>q m _ (sg.free hm) (by rw [e]; exact ao) (sg.trans (ax hm _))⟩
  cases hz with
  | fin a =>
   refine aH (lX (fun Q q=>⟨_,rfl,_,_,_,_,rfl,rfl,SqT.of a,rfl,q⟩) ?_);exact ⟨_,rfl,_,_,rfl,rfl,by omega,one H _ (cO.refl _) rfl⟩
  | @three t k x v s a hk lx hf =>
   have lx:=lx.2.1;obtain ⟨n1,n2,n3,n4⟩:=k3 k hk;have hk4:k.length<=4:=by rcases hk with rfl | rfl | rfl <;> decide
   have:=hf.len;refine aH (eJ (fun Q q=>⟨_,rfl,_,_,_,_,rfl,rfl,SqT.of a,rfl,q⟩) n1 (fj ?_));dsimp only;refine aH (eJ (fun Q q=>⟨_,rfl,_,_,_,_,rfl,rfl,SqT.of a,rfl,q⟩) n4 (fj ?_));dsimp only;refine aH (eJ (fun Q q=>⟨_,rfl,_,_,_,_,rfl,rfl,SqT.of a,rfl,q⟩) n3 (fj ?_));dsimp only;refine aH (eJ (fun Q q=>⟨_,rfl,_,_,_,_,rfl,rfl,SqT.of a,rfl,q⟩) n2 (fj ?_));dsimp only;refine ⟨_,rfl,_,rfl,_,_,_,_,rfl,rfl,SqT.of a,rfl,_,_,rfl,rfl,by omega,_,_,rfl,rfl,by rw [bf,sp1]; omega,_,rfl,_,_,_,_,rfl,rfl,SqT.of a,rfl,_,_,rfl,rfl,by rw [bf,bf,sp1]; omega,_,_,rfl,rfl,by rw [bf,bf,bf,sp1]; omega,_,rfl,_,_,_,_,rfl,rfl,SqT.of a,rfl,v,s,rfl,hf,fun H1 g1=>⟨_,_,rfl,rfl,by rw [bf,bf,bf,bf,sp1]; omega,one H1 _ g1 ?_⟩⟩;show _=b++(((k++" ")++x)++" "++s);simp only [iq]
  | @send t z x v1 y v2 v3 s1 s2 s3 a hz hy lx f1 f2 f3 =>
   have hz:Wo z:=jA ⟨hz.1,by omega⟩;have hy:Wo y:=jA hy;have lx:=lx.2.1;refine aH (eJ (fun Q q=>⟨_,rfl,_,_,_,_,rfl,rfl,SqT.of a,rfl,q⟩) ks.2.2.2.2.2 (fj ?_));dsimp only;refine aH (lX (fun Q q=>⟨_,rfl,_,_,_,_,rfl,rfl,SqT.of a,rfl,q⟩) ?_);refine aH (bW ?_);refine ⟨_,rfl,_,_,_,_,rfl,rfl,SqT.of a,rfl,_,rfl,vt hz,_,rfl,_,_,_,_,rfl,rfl,SqT.of a,rfl,_,rfl,_,_,_,_,rfl,rfl,SqT.of a,rfl,_,rfl,vt hy,⟨by show 4<=aw; omega,fun l5 hl5=>aF ?_⟩⟩;dsimp only;have s5:=ax hl5 (.lst [V.str "send",V.str (bj (toString z)),V.str x,V.str (bj (toString y))]);have h5:upd H l5 (.lst [V.str "send",V.str (bj (toString z)),V.str x,V.str (bj (toString y))]) l5=_:=ao;generalize upd H l5 (.lst [V.str "send",V.str (bj (toString z)),V.str x,V.str (bj (toString y))])=G5 at s5 h5 |-;refine aH (bW ?_);refine ⟨_,rfl,_,rfl,_,_,_,_,rfl,rfl,SqT.of (s5 _ _ a),rfl,v1,s1,rfl,f1.same s5,fun G6 s6=>?_⟩;have s56:=s5.trans s6;refine ⟨_,rfl,_,_,_,_,rfl,rfl,SqT.of (s56 _ _ a),rfl,v2,s2,rfl,f2.same s56,fun G7 s7=>?_⟩;have s57:=s56.trans s7;refine ⟨_,rfl,_,_,_,_,rfl,rfl,SqT.of (s57 _ _ a),rfl,v3,s3,rfl,f3.same s57,fun G8 s8=>⟨by show 3<=aw; omega,fun l9 hl9=>?_⟩⟩;have s9:=ax hl9 (.lst [V.str s1,V.str s2,V.str s3]);have h59:=s9 _ _ (s8 _ _ (s7 _ _ (s6 _ _ h5)));refine ⟨l5,l9,_,_,rfl,rfl,h59,ao,(by show 4 + 3<=aw; omega),fun l10 hl10=>aF ?_⟩;dsimp only;have js:=send_jsz hz hy lx f1.len f2.len f3.len;have jl:=kg " " ["send",bj (toString z),x,bj (toString y),s1,s2,s3];refine ⟨_,rfl,rfl,_,rfl,_,l10,["send",bj (toString z),x,bj (toString y),s1,s2,s3],rfl,rfl,.inl (SqL.of ao),by omega,_,_,rfl,rfl,by omega,one _ _ (((s57.trans s8).trans s9).trans (ax hl10 _)) rfl⟩
 ·refine aH (eJ (fun Q q=>⟨_,rfl,_,_,_,_,rfl,rfl,SqT.of a,rfl,q⟩) ks.2.2.2.1 (fj ?_));dsimp only;refine aH (eJ (fun Q q=>⟨_,rfl,_,_,_,_,rfl,rfl,SqT.of a,rfl,q⟩) ks.2.2.2.2.1 (fj ?_));dsimp only;refine aH (lX (fun Q q=>⟨_,rfl,_,_,_,_,rfl,rfl,SqT.of a,rfl,q⟩) ?_);refine aH (bW ?_);have lx:=lx.2.1;have ly:=ly.2.1;have js:jsz " " ["pull",x,y]<=100:=by
   simp only [jsz_cons,sp1,e0];omega
  have jl:=kg " " ["pull",x,y];refine ⟨_,rfl,rfl,_,rfl,_,rfl,t,_,rfl,SqT.of a,(by show ¬ (HT.sIx 4 0 none=0/\HT.sIx 4 4 (some 3)=4); decide),fun t2 ht2=>⟨_,t2,["pull",x,y],rfl,rfl,.inr (SqT.of ao),by omega,_,_,rfl,rfl,by omega,⟨by show 1<=aw; omega,fun l3 hl3=>aF ?_⟩⟩⟩;dsimp only;have s3:=(ax ht2 (.tup (gU [V.str "pull",V.str x,V.str y,V.ref l2] none (some 3)))).trans (ax hl3 (.lst [V.str (b++cq " " ["pull",x,y])]));have h3:upd (upd H t2 (.tup (gU [V.str "pull",V.str x,V.str y,V.ref l2] none (some 3)))) l3 (.lst [V.str (b++cq " " ["pull",x,y])]) l3=_:=ao;generalize upd (upd H t2 (.tup (gU [V.str "pull",V.str x,V.str y,V.ref l2] none (some 3)))) l3 (.lst [V.str (b++cq " " ["pull",x,y])])=G3 at s3 h3 |-;have l2':=(rows_ok hp2 (b++"  ")).1;have hc':1 + rowsC rs2<=100:=hc;refine ⟨_,rfl,_,rfl,_,_,_,_,rfl,rfl,SqT.of (s3 _ _ a),rfl,_,rfl,_,_,rfl,rfl,by rw [two2]; omega,l2,b++"  ",vs2,rs2,rfl,n0,s3 _ _ hl2,rows_same s3 hp2,by rw [bf,two2]; omega,by omega,fun m4 G4 hm4 h4 s4=>?_⟩;refine ⟨l3,m4,_,_,rfl,rfl,s4 _ _ h3,h4,?_,fun m5 hm5=>q m5 _ ((s3.trans s4).free hm5) ao ((s3.trans s4).trans (ax hm5 _))⟩;rw [aa];show 1 + _<=_;omega
 ·refine aH (eJ (fun Q q=>⟨_,rfl,_,_,_,_,rfl,rfl,SqT.of a,rfl,q⟩) ks.1 (fj ?_));dsimp only;refine aH (eJ (fun Q q=>⟨_,rfl,_,_,_,_,rfl,rfl,SqT.of a,rfl,q⟩) ks.2.1 (fj ?_));dsimp only;refine aH (eJ (fun Q q=>⟨_,rfl,_,_,_,_,rfl,rfl,SqT.of a,rfl,q⟩) ks.2.2.1 (fj ?_));dsimp only;refine aH (lX (fun Q q=>⟨_,rfl,_,_,_,_,rfl,rfl,SqT.of a,rfl,q⟩) ?_);have hfl:=hf.len;have l1':=(rows_ok p1 (b++"  ")).1;have l2':=(rows_ok p2 (b++"  ")).1;have hc':1 + rowsC rs1 + rowsC rs2<=100:=hc;refine aH (bW ?_);refine ⟨_,rfl,_,_,rfl,rfl,by omega,_,rfl,_,_,_,_,rfl,rfl,SqT.of a,rfl,g,z,rfl,hf,fun G1 s1=>⟨_,_,rfl,rfl,by rw [bf]; omega,⟨by show 1<=aw; omega,fun l3 hl3=>?_⟩⟩⟩;have s3:=s1.trans (ax hl3 (.lst [V.str (b++"if "++z)]));have h3:upd G1 l3 (.lst [V.str (b++"if "++z)]) l3=_:=ao;generalize upd G1 l3 (.lst [V.str (b++"if "++z)])=G3 at s3 h3 |-;refine ⟨_,rfl,_,_,_,_,rfl,rfl,SqT.of (s3 _ _ a),rfl,_,rfl,_,_,rfl,rfl,by rw [two2]; omega,l1,b++"  ",vs1,rs1,rfl,n0,s3 _ _ h1,rows_same s3 p1,by rw [bf,two2]; omega,by omega,fun m4 G4 hm4 h4 s4=>?_⟩;refine ⟨l3,m4,_,_,rfl,rfl,s4 _ _ h3,h4,(by rw [aa]; show 1 + _<=_; omega),fun m5 hm5=>aF ?_⟩;dsimp only;have s5:=(s3.trans s4).trans (ax hm5 (.lst ([V.str (b++"if "++z)]++(rowsL rs1 (b++"  ")).map V.str)));have h5:upd G4 m5 (.lst ([V.str (b++"if "++z)]++(rowsL rs1 (b++"  ")).map V.str)) m5=_:=ao;generalize upd G4 m5 (.lst ([V.str (b++"if "++z)]++(rowsL rs1 (b++"  ")).map V.str))=G5 at s5 h5 |-;refine ⟨_,rfl,_,rfl,_,_,rfl,rfl,by rw [le]; omega,⟨by show 1<=aw; omega,fun l6 hl6=>?_⟩⟩;have s6:=ax hl6 (.lst [V.str (b++"else")]);refine ⟨m5,l6,_,_,rfl,rfl,s6 _ _ h5,ao,?_,fun m7 hm7=>?_⟩
  ·rw [af,aa];show 1 + _ + 1<=_;omega
  have s7:=(s5.trans s6).trans (ax hm7 (.lst ([V.str (b++"if "++z)]++(rowsL rs1 (b++"  ")).map V.str++[V.str (b++"else")])));have h7:upd (upd G5 l6 (.lst [V.str (b++"else")])) m7 (.lst ([V.str (b++"if "++z)]++(rowsL rs1 (b++"  ")).map V.str++[V.str (b++"else")])) m7=_:=ao;generalize upd (upd G5 l6 (.lst [V.str (b++"else")])) m7 (.lst ([V.str (b++"if "++z)]++(rowsL rs1 (b++"  ")).map V.str++[V.str (b++"else")]))=G7 at s7 h7 |-;refine ⟨_,rfl,_,_,_,_,rfl,rfl,SqT.of (s7 _ _ a),rfl,_,rfl,_,_,rfl,rfl,by rw [two2]; omega,l2,b++"  ",vs2,rs2,rfl,n0,s7 _ _ h2,rows_same s7 p2,by rw [bf,two2]; omega,by omega,fun m8 G8 hm8 h8 s8=>?_⟩;refine ⟨m7,m8,_,_,rfl,rfl,s8 _ _ h7,h8,?_,fun m9 hm9=>q m9 _ ((s7.trans s8).free hm9) ?_ ((s7.trans s8).trans (ax hm9 _))⟩
  ·rw [af,af,aa,aa];show 1 + _ + 1 + _<=_;omega
  ·rw [ao];simp [iq]
theorem sl_step {n:Nat} (D:Df K mg "_law_deeds_lines" gf pSl f fd) (DE:Df K mg "_law_deed_lines" ip pEl fE fdE) (B:Bl mg) (GE:cW P w K mg base CX0 (2 * n + 16) fE fdE pEl (spEl n)):cW P w K mg base CX0 (2 * n + 17) f fd pSl (spDl n):=by
 refine D.F.ok scSl (fun vs H Q E h=>?_) (fun cdv A outer s H vs Q E hr h=>?_)
 ·obtain ⟨l,b,us,rs,rfl,_⟩:=h;rfl
 obtain ⟨l,b,us,rs,rfl,_,hl,hp,hb,hc,q⟩:=h;refine ⟨_,aE (bJ (i:=2) scSl.nd rfl (Or.inl rfl) (cA aj))
  (aE (mK c8 rfl (gx (pv 0)) (df (i:=3) scSl.nd rfl (Or.inl rfl)) (aO (bJ (i:=2) scSl.nd rfl (Or.inl rfl) (bI e9 (pv 2) (br GE hr (by rfl) DE.m DE.F.kp DE.b .nil bM (bD (pv 3) (bD (pv 1) aj)))))))
  (aO (bO (pv 2)))),?_⟩
 have big:10000 < aw:=by decide
 refine aH (bW ⟨aU _,fun m hm=>aF ?_⟩);dsimp only;have sm:=ax hm (.lst []);refine aH ⟨_,rfl,l,rfl,⟨us,SqL.of (sm _ _ hl)⟩,kX (xs:=us) (fun i σ G=>∃ m v4,σ=[some (.ref l),some (.str b),some (.ref m),v4]/\H m=none/\i<=us.length/\cO H G/\G m=some (.lst ((rowsL (rs.take i) b).map V.str))) ⟨m,none,rfl,hm,aU _,sm,ao⟩ ?_ ?_ ?_⟩
 ·rintro i σ G hi ⟨m,v4,rfl,_,_,sg,_⟩;exact SqL.of (sg _ _ hl)
 ·rintro i u σ G hu ⟨m,v4,rfl,hm,hi,sg,hG⟩;have hil:i < us.length:=(bg.mp hu).1;obtain ⟨r,hr1,hd⟩:=iw hp hu;have lt:=take_len hp b i;have rle:=rows_le hr1;have rl:=(hd.lines b).1;refine aF (bW ?_);dsimp only;refine ⟨_,rfl,_,rfl,_,rfl,u,b,r,rfl,hd.tk sg,hb,by omega,fun m1 G1 hm1 h1 s1=>?_⟩;refine ⟨m,m1,_,_,rfl,rfl,s1 _ _ hG,h1,(by rw [aa,aa]; omega),fun m2 hm2=>aF ?_⟩;have s2:=(sg.trans s1).trans (ax hm2 (.lst ((rowsL (rs.take i) b).map V.str++(r.2 b).map V.str)));exact ⟨m2,_,rfl,(sg.trans s1).free hm2,hil,s2,by rw [ao,rows_at hr1,rowsL_snoc,bA]⟩
 ·rintro σ G ⟨m,v4,rfl,hm,hi,sg,hG⟩;refine ⟨_,rfl,?_⟩;rw [<- paired_len hp,cD] at hG;exact q m G hm hG sg
theorem ok_slel (DE:Df K mg "_law_deed_lines" ip pEl fE fdE) (DS:Df K mg "_law_deeds_lines" gf pSl fS fdS) (DF:Df K mg "_law_words" jP pLw fF fdF) (B:Bl mg):∀ n:Nat,cW P w K mg base CX0 (2 * n + 16) fE fdE pEl (spEl n)/\cW P w K mg base CX0 (2 * n + 17) fS fdS pSl (spDl n)
 | 0=>by
  have z:cW P w K mg base CX0 16 fE fdE pEl (spEl 0):=⟨fun vs H Q E h=>(by obtain ⟨v,b,r,rfl,h,_⟩:=h; exact h.elim),fun A outer s H args us vs Q E a b c d h=>(by obtain ⟨v,b,r,rfl,h,_⟩:=h; exact h.elim)⟩;exact ⟨z,sl_step (n:=0) DS DE B z⟩
 | n + 1=>by
  have e:=el_step (n:=n) DE DS DF B (ok_slel DE DS DF B n).2;exact ⟨e,sl_step (n:=n + 1) DS DE B e⟩
end
section
variable {P:aQ} {w:bT} {K:ai} {mg:Str->Option ag} {base:cP} {f fS:ak} {fd fdS:cF}
seal PS PSs PE PA PT PW PI PG PGs PC
abbrev nLl:List Str:=["_law_machines_here","_law_found","_law_name","_law_boxes","_law_queues","_law_draws","_law_hears","_law_box","_law_worth_here","_law_queue","_law_sign","_law_deeds_here"]
abbrev pLl:List Str:=["_law_machines_here"]
theorem scLl:cK nLl pLl (aZ jQ):={}
theorem ndLl:((["_law_draw"]:List Str)++nLl).Nodup:=by decide +kernel
inductive spLlI (vs:List V) (H:Hp) (Q:VK) (_e:XK):Prop where
 | mk (l:ak) (ms:List V) (Ms:List Mc) (_:vs=[.ref l]) (_:H l=some (.lst ms)) (_:MsIn H Ms ms) (_:Ms.length<=6) (_:∀ (m:ak) (H':Hp),H m=none->H' m=some (.lst ((Ms.flatMap Mc.lines).map V.str))->cO H H'->Q (.ref m) H'):spLlI vs H Q _e
def spLl:Sp:=fun vs H Q _e=>spLlI vs H Q _e
theorem ok_ll (D:Df K mg "_law_lines" jQ pLl f fd) (DS:Df K mg "_law_deeds_lines" gf pSl fS fdS) (GS:cW P w K mg base CX0 27 fS fdS pSl (spDl 5)) (B:Bl mg):cW P w K mg base CX0 28 f fd pLl spLl:=by
 refine D.F.ok scLl (fun vs H Q E h=>?_) (fun cdv A outer s H vs Q E r27 h=>?_)
 ·obtain ⟨l,ms,Ms,rfl,_⟩:=h;rfl
 obtain ⟨l,ms,Ms,rfl,hl,hMs,l6,q⟩:=h;have h50:=C6 r27;refine ⟨_,aE (bJ (i:=1) scLl.nd rfl (Or.inl rfl) (cA aj))
  (aE (mK c8 rfl (gx (pv 0)) (zC rfl (ie (df (i:=2) scLl.nd rfl (Or.inl rfl)) (ie (df (i:=3) scLl.nd rfl (Or.inl rfl)) (ie (df (i:=4) scLl.nd rfl (Or.inl rfl)) (ie (df (i:=5) scLl.nd rfl (Or.inl rfl)) (ie (df (i:=6) scLl.nd rfl (Or.inl rfl)) se)))))) (aE (fZ (gJ bZ cB cC fw (pv 1) (hU (bI cV aB (pv 2)) aj)))
  (aE (mK c8 rfl (gx (pv 3)) (zC rfl (ie (df (i:=7) scLl.nd rfl (Or.inl rfl)) (ie (df (i:=8) scLl.nd rfl (Or.inl rfl)) se))) (aO (fZ (gJ bZ cB cC fw (pv 1) (hU (bI cV (bI cV (bI cV aB (pv 7)) aB) (iO jo (by rfl) B.str boot_str (bD (pv 8) aj))) aj)))))
  (aE (mK c8 rfl (gx (pv 4)) (df (i:=9) scLl.nd rfl (Or.inl rfl)) (aO (fZ (gJ bZ cB cC fw (pv 1) (hU (bI cV aB (pv 9)) aj)))))
  (aE (du (bh (C7 h50) (pv 5) (cA aj) (bR _)) (aO (fZ (gJ bZ cB cC fw (pv 1) (hU (bI cV aB (gJ bK fu fv pO aB (ft (lR ["_law_draw"] (hW.open (NN:=nLl) (N:=nLl) (sc:=aZ jQ) rfl rfl (by decide +kernel) rfl (by decide +kernel) (by decide +kernel) rfl (by decide +kernel)) rfl (gx (pv 5)) (fun _ _ _ _=>df (i:=0) ndLl rfl (Or.inl rfl)) (fun _ _ _ _=>jr) (fun _ _ _ _=>iO jo (by rfl) B.str boot_str (bD (pv 0) aj))) aj))) aj)))) bX)
  (aO (mK c8 rfl (gx (pv 6)) (zC rfl (ie (df (i:=10) scLl.nd rfl (Or.inl rfl)) (ie (df (i:=11) scLl.nd rfl (Or.inl rfl)) se))) (aO (bJ (i:=1) scLl.nd rfl (Or.inl rfl) (bI e9 (bI e9 (pv 1) (cA (hU (bI cV aB (pv 10)) aj))) (br GS r27 (by rfl) DS.m DS.F.kp DS.b .nil bM (bD (pv 11) (bo aB aj)))))))))))))
  (aO (bO (pv 1)))),?_⟩
 have big:10000 < aw:=by decide
 obtain ⟨b1,b2⟩:=ms_bound hMs l6;have lm:("machine ":Str).length=8:=by decide
 have e1:("  box ":Str).length=6:=by decide
 have e2:("  queue ":Str).length=8:=by decide
 have e3:("  on ":Str).length=5:=by decide
 have e4:("    ":Str).length=4:=by decide
 have e5:("  draws ":Str).length=8:=by decide
 refine aH (bW ⟨aU _,fun m hm=>aF ?_⟩);dsimp only;have sm:=ax hm (.lst []);refine aH ⟨_,rfl,l,rfl,⟨ms,SqL.of (sm _ _ hl)⟩,kX (xs:=ms) (fun i σ G=>∃ m u2 u3 u4 u5 u6 u7 u8 u9 u10 u11,σ=[some (.ref l),some (.ref m),u2,u3,u4,u5,u6,u7,u8,u9,u10,u11]/\H m=none/\cO H G/\G m=some (.lst (((Ms.take i).flatMap Mc.lines).map V.str))) ⟨m,none,none,none,none,none,none,none,none,none,none,rfl,hm,sm,ao⟩ ?_ ?_ ?_⟩
 ·rintro i σ G hi ⟨m,u2,u3,u4,u5,u6,u7,u8,u9,u10,u11,rfl,hm,sg,_⟩;exact SqL.of (sg _ _ hl)
 ·rintro i0 u0 σ G hu0 ⟨m,u2,u3,u4,u5,u6,u7,u8,u9,u10,u11,rfl,hm,sg,hG⟩;obtain ⟨M,hx0,hM1,ok⟩:=iw hMs hu0;obtain ⟨t,lb,lq,ld,lh,bs,hs,rfl,a,h1,p1,h3,h4,h5,p6⟩:=hM1;have lT:((Ms.take i0).flatMap Mc.lines).length<=2400:=by
   have e:(Ms.flatMap Mc.lines).length=((Ms.take i0).flatMap Mc.lines).length + ((Ms.drop i0).flatMap Mc.lines).length:=by
    conv=>lhs; rw [<- i6 i0 Ms]
    rw [B5,af]
   omega
  have nm:=ok.nm;have lb9:=ok.lb;have lq9:=ok.lq;have ld20:=ok.ld;refine ⟨t,_,rfl,SqT.of (sg _ _ a),rfl,_,_,rfl,aF ⟨_,_,rfl,aF ⟨_,_,rfl,aF ⟨_,_,rfl,aF ⟨_,_,rfl,aF ⟨rfl,?_⟩⟩⟩⟩⟩⟩;dsimp only;have step:(Ms.take (i0 + 1)).flatMap Mc.lines=(Ms.take i0).flatMap Mc.lines++M.lines:=by
   rw [dS,hx0];simp
  generalize hAs:(Ms.take i0).flatMap Mc.lines=As at hG lT step;refine aH ⟨_,rfl,.inl ⟨rfl,_,SqL.of hG⟩,_,rfl,_,_,rfl,rfl,by omega,m,_,_,rfl,rfl,hG,by rw [aa]; omega,?_⟩;dsimp only;have sg0:cO H (upd G m (.lst (As.map V.str++[V.str ("machine "++M.nm)]))):=qL sg hm;have hG0:upd G m (.lst (As.map V.str++[V.str ("machine "++M.nm)])) m=some (.lst ((As++[("machine ":Str)++M.nm]).map V.str)):=by rw [ao,bA]; rfl
  generalize upd G m (.lst (As.map V.str++[V.str ("machine "++M.nm)]))=G0 at sg0 hG0 |-;refine aH ⟨_,rfl,lb,rfl,⟨bs,SqL.of (sg0 _ _ h1)⟩,kX (xs:=bs) (fun i σ G=>∃ u7 u8,σ=[some (.ref l),some (.ref m),some (.str M.nm),some (.ref lb),some (.ref lq),some (.ref ld),some (.ref lh),u7,u8,u9,u10,u11]/\cO H G/\G m=some (.lst ((As++[("machine ":Str)++M.nm]++(M.bx.take i).map boxL).map V.str))) ⟨u7,u8,rfl,sg0,by rw [hG0]; simp⟩ ?_ ?_ ?_⟩
  ·rintro i σ G hi ⟨u7,u8,rfl,sg,_⟩;exact SqL.of (sg _ _ h1)
  ·rintro i u σ G hu ⟨u7,u8,rfl,sg,hG⟩;obtain ⟨x,hx,tb,rfl,hb⟩:=iw p1 hu;obtain ⟨ox,oz⟩:=ok.bx x (bw hx);have sl:=ir oz;refine ⟨tb,_,rfl,SqT.of (sg _ _ hb),rfl,_,_,rfl,aF ⟨_,_,rfl,aF ⟨rfl,?_⟩⟩⟩;dsimp only;refine ⟨_,rfl,.inl ⟨rfl,_,SqL.of hG⟩,_,rfl,_,_,rfl,rfl,by omega,_,_,rfl,rfl,by rw [bf,sp1]; omega,_,rfl,_,rfl,vt oz,_,_,rfl,rfl,by rw [bf,bf,sp1]; omega,?_⟩;refine ⟨m,_,_,rfl,rfl,hG,by rw [aa,af,af,aa,bP]; show _ + 1 + min _ _ < _; omega,?_⟩;refine ⟨_,_,rfl,qL sg hm,?_⟩;rw [ao,dS,hx];simp [boxL,shw]
  rintro σ G1 ⟨u7,u8,rfl,sg1,hG1⟩;rw [<- paired_len p1,cD] at hG1;dsimp only;refine aH ⟨_,rfl,lq,rfl,⟨_,SqL.of (sg1 _ _ h3)⟩,kX (xs:=M.qs.map V.str) (fun i σ G=>∃ u9,σ=[some (.ref l),some (.ref m),some (.str M.nm),some (.ref lb),some (.ref lq),some (.ref ld),some (.ref lh),u7,u8,u9,u10,u11]/\cO H G/\G m=some (.lst ((As++[("machine ":Str)++M.nm]++M.bx.map boxL++(M.qs.take i).map queL).map V.str))) ⟨u9,rfl,sg1,by rw [hG1]; simp⟩ ?_ ?_ ?_⟩
  ·rintro i σ G hi ⟨u9,rfl,sg,_⟩;exact SqL.of (sg _ _ h3)
  ·rintro i u σ G hu ⟨u9,rfl,sg,hG⟩;obtain ⟨x,hx,rfl⟩:∃ x,M.qs[i]?=some x/\u=.str x:=by
    rw [cb] at hu;obtain ⟨x,h1,h2⟩:=dy.mp hu;exact ⟨x,h1,h2.symm⟩
   have ox:=ok.qs x (bw hx);refine aF ?_;dsimp only;refine ⟨_,rfl,.inl ⟨rfl,_,SqL.of hG⟩,_,rfl,_,_,rfl,rfl,by omega,?_⟩;refine ⟨m,_,_,rfl,rfl,hG,by rw [aa,af,af,af,aa,aa,bP]; show _ + 1 + _ + min _ _ < _; omega,?_⟩;refine ⟨_,rfl,qL sg hm,?_⟩;rw [ao,dS,hx];simp [queL]
  rintro σ G2 ⟨u9,rfl,sg2,hG2⟩;rw [aa,cD] at hG2;dsimp only;refine aH (ifS_join (fun G3=>cO H G3/\G3 m=some (.lst ((As++[("machine ":Str)++M.nm]++M.bx.map boxL++M.qs.map queL++drawL M.dr).map V.str))) ?_ ?_)
  ·rintro G3 ⟨sg3,hG3⟩;dsimp only;have ldr:(drawL M.dr).length<=1:=by
    unfold drawL
    split <;> simp
   refine ⟨_,rfl,lh,rfl,⟨hs,SqL.of (sg3 _ _ h5)⟩,kX (xs:=hs) (fun i σ G=>∃ m u10 u11,σ=[some (.ref l),some (.ref m),some (.str M.nm),some (.ref lb),some (.ref lq),some (.ref ld),some (.ref lh),u7,u8,u9,u10,u11]/\H m=none/\i<=hs.length/\cO H G/\G m=some (.lst ((As++[("machine ":Str)++M.nm]++M.bx.map boxL++M.qs.map queL++drawL M.dr++(M.hr.take i).flatMap hearL).map V.str))) ⟨m,u10,u11,rfl,hm,aU _,sg3,by rw [hG3]; simp⟩ ?_ ?_ ?_⟩
   ·rintro i σ G hi ⟨m,u10,u11,rfl,_,_,sg,_⟩;exact SqL.of (sg _ _ h5)
   ·rintro i u σ G hu ⟨m,u10,u11,rfl,hm,hi,sg,hG⟩;have hil:i < hs.length:=(bg.mp hu).1;obtain ⟨x,hx,th,lx,us,rfl,ht,hlx,hp⟩:=iw p6 hu;obtain ⟨ox,oc⟩:=ok.hr x (bw hx);have lh9:=ok.lh;have lfl:((M.hr.take i).flatMap hearL).length<=9 * 41:=by
     have z:=flat_le (f:=hearL) (k:=41) (xs:=M.hr.take i) fun y hy=>by
      obtain ⟨v,_,_,us',_,_,_,hp'⟩:=paired_mem p6 y (dN hy);have z1:=(rows_ok hp' "    ").1;have z2:=(ok.hr y (dN hy)).2;show _ + 1<=41;omega
     have z3:(M.hr.take i).length<=9:=by
      rw [bP];omega
     have z4:=gp 41 z3;omega
    have rl:=(rows_ok hp "    ").1;refine ⟨th,_,rfl,SqT.of (sg _ _ ht),rfl,_,_,rfl,aF ⟨_,_,rfl,aF ⟨rfl,bW ?_⟩⟩⟩;dsimp only;generalize hA:(As++[("machine ":Str)++M.nm]++M.bx.map boxL++M.qs.map queL++drawL M.dr++(M.hr.take i).flatMap hearL).map V.str=Bs at hG;have lA:Bs.length<=3000:=by
     rw [<- hA,aa,af,af,af,af,af,aa,aa];show _ + 1 + _ + _ + _ + _<=_;omega
    refine ⟨_,rfl,_,rfl,_,_,rfl,rfl,by omega,⟨by show 1<=aw; omega,fun l4 hl4=>?_⟩⟩;have s4:=ax hl4 (.lst [V.str ("  on "++x.1)]);refine ⟨m,l4,_,_,rfl,rfl,s4 _ _ hG,ao,by show _ + 1<=_; omega,fun m5 hm5=>?_⟩;have s5:=(sg.trans s4).trans (ax hm5 (.lst (Bs++[V.str ("  on "++x.1)])));have h55:upd (upd G l4 (.lst [V.str ("  on "++x.1)])) m5 (.lst (Bs++[V.str ("  on "++x.1)])) m5=_:=ao;generalize upd (upd G l4 (.lst [V.str ("  on "++x.1)])) m5 (.lst (Bs++[V.str ("  on "++x.1)]))=G5 at s5 h55 |-;refine ⟨_,rfl,lx,"    ",us,x.2,rfl,by decide,s5 _ _ hlx,rows_same s5 hp,by rw [e4]; omega,by omega,fun m6 G6 hm6 h6 sg6=>?_⟩;refine ⟨m5,m6,_,_,rfl,rfl,sg6 _ _ h55,h6,by rw [af,aa]; show _ + 1 + _<=_; omega,fun m7 hm7=>aF ?_⟩;refine ⟨m7,_,_,rfl,(s5.trans sg6).free hm7,hil,(s5.trans sg6).trans (ax hm7 _),?_⟩;rw [ao,dS,hx,<- hA];simp [hearL]
   ·rintro σ G ⟨m,u10,u11,rfl,hm,hi,sg,hG⟩;refine ⟨m,_,_,_,_,_,_,_,_,_,_,rfl,hm,sg,?_⟩;rw [<- paired_len p6,cD] at hG;rw [hG,step];simp [Mc.lines]
  ·intro hk;refine ⟨_,rfl,⟨aU _,fun l0 hl0=>?_⟩⟩;have s0:=ax hl0 (.lst []);refine ⟨ld,l0,_,rfl,rfl,s0 _ _ (sg2 _ _ h4),ao,_,rfl,?_⟩;have s20:=sg2.trans s0;have hG20:=s0 _ _ hG2;generalize upd G2 l0 (.lst [])=G5 at s20 hG20 |-
   cases hdr:M.dr with
   | nil =>
    refine c9 (hk G5 ⟨s20,?_⟩);rw [hG20,hdr];simp [drawL]
   | cons n ns =>
    refine cT ?_;rw [hdr] at h4;refine ⟨_,rfl,.inl ⟨rfl,_,SqL.of hG20⟩,rfl,?_⟩;refine nz (K:=K) (xs:=(n :: ns).map V.int) (fun a' H1=>a'=ld/\H1=G5) (fun R hR=>⟨_,rfl,hR ld G5 ⟨rfl,rfl⟩⟩) (fun a' H1 h=>by rw [h.1,h.2]; exact SqL.of (s20 _ _ h4))
     (fun a' H1 i ys G=>G=G5/\ys=(((n :: ns).take i).map shw).map V.str) (fun a' H1 h=>⟨h.2,rfl⟩) ?_ ?_ ?_
    ·rintro a' H1 ⟨rfl,rfl⟩ i ys G hi ⟨rfl,rfl⟩;refine ⟨SqL.of (s20 _ _ h4),?_⟩;rw [aa] at hi;rw [hdr] at ld20;rw [aa,aa,bP];omega
    ·rintro a' H1 ⟨rfl,rfl⟩ i u ys G hu ⟨rfl,rfl⟩;obtain ⟨z,hz,rfl⟩:∃ z,(n :: ns)[i]?=some z/\u=.int z:=by
      rw [cb] at hu;obtain ⟨x,h1,h2⟩:=dy.mp hu;exact ⟨x,h1,h2.symm⟩
     have oz:=ok.dr z (by rw [hdr]; exact bw hz);refine aF ⟨rfl,?_⟩;unfold t8;refine cT ?_;refine ⟨_,rfl,_,rfl,vt oz,rfl,?_⟩;rw [dS,hz,bA,bA];rfl
    ·rintro a' H1 ⟨rfl,rfl⟩ ys G ⟨rfl,rfl⟩ l6' hl6;rw [aa,cD];have s6:=ax hl6 (.lst (((n :: ns).map shw).map V.str));have ji:=join_ints ok.ld ok.dr;rw [hdr] at ji ld20;have jl:=kg " " ((n :: ns).map shw);refine ⟨_,l6',(n :: ns).map shw,rfl,rfl,.inl (SqL.of ao),by omega,_,_,rfl,rfl,by omega,m,_,_,rfl,rfl,s6 _ _ hG20,?_,?_⟩
     ·rw [aa,af,af,af,aa,aa];show _ + 1 + _ + _ < _;omega
     ·refine hk _ ⟨qL (s20.trans s6) hm,?_⟩;rw [ao,hdr];simp [drawL]
 ·rintro σ G ⟨m,u2,u3,u4,u5,u6,u7,u8,u9,u10,u11,rfl,hm,sg,hG⟩;rw [<- paired_len hMs,cD] at hG;exact ⟨_,rfl,q m G hm hG sg⟩
end
def Wp (p:ak) (H:Hp):Hp:=fun a=>if a=p then none else H a
theorem wp_some {p a:ak} {H:Hp} {o:HO} (h:H a=some o) (n:a≠p):Wp p H a=some o:=by
 unfold Wp;rw [if_neg n];exact h
theorem wp_of {p a:ak} {H:Hp} {o:HO} (h:Wp p H a=some o):a≠p/\H a=some o:=by
 unfold Wp at h
 by_cases c:a=p
 ·rw [if_pos c] at h
  cases h
 ·rw [if_neg c] at h;exact ⟨c,h⟩
theorem _root_.My.But.wp {p:ak} {H H':Hp} (b:But p H H'):cO (Wp p H) (Wp p H'):=fun a o e=>by
 obtain ⟨n,h⟩:=wp_of e;exact wp_some (b _ _ h n) n
theorem wp_same (p:ak) (H:Hp):cO (Wp p H) H:=fun a o e=>(wp_of e).2
theorem strs_inj:∀ {a b:List Str},a.map V.str=b.map V.str->a=b
 | [],[],_=>rfl
 | [],_ :: _,h=>nomatch h
 | _ :: _,[],h=>nomatch h
 | x :: a,y :: b,h=>by
  obtain ⟨h1,h2⟩:=aV h;rw [strs_inj h2,V.str.inj h1]
theorem cut_take {ss:List Str} {r:Int} (r0:0<=r) (h:r<=ss.length):gU (ss.map V.str) none (some r)=(ss.take r.toNat).map V.str:=by
 obtain ⟨k,rfl⟩:∃ k:Nat,r=k:=⟨r.toNat,by omega⟩;unfold gU;rw [HT.sIx_nat,HT.sIx_none,GC,zZ,aa,gA (by omega),<- pz,eH]
theorem cut_mid {ss:List Str} {r:Int} (r0:0<=r) (h:6 + r<=ss.length):gU (ss.map V.str) (some 6) (some (6 + r))=((ss.drop 6).take r.toNat).map V.str:=by
 obtain ⟨k,rfl⟩:∃ k:Nat,r=k:=⟨r.toNat,by omega⟩;unfold gU;rw [show (some (6:Int))=some ((6:Nat):Int) from rfl,show (some (6 + (k:Int)))=some ((6 + k:Nat):Int) from rfl,HT.sIx_nat,HT.sIx_nat,aa,gA (by omega),gA (by omega),<- yp,<- pz,eH,zz]
theorem comp_listD {K:ai} {n:Nat} {ti:TE} {g:TG} {tc:L2.TT} {te:TE} {σ:St} {H:Hp} {Q:VK} (PP:ak->List V->Hp->Prop) (hi:∀ R:VK,(∀ a xs H1,PP a xs H1->R (.ref a) H1)->ti σ H R) (hx:∀ a xs H1,PP a xs H1->SqL K H1 a xs) (Pv:ak->List V->Hp->Nat->List V->Hp->Prop) (h0:∀ a xs H1,PP a xs H1->Pv a xs H1 0 [] H1)
  (hl:∀ a xs H1,PP a xs H1->∀ i ys G,i<=xs.length->Pv a xs H1 i ys G->SqL K G a xs/\ys.length < aw)
  (hs:∀ a xs H1,PP a xs H1->∀ i x ys G,xs[i]?=some x->Pv a xs H1 i ys G->g x (aJ n none++σ) G fun σ2 H2=>σ2.drop n=σ/\tc σ2 H2 fun b H3=>if b=true then te σ2 H3 fun y H4=>Pv a xs H1 (i + 1) (ys++[y]) H4 else Pv a xs H1 (i + 1) ys H3)
  (hd:∀ a xs H1,PP a xs H1->∀ ys G,Pv a xs H1 xs.length ys G->∀ p,G p=none->Q (.ref p) (upd G p (.lst ys))):pZ n (wm K ti) g tc te σ H Q:=
 hi _ fun a xs H1 p=>⟨a,rfl,⟨xs,hx a xs H1 p⟩,qQ (Pv a xs H1) (h0 a xs H1 p) (hl a xs H1 p) (hs a xs H1 p) (hd a xs H1 p)⟩
section
variable {P:aQ} {w:bT} {K:ai} {mg:Str->Option ag} {base:cP} {f fT fW fN fS:ak} {fd fdT fdW fdN fdS:cF}
seal PS PSs PE PA PT PW PI PG PGs PC
abbrev nMa:List Str:=["_law_purse_here","_law_name","_law_names_here","_law_boxes","_law_queues","_law_draws","_law_hears","_law_sign"]
abbrev pMa:List Str:=["_law_purse_here","_law_name"]
theorem scMa:cK nMa pMa (aZ iS):={}
theorem ndMa:((["_law_box"]:List Str)++nMa).Nodup:=by decide +kernel
theorem ndMa2:((["_law_k"]:List Str)++nMa).Nodup:=by decide +kernel
inductive spMaI (vs:List V) (H:Hp) (Q:VK) (_e:XK):Prop where
 | mk (p:ak) (nm:Str) (_:vs=[.ref p,.str nm]) (_:eU H p) (_:Nam nm) (_:∀ (v:V) (M:Mc) (H':Hp),MI (Wp p H') M v->McOk M->M.nm=nm->eU H' p->But p H H'->Q v H'):spMaI vs H Q _e
def spMa:Sp:=fun vs H Q _e=>spMaI vs H Q _e
theorem ok_ma (D:Df K mg "_law_machine" iS pMa f fd) (DT:Df K mg "_law_take" fc pT fT fdT) (DW:Df K mg "_law_worth" iB pW fW fdW) (DN:Df K mg "_law_names" jN pN fN fdN) (DS:Df K mg "_law_deeds" jO pS fS fdS) (GS:cW P w K mg base CX0 29 fS fdS pS (vE 5)) (B:Bl mg):cW P w K mg base CX0 30 f fd pMa spMa:=by
 have GT:cW P w K mg base CX0 1 fT fdT pT lK:=lW DT B;have GW:cW P w K mg base CX0 2 fW fdW pW xZ:=yX DW DT B;have GN:cW P w K mg base CX0 2 fN fdN pN vG:=xh DN DT B;refine D.F.ok scMa (fun vs H Q E h=>?_) (fun cdv A outer s H vs Q E r29 h=>?_)
 ·obtain ⟨p,nm,rfl,_⟩:=h;rfl
 obtain ⟨p,nm,rfl,pu,lnm,q⟩:=h;have r1:dj 1 _:=r29.mono (by decide);have r2:dj 2 _:=r29.mono (by decide);refine ⟨_,aE (bJ (i:=2) scMa.nd rfl (Or.inl rfl) (br GN r2 (by rfl) DN.m DN.F.kp DN.b .nil bM (bD (pv 0) (bo aq aj))))
  (aE (uo (i:=3) ["_law_box"] (hW.open (NN:=nMa) (N:=nMa) (sc:=aZ iS) rfl rfl (by decide +kernel) rfl (by decide +kernel) (by decide +kernel) rfl (by decide +kernel)) rfl scMa.nd rfl (Or.inl rfl) (gx (gu jq (pv 2) iY (gM (br GT r1 (by rfl) DT.m DT.F.kp DT.b .nil bM (bD (pv 0) (bo aq aj)))))) (fun _ _ _ _=>df (i:=0) ndMa rfl (Or.inl rfl)) (fun _ _ _ _=>jr) (fun _ _ _ _=>fK (bD (pv 0) (iM (br GW r2 (by rfl) DW.m DW.F.kp DW.b .nil bM (bD (pv 1) aj)) aj))))
  (aE (bJ (i:=4) scMa.nd rfl (Or.inl rfl) (gu jq (pv 2) (gM aq) (gM (bI fJ aq (br GT r1 (by rfl) DT.m DT.F.kp DT.b .nil bM (bD (pv 0) (bo aq aj)))))))
  (aE (uo (i:=5) ["_law_k"] (hW.open (NN:=nMa) (N:=nMa) (sc:=aZ iS) rfl rfl (by decide +kernel) rfl (by decide +kernel) (by decide +kernel) rfl (by decide +kernel)) rfl scMa.nd rfl (Or.inl rfl) (kH (by rfl) B.range (gF (cg cw (cA (bo aq (bo aq (bo aq (bo aq aj))))) (br GT r1 (by rfl) DT.m DT.F.kp DT.b .nil bM (bD (pv 0) (bo aq aj))) (fun _ _=>rfl)) aj)) (fun _ _ _ _=>df (i:=0) ndMa2 rfl (Or.inl rfl)) (fun _ _ _ _=>jr) (fun _ _ _ _=>cR yx (by rfl) B.abs boot_abs (iM (br GW r2 (by rfl) DW.m DW.F.kp DW.b .nil bM (bD (pv 1) aj)) aj)))
  (aE (bJ (i:=6) scMa.nd rfl (Or.inl rfl) (cA aj))
  (aE (mK c8 rfl (gx (br GN r2 (by rfl) DN.m DN.F.kp DN.b .nil bM (bD (pv 0) (iM (br GT r1 (by rfl) DT.m DT.F.kp DT.b .nil bM (bD (pv 0) (bo aq aj))) aj)))) (df (i:=7) scMa.nd rfl (Or.inl rfl)) (aO (fZ (gJ bZ cB cC fw (pv 6) (vn (fK (bD (pv 7) (iM (br GS r29 (by rfl) DS.m DS.F.kp DS.b .nil bM (bD (pv 0) (bD (pv 2) (rO (cA (bo aq aj)) (bo aq aj))))) aj))) aj) (hs:=vk)))))
  (aO (bO (fK (bD (pv 1) (bD (pv 3) (bD (pv 4) (bD (pv 5) (bD (pv 6) aj))))))))))))),?_⟩
 have big:10000 < aw:=by decide
 refine aH (bW ⟨_,rfl,p,9,rfl,pu,by decide,by decide,fun ln ss G1 hln h1 lss ss6 snd pu1 b1=>aF ?_⟩);dsimp only;have ss9:ss.length=9:=by omega
 have nlp:ln≠p:=nY pu hln
 refine aH (bW (comp_listD (K:=K) (fun a' xs G=>∃ qs:List Str,xs=qs.map V.str/\(∃ r:Nat,r<=6/\qs=ss.take r)/\G a'=some (.lst xs)/\a'≠p/\eU G p/\But p G1 G)
  (fun R hR=>⟨_,rfl,_,rfl,p,7,rfl,pu1,by decide,by decide,fun r G r0 r1 puG bG=>⟨r,rfl,ln,_,rfl,SqL.of (bG _ _ h1 nlp),fun l2 hl2=>?_⟩⟩) (fun a' xs G h=>by obtain ⟨qs,_,_,h,_⟩:=h; exact SqL.of h)
  (fun a' xs H1 i ys G=>∃ bx:List (Str×Int),cL (BxI (Wp p G)) bx ys/\bx.length=i/\(∀ q∈bx,Wo q.2)/\(∀ qs:List Str,xs=qs.map V.str->bx.map (·.1)=qs.take i)/\eU G p/\But p H1 G) ?_ ?_ ?_ ?_))
 ·have s2:=ax hl2 (.lst (gU (ss.map V.str) none (some r)));exact hR l2 _ _ ⟨_,cut_take r0 (by omega),⟨r.toNat,by omega,rfl⟩,ao,nY puG hl2,puG.same s2,bG.same s2⟩
 ·rintro a' xs G2 ⟨qs,rfl,hq,ha,np,pu2,b2⟩;exact ⟨[],.nil,rfl,(fun q hq=>by cases hq),fun _ _=>rfl,pu2,But.refl _ _⟩
 ·rintro a' xs G2 ⟨qs,rfl,⟨rr,r6,rfl⟩,ha,np,pu2,b2⟩ i ys G hi ⟨bx,pb,lb,ob,hbx,puG,bG⟩;refine ⟨SqL.of (bG _ _ ha np),?_⟩;have:=paired_len pb;rw [aa,bP] at hi;omega
 ·rintro a' xs G2 ⟨qs,rfl,hq,ha,np,pu2,b2⟩ i u ys G hu ⟨bx,pb,lb,ob,hbx,puG,bG⟩;obtain ⟨x,hx,rfl⟩:∃ x,qs[i]?=some x/\u=.str x:=by
   rw [cb] at hu;obtain ⟨x,h1,h2⟩:=dy.mp hu;exact ⟨x,h1,h2.symm⟩
  refine aF ⟨rfl,?_⟩;unfold t8;refine cT ?_;refine ⟨_,rfl,_,rfl,p,rfl,puG,fun z G3 z1 z2 pu3 b3=>⟨by show 2<=aw; omega,fun t ht=>?_⟩⟩;have st:=ax ht (.tup [V.str x,V.int z]);refine ⟨bx++[(x,z)],psnoc (paired_imp pb fun _ _ h=>h.same (b3.same st).wp) ⟨t,rfl,wp_some ao (nY pu3 ht)⟩,by rw [af,lb]; rfl,fun y hy=>?_,fun qs' e=>?_,pu3.same st,(bG.trans b3).same st⟩
  rcases aN.mp hy with hy | hy
  ·exact ob y hy
  ·rw [au.mp hy];exact ⟨z1,z2⟩
  ·have e2:qs=qs':=strs_inj e;subst e2;rw [dS,hx,bA,hbx qs rfl];rfl
 rintro a' xs G2 ⟨qs0,rfl,⟨rr,r6,rfl⟩,ha,np,pu2,b2⟩ ys G3 ⟨bx,pb,lbx,ob,hbx,pu3,b3⟩ lb hlb;have hbx:=hbx _ rfl;rw [aa] at lbx hbx;rw [cD] at hbx;rw [bP] at lbx;refine aF ?_;dsimp only;have sb:=ax hlb (.lst ys);have nb:=nY pu3 hlb;have hb4:upd G3 lb (.lst ys) lb=some (.lst ys):=ao;have b04:But p H (upd G3 lb (.lst ys)):=((b1.trans b2).trans b3).same sb;have h14:upd G3 lb (.lst ys) ln=_:=sb _ _ (b3 _ _ (b2 _ _ h1 nlp) nlp);have pu4:=pu3.same sb;have pb4:cL (BxI (Wp p (upd G3 lb (.lst ys)))) bx ys:=paired_imp pb fun _ _ h=>h.same ((But.refl p G3).same sb).wp;generalize upd G3 lb (.lst ys)=G4 at hb4 b04 h14 pu4 pb4 |-
 refine aH (bW ⟨_,rfl,_,rfl,_,rfl,p,4,rfl,pu4,by decide,by decide,fun r5 G5 r50 r51 pu5 b5=>⟨_,_,rfl,rfl,_,rfl,ln,_,rfl,SqL.of (b5 _ _ h14 nlp),fun lq hlq=>aF ?_⟩⟩);dsimp only;rw [cut_mid r50 (by omega)];obtain ⟨qs,hqs⟩:∃ qs,qs=(ss.drop 6).take r5.toNat:=⟨_,rfl⟩;rw [<- hqs];have sq:=ax hlq (.lst (qs.map V.str));have nq:=nY pu5 hlq;have hq6:upd G5 lq (.lst (qs.map V.str)) lq=some (.lst (qs.map V.str)):=ao;have b46:But p G4 (upd G5 lq (.lst (qs.map V.str))):=b5.same sq;have pu6:=pu5.same sq;generalize upd G5 lq (.lst (qs.map V.str))=G6 at hq6 b46 pu6 |-
 refine aH (bW (wU (fun m G=>m<=20/\eU G p/\But p G6 G) (fun R hR=>⟨by show 4<=aw; omega,fun l7 hl7=>?_⟩) (fun m G h=>by omega) (fun m G7 i ys G=>∃ ns:List Int,ys=ns.map V.int/\ns.length=i/\(∀ x∈ns,Wo x/\0<=x)/\eU G p/\But p G7 G) ?_ ?_ ?_ ?_))
 ·have s7:=ax hl7 (.lst [V.int 0,V.int 1,V.int 3,V.int 20]);refine ⟨_,rfl,p,4,rfl,pu6.same s7,by decide,by decide,fun r8 G8 r80 r81 pu8 b8=>?_⟩;obtain ⟨c,hc,c20⟩:∃ c:Nat,atI [V.int 0,V.int 1,V.int 3,V.int 20] r8=some (.int c)/\c<=20:=by
   have:r8=0\/r8=1\/r8=2\/r8=3:=by omega
   rcases this with rfl | rfl | rfl | rfl
   ·exact ⟨0,rfl,by decide⟩
   ·exact ⟨1,rfl,by decide⟩
   ·exact ⟨3,rfl,by decide⟩
   ·exact ⟨20,rfl,by decide⟩
  exact ⟨l7,_,_,_,rfl,rfl,SqL.of (b8 _ _ ao (nY pu6 hl7)),hc,hR c G8 ⟨c20,pu8,fun b o e n=>b8 _ _ (s7 _ _ e) n⟩⟩
 ·rintro m G7 ⟨_,pu7,b7⟩;exact ⟨[],rfl,rfl,(fun x hx=>by cases hx),pu7,But.refl _ _⟩
 ·rintro m G7 ⟨_,pu7,b7⟩ i ys G hi ⟨ns,rfl,ln2,_⟩;rw [aa];omega
 ·rintro m G7 ⟨_,pu7,b7⟩ i ys G hi ⟨ns,rfl,ln2,wn,puG,bG⟩;refine aF ⟨rfl,?_⟩;unfold t8;refine cT ?_;refine ⟨_,rfl,p,rfl,puG,fun z G8 z1 z2 pu8 b8=>⟨_,rfl,ns++[if z < 0 then -z else z],by rw [bA]; rfl,by rw [af,ln2]; rfl,fun x hx=>?_,pu8,bG.trans b8⟩⟩
  rcases aN.mp hx with hx | hx
  ·exact wn x hx
  ·rw [au.mp hx];unfold Wo
   split <;> exact ⟨by omega,by omega⟩
 rintro m G7 ⟨m20,pu7,b67⟩ ys' G8 ⟨ns,rfl,lns,wns,pu8,b78⟩ ld hld;refine aF ?_;dsimp only;have sd:=ax hld (.lst (ns.map V.int));have nd:=nY pu8 hld;have hd9:upd G8 ld (.lst (ns.map V.int)) ld=some (.lst (ns.map V.int)):=ao;have b69:But p G6 (upd G8 ld (.lst (ns.map V.int))):=(b67.trans b78).same sd;have pu9:=pu8.same sd;generalize upd G8 ld (.lst (ns.map V.int))=G9 at hd9 b69 pu9 |-;have b49:=b46.trans b69;have b09:=b04.trans b49
 refine aH (bW ⟨aU _,fun h hh=>aF ?_⟩);dsimp only;have sh:=ax hh (.lst []);have nh:=nY pu9 hh;have hh10:upd G9 h (.lst []) h=some (.lst []):=ao;have pu10:=pu9.same sh;have hfree:∀ a,upd G9 h (.lst []) a=none->G9 a=none:=fun a e=>by
  cases e2:G9 a with
  | none=>rfl
  | some o=>rw [sh _ _ e2] at e; cases e
 generalize upd G9 h (.lst [])=G10 at sh hh10 pu10 hfree |-;refine aH ⟨_,rfl,_,rfl,p,5,rfl,pu10,by decide,by decide,fun r11 G11 r110 r111 pu11 b11=>⟨p,r11,rfl,pu11,r110,by omega,fun l12 ss2 G12 hl12 h12 ls12 ss26 snd2 pu12 b12=>⟨l12,rfl,⟨_,SqL.of h12⟩,?_⟩⟩⟩;have h1212:G12 h=some (.lst []):=b12 _ _ (b11 _ _ hh10 nh) nh;have k12:∀ a o,G9 a=some o->a≠p->G12 a=some o:=fun a o e n=>b12 _ _ (b11 _ _ (sh _ _ e) n) n;have n9:∀ a o,G9 a=some o->a≠h:=fun a o e=>bF e hh;have nl12:l12≠h:=(bF (b11 _ _ hh10 nh) hl12).symm;have np12:l12≠p:=nY pu11 hl12;have ln9:=b49 _ _ h14 nlp;refine kX (xs:=ss2.map V.str) (fun i σ G=>∃ (hr:List (Str×List Rw)) (hs:List V) (u7:Option V),σ=[some (.ref p),some (.str nm),some (.ref ln),some (.ref lb),some (.ref lq),some (.ref ld),some (.ref h),u7]/\i<=ss2.length/\G h=some (.lst hs)/\cL (HrI (Wp h (Wp p G))) hr hs/\hr.length=i/\(∀ x∈hr,rowsC x.2<=20)/\hr.map (·.1)=ss2.take i/\eU G p/\Bt2 p h G12 G)
  ⟨[],[],none,rfl,aU _,h1212,.nil,rfl,(fun x hx=>by cases hx),rfl,pu12,fun b o e _ _=>e⟩ ?_ ?_ ?_
 ·rintro i σ G hi ⟨hr,hs,u7,rfl,_,hG,_,_,_,_,puG,bG⟩;exact SqL.of (bG _ _ h12 np12 nl12)
 ·rintro i u σ G hu ⟨hr,hs,u7,rfl,hi,hG,pH,lhr,oh,hhr,puG,bG⟩;obtain ⟨x,hx,rfl⟩:∃ x,ss2[i]?=some x/\u=.str x:=by
   rw [cb] at hu;obtain ⟨x,h1,h2⟩:=dy.mp hu;exact ⟨x,h1,h2.symm⟩
  have hil:i < ss2.length:=(bg.mp hx).1;have lhs:=paired_len pH;refine aF ?_;dsimp only;refine ⟨_,rfl,.inl ⟨rfl,_,SqL.of hG⟩,_,rfl,_,rfl,_,rfl,⟨by show 1<=aw; omega,fun qq hqq=>?_⟩⟩;have sq':=ax hqq (.lst [V.int 20]);have hGk:=sq' _ _ hG;have puk:=puG.same sq';have hqk:upd G qq (.lst [V.int 20]) qq=some (.lst [V.int 20]):=ao;have lnk:upd G qq (.lst [V.int 20]) ln=_:=sq' _ _ (bG _ _ (k12 _ _ ln9 nlp) nlp (n9 _ _ ln9));generalize upd G qq (.lst [V.int 20])=Gk at sq' hGk puk hqk lnk |-;have twk:Two Gk p qq 20:=⟨puk,hqk⟩;have nhq:h≠qq:=bF hG hqq;refine ⟨p,ln,qq,1,20,rfl,twk,⟨ss,lnk,by omega,by omega,ss6⟩,by decide,by decide,by decide,fun m vs rs G' z' hm hm' ow tw' hz hz0 b'=>⟨by show 2<=aw; omega,fun t ht=>?_⟩⟩;have hG':=b' _ _ hGk nh nhq;have nth:t≠h:=(bF hG' ht).symm;have ntp:t≠p:=nY tw'.pu ht;have st:=ax ht (.tup [V.str x,V.ref m]);have htt:upd G' t (.tup [V.str x,V.ref m]) t=some (.tup [V.str x,V.ref m]):=ao;have hGt:=st _ _ hG';have put:=tw'.pu.same st;generalize upd G' t (.tup [V.str x,V.ref m])=Gt at st htt hGt put |-;refine ⟨h,hs,_,rfl,rfl,hGt,by omega,?_⟩;have up:∀ a o,Gt a=some o->a≠p->a≠h->Wp h (Wp p (upd Gt h (.lst (hs++[V.ref t])))) a=some o:=fun a o e n1 n2=>wp_some (wp_some (by rw [aT n2]; exact e) n1) n2;have smW:cO (Wp h (Wp p G)) (Wp h (Wp p (upd Gt h (.lst (hs++[V.ref t]))))):=fun a o e=>by
   obtain ⟨n2,e⟩:=wp_of e;obtain ⟨n1,e⟩:=wp_of e;exact up _ _ (st _ _ (b' _ _ (sq' _ _ e) n1 (bF e hqq))) n1 n2
  refine ⟨hr++[(x,rs)],hs++[.ref t],_,rfl,hil,ao,psnoc (paired_imp pH fun _ _ hh=>hh.same smW) ⟨t,m,vs,rfl,up _ _ htt ntp nth,?_,?_⟩,by rw [af,lhr]; rfl,fun y hy=>?_,by rw [dS,hx,bA,hhr]; rfl,tH put nh,fun b o e n1 n2=>?_⟩
  ·exact up _ _ (st _ _ hm') (nY puk hm) ((bF hGk hm).symm)
  ·refine ow _ (fun a xs e=>?_) (fun a xs ha e=>?_)
   ·refine up _ _ (st _ _ e) (fun w=>?_) (fun w=>?_)
    ·obtain ⟨x1,y1,e1⟩:=tw'.pu;rw [<- w,e] at e1
     cases e1
    ·rw [w,hG'] at e
     cases e
   ·exact up _ _ (st _ _ e) (nY puk ha) ((bF hGk ha).symm)
  ·rcases aN.mp hy with hy | hy
   ·exact oh y hy
   ·rw [au.mp hy];show rowsC rs<=20;omega
  ·rw [aT n2];have e1:=bG _ _ e n1 n2;exact st _ _ (b' _ _ (sq' _ _ e1) n1 (bF e1 hqq))
 ·rintro σ G ⟨hr,hs,u7,rfl,hi,hG,pH,lhr,oh,hhr,puG,bG⟩;have k9:∀ a o,G9 a=some o->a≠p->G a=some o:=fun a o e n=>bG _ _ (k12 _ _ e n) n (n9 _ _ e);have b4G:But p G4 G:=fun a o e n=>k9 _ _ (b49 _ _ e n) n;have b0G:But p H G:=b04.trans b4G;refine ⟨_,rfl,_,rfl,_,rfl,_,rfl,_,rfl,⟨by show 5<=aw; omega,fun t ht=>?_⟩⟩;have st:=ax ht (.tup [V.str nm,V.ref lb,V.ref lq,V.ref ld,V.ref h]);have up:∀ a o,G a=some o->a≠p->Wp p (upd G t (.tup [V.str nm,V.ref lb,V.ref lq,V.ref ld,V.ref h])) a=some o:=fun a o e n=>wp_some (st _ _ e) n;have sG:cO (Wp p G) (Wp p (upd G t (.tup [V.str nm,V.ref lb,V.ref lq,V.ref ld,V.ref h]))):=fun a o e=>up _ _ (wp_of e).2 (wp_of e).1;refine q (.ref t) ⟨nm,bx,qs,ns,hr⟩ _ ⟨t,lb,lq,ld,h,ys,hs,rfl,wp_some ao (nY puG ht),up _ _ (b4G _ _ hb4 nb) nb,?_,up _ _ (k9 _ _ (b69 _ _ hq6 nq) nq) nq,up _ _ (k9 _ _ hd9 nd) nd,up _ _ hG nh,?_⟩ ?_ rfl (puG.same st) (b0G.same st)
  ·exact paired_imp pb4 fun _ _ hh=>(hh.same b4G.wp).same sG
  ·exact paired_imp pH fun _ _ hh=>(hh.same (wp_same h _)).same sG
  ·rw [aa] at lhr;rw [aa,cD] at hhr;have lqs:qs.length<=3:=by rw [hqs,bP]; omega
   have nB:∀ b∈bx,Nam b.1:=fun b m=>ss6 _ (dN (hbx ▸ gE (f:=fun q:Str×Int=>q.1) m));have nQ:∀ x∈qs,Nam x:=fun x m=>ss6 x (ia (dN (hqs ▸ m)));have nH:∀ x∈hr,Nam x.1:=fun b m=>ss26 _ (hhr ▸ gE (f:=fun q:Str×List Rw=>q.1) m);have nd1:(bx.map (·.1)++qs).Nodup:=by
    rw [hbx,hqs];refine ff ?_ snd
    conv=>rhs; rw [<- i6 6 ss]
    refine we ?_ (jc ..);have e:ss.take rr=(ss.take 6).take rr:=by rw [List.take_take,gA r6]
    rw [e];exact jc ..
   have nd2:(hr.map (·.1)).Nodup:=by rw [hhr]; exact snd2
   exact ⟨⟨lnm,by show bx.length<=6; omega,lqs,by show hr.length<=4; omega,nB,nQ,fun z m=>(wns z m).2,nH,nd1,nd2⟩,lnm.2.1,by show bx.length<=9; omega,fun b m=>⟨(nB b m).2.1,ob b m⟩,by show qs.length<=9; omega,fun x hx=>(nQ x hx).2.1,by show ns.length<=20; omega,fun z m=>(wns z m).1,by show hr.length<=9; omega,fun h m=>⟨(nH h m).2.1,oh h m⟩⟩
end
section
variable {P:aQ} {w:bT} {K:ai} {mg:Str->Option ag} {base:cP} {f fT fN fM fP fMs fMt fLl:ak} {fd fdT fdN fdM fdP fdMs fdMt fdLl:cF}
seal PS PSs PE PA PT PW PI PG PGs PC
abbrev nMs:List Str:=["_law_purse_here"]
abbrev pMs:List Str:=["_law_purse_here"]
theorem scMs:cK nMs pMs (aZ jh):={}
theorem ndMs:((["_law_name"]:List Str)++nMs).Nodup:=by decide +kernel
inductive spMsI (vs:List V) (H:Hp) (Q:VK) (_e:XK):Prop where
 | mk (p:ak) (_:vs=[.ref p]) (_:eU H p) (_:∀ (l:ak) (ms:List V) (Ms:List Mc) (H':Hp),H' l=some (.lst ms)->MsIn H' Ms ms->Ms.length<=6->(Ms.map (·.nm)).Nodup->eU H' p->Q (.ref l) H'):spMsI vs H Q _e
def spMs:Sp:=fun vs H Q _e=>spMsI vs H Q _e
theorem ok_ms (D:Df K mg "_law_machines" jh pMs f fd) (DT:Df K mg "_law_take" fc pT fT fdT) (DN:Df K mg "_law_names" jN pN fN fdN) (DM:Df K mg "_law_machine" iS pMa fM fdM) (GM:cW P w K mg base CX0 30 fM fdM pMa spMa) (B:Bl mg):cW P w K mg base CX0 31 f fd pMs spMs:=by
 have GT:cW P w K mg base CX0 1 fT fdT pT lK:=lW DT B;have GN:cW P w K mg base CX0 2 fN fdN pN vG:=xh DN DT B;refine D.F.ok scMs (fun vs H Q E h=>?_) (fun cdv A outer s H vs Q E r30 h=>?_)
 ·obtain ⟨p,rfl,_⟩:=h;rfl
 obtain ⟨p,rfl,pu,q⟩:=h;have r1:dj 1 _:=r30.mono (by decide);have r2:dj 2 _:=r30.mono (by decide);refine ⟨_,aO (bO (lR ["_law_name"] (hW.open (NN:=nMs) (N:=nMs) (sc:=aZ jh) rfl rfl (by decide +kernel) rfl (by decide +kernel) (by decide +kernel) rfl (by decide +kernel)) rfl (gx (br GN r2 (by rfl) DN.m DN.F.kp DN.b .nil bM (bD (pv 0) (hU (bI fJ aq (br GT r1 (by rfl) DT.m DT.F.kp DT.b .nil bM (bD (pv 0) (bo aq aj)))) aj)))) (fun _ _ _ _=>df (i:=0) ndMs rfl (Or.inl rfl)) (fun _ _ _ _=>jr) (fun _ _ _ _=>br GM r30 (by rfl) DM.m DM.F.kp DM.b .nil bM (bD (pv 1) (bD (pv 0) aj))))),?_⟩;have big:10000 < aw:=by decide
 refine comp_listD (K:=K) (fun a' xs G=>∃ ss:List Str,xs=ss.map V.str/\(∀ x∈ss,Nam x)/\ss.Nodup/\ss.length<=6/\G a'=some (.lst xs)/\a'≠p/\eU G p)
  (fun R hR=>⟨_,rfl,_,rfl,p,6,rfl,pu,by decide,by decide,fun r G r0 r1 puG bG=>⟨_,_,rfl,rfl,p,1 + r,rfl,puG,by omega,by omega,fun l ss G1 hl h1 ls ss6 snd pu1 b1=>hR l _ G1 ⟨ss,rfl,ss6,snd,by omega,h1,nY puG hl,pu1⟩⟩⟩) (fun a' xs G h=>by obtain ⟨qs,_,_,_,_,h,_⟩:=h; exact SqL.of h)
  (fun a' xs H1 i ys G=>∃ Ms:List Mc,cL (fun M v=>MI (Wp p G) M v/\McOk M) Ms ys/\Ms.length=i/\(∀ qs:List Str,xs=qs.map V.str->Ms.map (·.nm)=qs.take i)/\eU G p/\But p H1 G) ?_ ?_ ?_ ?_
 ·rintro a' xs G2 ⟨ss,rfl,ss6,snd,ls,ha,np,pu2⟩;exact ⟨[],.nil,rfl,fun _ _=>rfl,pu2,But.refl _ _⟩
 ·rintro a' xs G2 ⟨ss,rfl,ss6,snd,ls,ha,np,pu2⟩ i ys G hi ⟨Ms,pM,lM,hnm,puG,bG⟩;refine ⟨SqL.of (bG _ _ ha np),?_⟩;have:=paired_len pM;rw [aa] at hi;omega
 ·rintro a' xs G2 ⟨ss,rfl,ss6,snd,ls,ha,np,pu2⟩ i u ys G hu ⟨Ms,pM,lM,hnm,puG,bG⟩;obtain ⟨x,hx,rfl⟩:∃ x,ss[i]?=some x/\u=.str x:=by
   rw [cb] at hu;obtain ⟨x,h1,h2⟩:=dy.mp hu;exact ⟨x,h1,h2.symm⟩
  refine aF ⟨rfl,?_⟩;unfold t8;refine cT ?_;refine ⟨_,rfl,_,rfl,p,x,rfl,puG,ss6 x (bw hx),fun v M G3 hM ok en pu3 b3=>?_⟩;exact ⟨Ms++[M],psnoc (paired_imp pM fun _ _ h=>⟨h.1.same b3.wp,h.2⟩) ⟨hM,ok⟩,by rw [af,lM]; rfl,fun qs e=>(by
   have e2:=strs_inj e;subst e2;rw [dS,hx,bA,hnm ss rfl,<- en];rfl),pu3,bG.trans b3⟩
 ·rintro a' xs G2 ⟨ss,rfl,ss6,snd,ls,ha,np,pu2⟩ ys G ⟨Ms,pM,lM,hnm,puG,bG⟩ l hl;rw [aa] at lM;have sl:=ax hl (.lst ys);exact q l ys Ms _ ao (paired_imp pM fun _ _ h=>⟨(h.1.same (wp_same p G)).same sl,h.2⟩) (by omega) (by
   have e:=hnm ss rfl;rw [aa,cD] at e;rw [e];exact snd) (puG.same sl)
end
theorem blanks_succ (e:Nat):dD e++("  ":Str)=dD (e + 1):=by
 apply iI;apply eT.mp;rw [d9,fg,fg,show ("  ":Str).cps.toList=aJ 2 32 by decide,kU];rfl
theorem jn_c {x:Str} {ws:List Str} (ne:ws≠[]):jn (x :: ws)=x++" "++jn ws:=by
 cases ws with
 | nil=>exact absurd rfl ne
 | cons w ws=>exact dF ..
theorem jn_1 (x:Str):jn [x]=x:=rfl
theorem jn_a {a b:List Str} (ha:a≠[]) (hb:b≠[]):jn (a++b)=jn a++" "++jn b:=vw " " ha hb
theorem put3 {k:Str} (h:k="put"\/k="push"\/k="draw"):k∈[("put":Str),"push","draw"]:=by
 simp only [ar,uE,or_false];exact h
theorem LfD.de {H:Hp} {v:V} {s:Str} (h:LfD H v s) (n:Nat):∃ d:De,DeF H (n + 1) d v []/\OkD (n + 1) d/\mi (n + 1) d=1/\∀ e,lsD (n + 1) e d=[dD e++s]:=by
 cases h with
 | fin a=>exact ⟨.fin,⟨⟨_,rfl,a⟩,rfl⟩,trivial,rfl,fun e=>rfl⟩
 | @three t k x v s a hk hx hf =>
  obtain ⟨f,i,o,l,rfl⟩:=hf.fo;refine ⟨.three k x f,⟨⟨_,_,rfl,a,i⟩,rfl⟩,⟨put3 hk,hx,o,l⟩,rfl,fun e=>?_⟩;show [dD e++jn (k :: x :: f.ws)]=[dD e++cq " " [k,x,cq " " f.ws]];rw [jn_c (by simp),jn_c f.ws_ne,dF];rfl
 | @send t z x v1 y v2 v3 s1 s2 s3 a hz hy hx f1 f2 f3 =>
  obtain ⟨g1,i1,o1,l1,rfl⟩:=f1.fo;obtain ⟨g2,i2,o2,l2,rfl⟩:=f2.fo;obtain ⟨g3,i3,o3,l3,rfl⟩:=f3.fo;refine ⟨.send z x g1 y g2 g3,⟨⟨_,_,_,_,rfl,a,i1,i2,i3⟩,rfl⟩,⟨hz,hy,hx,⟨o1,l1⟩,⟨o2,l2⟩,⟨o3,l3⟩⟩,rfl,fun e=>?_⟩;have n23:g2.ws++g3.ws≠[]:=by simp [g2.ws_ne]
  have n123:g1.ws++(g2.ws++g3.ws)≠[]:=by simp [g1.ws_ne]
  show [dD e++jn ("send" :: nt z :: x :: nt y :: (g1.ws++(g2.ws++g3.ws)))]=[dD e++cq " " ["send",nt z,x,nt y,jn g1.ws,jn g2.ws,jn g3.ws]];rw [jn_c (by simp),jn_c (by simp),jn_c (by simp),jn_c n123,jn_a g1.ws_ne n23,jn_a g2.ws_ne g3.ws_ne,dF,dF,dF,dF,dF,dF];rfl
theorem DeF.up1 {H:Hp}:∀ {n:Nat} {d:De} {v:V} {fp:List ak},DeF H n d v fp->DeF H (n + 1) d v fp
 | 0,_,_,_,h=>h.elim
 | n + 1,d,v,fp,h=>by
  cases d with
  | pull x y ds =>
   obtain ⟨t,l,vs,as,rfl,e1,e2,e3,rfl⟩:=h;exact ⟨t,l,vs,as,rfl,e1,e2,e3.mono fun _ _ _ _ i=>DeF.up1 i,rfl⟩
  | iff f as bs =>
   obtain ⟨t,l1,l2,u,v1,v2,a1,a2,rfl,e1,ef,e2,e3,e4,e5,rfl⟩:=h;exact ⟨t,l1,l2,u,v1,v2,a1,a2,rfl,e1,ef,e2,e3.mono fun _ _ _ _ i=>DeF.up1 i,e4,e5.mono fun _ _ _ _ i=>DeF.up1 i,rfl⟩
  | fin=>exact h
  | three a b f=>exact h
  | send z x f1 y f2 f3=>exact h
def AsDs (H:Hp) (n:Nat) (rs:List Rw) (vs:List V):Prop:=∃ (ds:List De) (fp:List ak),Prs (DeF H n) ds vs fp/\(∀ d∈ds,OkD n d)/\CnD n ds=rowsC rs/\∀ e,LsD n e ds=rowsL rs (dD e)
theorem DI.de {H:Hp}:∀ {n:Nat} {v:V} {r:Rw},DI H n v r->∃ (d:De) (fp:List ak),DeF H n d v fp/\OkD n d/\mi n d=r.1/\∀ e,lsD n e d=r.2 (dD e)
 | n + 1,v,r,h=>by
  have sub:∀ (rs:List Rw) (vs:List V),cL (fun r v=>DI H n v r) rs vs->AsDs H n rs vs:=fun rs vs h=>by
   induction h with
   | nil=>exact ⟨[],[],.nil,(fun d m=>by cases m),rfl,fun e=>rfl⟩
   | cons a _ ih =>
    obtain ⟨d,fp,h1,h2,h3,h4⟩:=DI.de a;obtain ⟨ds,fq,k1,k2,k3,k4⟩:=ih;refine ⟨d :: ds,fp++fq,.cons h1 k1,fun x m=>?_,?_,fun e=>?_⟩
    ·rcases ar.mp m with rfl | m
     ·exact h2
     ·exact k2 x m
    ·rw [kr,h3,k3];rfl
    ·rw [ix,h4,k4];rfl
  rcases h with ⟨s,hs,rfl⟩ | ⟨t,l,x,y,vs,rs,n0,rfl,a,lx,ly,hl,hp,rfl⟩ | ⟨t,l1,l2,f,s,vs1,vs2,rs1,rs2,n0,rfl,a,hf,h1,h2,p1,p2,rfl⟩
  ·obtain ⟨d,h1,h2,h3,h4⟩:=hs.de n;exact ⟨d,[],h1,h2,h3,h4⟩
  ·obtain ⟨ds,fp,k1,k2,k3,k4⟩:=sub rs vs hp;refine ⟨.pull x y ds,_,⟨t,l,vs,fp,rfl,a,hl,k1,rfl⟩,⟨lx,ly,k2,n0⟩,?_,fun e=>?_⟩
   ·show 1 + CnD n ds=1 + rowsC rs;rw [k3]
   ·show ln e ["pull",x,y] :: LsD n (e + 1) ds=(dD e++cq " " ["pull",x,y]) :: rowsL rs (dD e++"  ");rw [k4,blanks_succ];rfl
  ·obtain ⟨ds1,fp1,k1,k2,k3,k4⟩:=sub rs1 vs1 p1;obtain ⟨ds2,fp2,q1,q2,q3,q4⟩:=sub rs2 vs2 p2;obtain ⟨g,i,o,lg,rfl⟩:=hf.fo;refine ⟨.iff g ds1 ds2,_,⟨t,l1,l2,f,vs1,vs2,fp1,fp2,rfl,a,i,h1,k1,h2,q1,rfl⟩,⟨⟨o,lg⟩,k2,q2,n0⟩,?_,fun e=>?_⟩
   ·show 1 + (CnD n ds1 + CnD n ds2)=1 + rowsC rs1 + rowsC rs2;rw [k3,q3];omega
   ·show ln e ("if" :: g.ws) :: (LsD n (e + 1) ds1++ln e ["else"] :: LsD n (e + 1) ds2)=(dD e++(("if ":Str)++jn g.ws)) :: (rowsL rs1 (dD e++"  ")++(dD e++"else") :: rowsL rs2 (dD e++"  "));have e1:ln e ("if" :: g.ws)=dD e++(("if ":Str)++jn g.ws):=by
     unfold ln;rw [jn_c g.ws_ne,show ("if ":Str)="if"++" " by decide]
    rw [k4,q4,blanks_succ,e1];rfl
theorem ds_len {n:Nat}:∀ {ds:List De},(∀ d∈ds,OkD n d)->ds.length<=CnD n ds
 | [],_=>aU _
 | d :: ds,h=>by
  obtain ⟨_,_,_,c1⟩:=ku (e:=0) (h d aA);have:=ds_len fun x m=>h x (az _ m);rw [kr,aG];omega
theorem rows_ds {H:Hp} {n:Nat} {rs:List Rw} {vs:List V} (h:cL (fun r v=>DI H n v r) rs vs):AsDs H n rs vs:=by
 induction h with
 | nil=>exact ⟨[],[],.nil,(fun d m=>by cases m),rfl,fun e=>rfl⟩
 | cons a _ ih =>
  obtain ⟨d,fp,h1,h2,h3,h4⟩:=DI.de a;obtain ⟨ds,fq,k1,k2,k3,k4⟩:=ih;refine ⟨d :: ds,fp++fq,.cons h1 k1,fun x m=>?_,?_,fun e=>?_⟩
  ·rcases ar.mp m with rfl | m
   ·exact h2
   ·exact k2 x m
  ·rw [kr,h3,k3];rfl
  ·rw [ix,h4,k4];rfl
theorem w_machine (x:Str):("machine ":Str)++x=ln 0 ["machine",x]:=by
 unfold ln;rw [jn_c (by simp),jn_1,<- iq,show dD 0++(("machine":Str)++" ")="machine " by decide]
theorem w_box (b:Str×Int):boxL b=ln 1 ["box",b.1,nt b.2]:=by
 unfold ln boxL;rw [jn_c (by simp),jn_c (by simp),jn_1,<- iq,<- iq,show dD 1++(("box":Str)++" ")="  box " by decide];simp only [iq]
theorem w_queue (x:Str):queL x=ln 1 ["queue",x]:=by
 unfold ln queL;rw [jn_c (by simp),jn_1,<- iq,show dD 1++(("queue":Str)++" ")="  queue " by decide]
theorem w_on (x:Str):("  on ":Str)++x=ln 1 ["on",x]:=by
 unfold ln;rw [jn_c (by simp),jn_1,<- iq,show dD 1++(("on":Str)++" ")="  on " by decide]
theorem w_draws (zs:List Int):drawL zs=drL zs:=by
 unfold drawL drL
 cases zs with
 | nil=>rfl
 | cons z zs =>
  rw [if_neg (by simp),if_neg (by simp)];unfold ln;rw [jn_c (by simp),<- iq,show dD 1++(("draws":Str)++" ")="  draws " by decide];rfl
def AsHs (H:Hp) (hr:List (Str×List Rw)) (hs:List V):Prop:=∃ (xs:List (Str×List De)) (fp:List ak),Prs (HrF H) xs hs fp/\xs.map (·.1)=hr.map (·.1)/\(∀ x∈xs,(∀ d∈x.2,OkD 5 d)/\CnD 5 x.2<=20)/\(xs.map lsH).flatten=hr.flatMap hearL
theorem hears_ds {H:Hp} {hr:List (Str×List Rw)} {hs:List V} (h:cL (HrI H) hr hs) (k:∀ x∈hr,rowsC x.2<=20):AsHs H hr hs:=by
 induction h with
 | nil=>exact ⟨[],[],.nil,rfl,(fun d m=>by cases m),rfl⟩
 | @cons x v hr hs a _ ih =>
  obtain ⟨t,l,us,rfl,e1,e2,p⟩:=a;obtain ⟨ds,fp,h1,h2,h3,h4⟩:=rows_ds p;obtain ⟨xs,fq,k1,k2,k3,k4⟩:=ih fun y m=>k y (az _ m);have c20:=k x aA;refine ⟨(x.1,ds) :: xs,(l :: fp)++fq,.cons ⟨t,l,us,fp,rfl,e1,e2,h1.mono fun _ _ _ _ i=>DeF.up1 i,rfl,?_⟩ k1,?_,fun y m=>?_,?_⟩
  ·have:=ds_len h2;show ds.length<=40;omega
  ·rw [bY,bY,k2]
  ·rcases ar.mp m with rfl | m
   ·exact ⟨h2,by show CnD 5 ds<=20; omega⟩
   ·exact k3 y m
  ·rw [bY,kD,pk,k4];show ln 1 ["on",x.1] :: LsD 5 2 ds++_=("  on "++x.1) :: rowsL x.2 "    "++_;rw [h4,w_on,show dD 2="    " by decide]
theorem MI.mo {H:Hp} {M:Mc} {v:V} (h:MI H M v) (ok:McOk M):∃ (X:Mo) (fp:List ak),MoF H X v fp/\OkM X/\lsM X=M.lines/\X.nm=M.nm:=by
 obtain ⟨t,lb,lq,ld,lh,bs,hs,rfl,a,h1,p1,h3,h4,h5,p6⟩:=h;obtain ⟨xs,fp,k1,k2,k3,k4⟩:=hears_ds p6 fun x m=>(ok.hr x m).2;have m:=ok.more;refine ⟨⟨M.nm,M.bx,M.qs,M.dr,xs⟩,_,⟨t,lb,lq,ld,lh,bs,hs,fp,rfl,a,h1,p1,h3,h4,h5,k1,rfl⟩,⟨m.nm,m.b6,m.q3,ok.ld,?_,fun b mb=>⟨m.bx b mb,(ok.bx b mb).2⟩,m.qs,fun z mz=>⟨ok.dr z mz,m.dr z mz⟩,fun x mx=>⟨?_,k3 x mx⟩,m.nd,?_⟩,?_,rfl⟩
 ·have e:=congrArg iK k2;rw [aa,aa] at e;have:=m.h4;show xs.length<=4;omega
 ·have:x.1∈xs.map (·.1):=gE mx;rw [k2] at this;obtain ⟨y,my,ey⟩:=cu.mp this;rw [<- ey];exact m.hr y my
 ·show (xs.map (·.1)).Nodup;rw [k2];exact m.ndh
 ·unfold lsM mj Mc.lines bxL qsL;dsimp only;rw [k4,w_machine,w_draws,aS,aS,aS];rw [show M.bx.map boxL=M.bx.map (fun b=>ln 1 ["box",b.1,nt b.2]) from B6 fun b _=>w_box b,show M.qs.map queL=M.qs.map (fun q=>ln 1 ["queue",q]) from B6 fun b _=>w_queue b];rfl
end My.Dr
namespace My
open PySem L2
theorem nlS:("\n":Str)=⟨#[10]⟩:=by decide
theorem zl (c:Nat) {ws:List Str} (ne:ws≠[]) (h:∀ w∈ws,c∉w.cps.toList):hZ (cq ⟨#[c]⟩ ws) ⟨#[c]⟩=ws:=by
 rw [tj];have j:=Am (lY ⟨#[c]⟩ ws) ⟨#[c]⟩;have p:=uB (lY ⟨#[c]⟩ ws) ⟨#[c]⟩;exact vx c (dH.mp p) ne (fun w hw=>An _ c w hw) h (congrArg (fun x:Str=>x.cps.toList) j)
theorem vH {ls:List Str} (h:ls≠[("":Str)]) (k:∀ l∈ls,10∉l.cps.toList):linesOf (cq "\n" ls)=ls:=by
 unfold linesOf
 cases ls with
 | nil=>rfl
 | cons l ls =>
  rw [if_neg,nlS,zl 10 (by simp) k];intro e
  cases ls with
  | nil=>exact h (by rw [show l="" from e])
  | cons m ls =>
   rw [dF] at e;have:=congrArg Str.length e;rw [bf,bf,nlS] at this;have h1:(⟨#[10]⟩:Str).length=1:=rfl;have h2:("":Str).length=0:=by decide
   omega
theorem mr:∀ w∈[("end":Str),"put","push","draw","send","pull","if","else","box","queue","draws","on","machine"],10∉w.cps.toList:=by decide +kernel
theorem rT {x:Str} (h:Nam x):10∉x.cps.toList:=fun m=>by
 have:=h.2.2 _ m;omega
theorem zm {z:Int} (h:Wo z):10∉(nt z).cps.toList:=by
 obtain ⟨c,cs,e,hc,hd,_⟩:=o9 h;intro m;rw [show (nt z).cps.toList=c :: cs from e] at m
 rcases ar.mp m with y | y
 ·omega
 ·have:=hd _ y;omega
theorem Ey:∀ q∈sL,10∉q.2.cps.toList:=by decide +kernel
theorem zp {f:Fo} (h:f.Ok):∀ w∈f.ws,10∉w.cps.toList:=by
 have name:∀ {c:Nat} {x:Str},Nam x->c≠10->∀ w∈[(⟨#[c]⟩:Str)++x],10∉w.cps.toList:=fun {c x} hx h2 w hw=>by
  rw [au.mp hw,qF];intro z
  rcases ar.mp z with z | z
  ·exact h2 z.symm
  ·exact rT hx z
 obtain ⟨k1,k2,k3,k4,k5,k6⟩:=y9
 induction f with
 | num z =>
  intro w hw;rw [au.mp hw];exact zm h
 | box x =>
  show ∀ w∈[(".":Str)++x],_;rw [k1];exact name h (by decide)
 | long x =>
  show ∀ w∈[("#":Str)++x],_;rw [k2];exact name h (by decide)
 | got g =>
  intro w hw;rw [au.mp hw]
  rcases h with rfl | rfl <;> decide +kernel
 | now =>
  intro w hw;rw [au.mp hw];decide +kernel
 | two k m a b ih1 ih2 =>
  obtain ⟨mk,ha,hb⟩:=h;intro w hw
  rcases ar.mp hw with z | z
  ·rw [z];exact Ey _ (iC mk)
  ·rcases aN.mp z with z | z
   ·exact ih1 ha w z
   ·exact ih2 hb w z
theorem OkD.nl {n:Nat} {d:De} (h:OkD (n + 1) d):∀ w∈d.hw,10∉w.cps.toList:=by
 intro w m
 cases d with
 | fin=>rw [au.mp m]; exact mr _ (by decide)
 | three k x f =>
  obtain ⟨h1,h2,h3⟩:=h
  rcases ar.mp m with rfl | m
  ·exact mr _ (by simp at h1 |-; rcases h1 with h | h | h <;> simp [h])
  rcases ar.mp m with rfl | m
  ·exact rT h2
  ·exact zp h3.1 w m
 | send z x f1 y f2 f3 =>
  obtain ⟨h1,h2,h3,h4,h5,h6⟩:=h
  rcases ar.mp m with rfl | m
  ·exact mr _ (by decide)
  rcases ar.mp m with rfl | m
  ·exact zm (jA ⟨h1.1,by omega⟩)
  rcases ar.mp m with rfl | m
  ·exact rT h3
  rcases ar.mp m with rfl | m
  ·exact zm (jA h2)
  rcases aN.mp m with m | m
  ·exact zp h4.1 w m
  rcases aN.mp m with m | m
  ·exact zp h5.1 w m
  ·exact zp h6.1 w m
 | pull x y ds =>
  obtain ⟨h1,h2,_⟩:=h
  rcases ar.mp m with rfl | m
  ·exact mr _ (by decide)
  rcases ar.mp m with rfl | m
  ·exact rT h1
  ·rw [au.mp m];exact rT h2
 | iff f as bs =>
  obtain ⟨h1,_,_⟩:=h
  rcases ar.mp m with rfl | m
  ·exact mr _ (by decide)
  ·exact zp h1.1 w m
def LG (x:Str):Prop:=∃ e ws,x=ln e ws/\GL ws/\e<=7/\∀ w∈ws,10∉w.cps.toList
theorem Ez:∀ {ws:List Str},(∀ w∈ws,10∉w.cps.toList)->10∉(jn ws).cps.toList
 | [],_=>fun m=>by cases m
 | [x],h=>h x aA
 | x :: y :: ws,h=>by
  unfold jn;rw [dF,d9,d9];intro m
  rcases aN.mp m with m | m
  ·rcases aN.mp m with m | m
   ·exact h x aA m
   ·exact absurd m (by decide)
  ·exact Ez (fun w mw=>h w (az _ mw)) m
theorem LG.nl {x:Str} (h:LG x):10∉x.cps.toList:=by
 obtain ⟨e,ws,rfl,_,_,n⟩:=h;unfold ln;rw [d9,fg];intro m
 rcases aN.mp m with m | m
 ·have:=(oC.mp m).2;omega
 ·exact Ez n m
theorem EA {ws:List Str} (ne:ws≠[]):∀ m:Nat,(jn (aJ m ("":Str)++ws)).cps.toList=aJ m 32++(jn ws).cps.toList
 | 0=>rfl
 | m + 1=>by
  rw [da,lD];have n2:aJ m ("":Str)++ws≠[]:=by simp [ne]
  obtain ⟨w,r,e⟩:∃ w r,aJ m ("":Str)++ws=w :: r:=by
   cases q:aJ m ("":Str)++ws with
   | nil=>exact absurd q n2
   | cons w r=>exact ⟨w,r,rfl⟩
  have ih:=EA ne m;rw [e] at ih |-;unfold jn at ih |-;rw [dF,d9,d9,ih,da];rfl
theorem B7 {L:List Str} {i d:Nat} {us:List Str} (h:L[i]?=some (dD d++jn us)) (ne:us≠[]) (fr:∀ w∈us,32∉w.cps.toList):cH L i d=us:=by
 unfold cH;rw [h];dsimp only;have lb:=jJ d;have ll:(dD d++jn us).length=2 * d + (jn us).length:=by rw [bf,lb]
 have hb:(dD d).cps.toList.length=2 * d:=by rw [fg,cU]
 rw [yc,decide_eq_true]
 ·rw [if_pos rfl,lB (by omega) (by omega) rfl];have:(⟨(((dD d++jn us).cps.toList.drop ((2 * d:Nat):Int).toNat).take (((dD d++jn us).length:Int) - ((2 * d:Nat):Int)).toNat).toArray⟩:Str)=jn us:=by
   apply iI;show (((dD d++jn us).cps.toList.drop _).take _).toArray=(jn us).cps;rw [eH];rw [d9,<- hb,xf,hb,show (((dD d++jn us).length:Int) - ((2 * d:Nat):Int)).toNat=(jn us).cps.toList.length from by rw [cJ,bf,lb]; show (((2 * d + (jn us).length:Nat):Int) - ((2 * d:Nat):Int)).toNat=(jn us).length; omega,cD,lJ]
  rw [this];exact nr ne fr
 ·rw [d9,lb,<- hb,Hy]
theorem GL.ne {ws:List Str} (g:GL ws):ws≠[]:=by
 obtain ⟨c,cs,r,rfl,_⟩:=g.w0;simp
theorem Bf:(∀ c∈("":Str).cps.toList,c < 128)/\("":Str).length<=1000:=by decide
theorem EB:∀ {n e:Nat} {d:De},OkD n d->e + n<=7->∀ x∈lsD n e d,LG x
 | 0,_,_,o,_,_,_=>absurd o (fun z=>z)
 | n + 1,e,d,o,l,x,m=>by
  have hd:LG (ln e d.hw):=⟨e,_,rfl,o.gl,by omega,o.nl⟩;have sub:∀ (ds:List De),(∀ d∈ds,OkD n d)->∀ x∈(ds.map (lsD n (e + 1))).flatten,LG x:=fun ds k x m=>by
   obtain ⟨ys,my,mx⟩:=gN.mp m;obtain ⟨d,md,rfl⟩:=cu.mp my;exact EB (k d md) (by omega) x mx
  cases d with
  | fin=>rw [au.mp m]; exact hd
  | three k x f=>rw [au.mp m]; exact hd
  | send z x f1 y f2 f3=>rw [au.mp m]; exact hd
  | pull a b ds =>
   rcases ar.mp m with rfl | m
   ·exact hd
   ·exact sub ds o.2.2.1 x m
  | iff f as bs =>
   rcases ar.mp m with rfl | m
   ·exact hd
   rcases aN.mp m with m | m
   ·exact sub as o.2.1 x m
   rcases ar.mp m with rfl | m
   ·exact ⟨e,_,rfl,jD,by omega,fun w mw=>by rw [au.mp mw]; exact mr _ (by decide)⟩
   ·exact sub bs o.2.2.1 x m
theorem yd {k x:Str} (hk:k∈[("end":Str),"put","push","draw","send","pull","if","else","box","queue","draws","on","machine"]) (hx:Nam x):∀ w∈[k,x],10∉w.cps.toList:=fun w m=>by
 rcases ar.mp m with rfl | m
 ·exact mr _ hk
 ·rw [au.mp m];exact rT hx
theorem IZ {M:Mo} (o:OkM M):∀ x∈lsM M,LG x:=by
 intro x m
 rcases ar.mp m with rfl | m
 ·exact ⟨0,_,rfl,pY o.nm,by decide,yd (by decide) o.nm⟩
 rcases aN.mp m with m | m
 ·obtain ⟨b,mb,rfl⟩:=cu.mp m;obtain ⟨h1,h2⟩:=o.bx b mb;refine ⟨1,_,rfl,iN (by decide) (fun u mu=>?_) (by show 2<=59; decide),by decide,fun u mu=>?_⟩
  ·rcases ar.mp mu with rfl | mu
   ·exact fV h1
   ·rw [au.mp mu];exact jC h2
  ·rcases ar.mp mu with rfl | mu
   ·exact mr _ (by decide)
   rcases ar.mp mu with rfl | mu
   ·exact rT h1
   ·rw [au.mp mu];exact zm h2
 rcases aN.mp m with m | m
 ·obtain ⟨b,mb,rfl⟩:=cu.mp m;have h1:=o.qs b mb;exact ⟨1,_,rfl,iN (by decide) (fun u mu=>by rw [au.mp mu]; exact fV h1) (by show 1<=59; decide),by decide,yd (by decide) h1⟩
 rcases aN.mp m with m | m
 ·unfold drL at m
  split at m
  ·cases m
  ·rw [au.mp m];refine ⟨1,_,rfl,iN (by decide) (fun u mu=>?_) (by rw [aa]; have:=o.d20; omega),by decide,fun u mu=>?_⟩
   ·obtain ⟨z,mz,rfl⟩:=cu.mp mu;exact jC (o.dr z mz).1
   ·rcases ar.mp mu with rfl | mu
    ·exact mr _ (by decide)
    ·obtain ⟨z,mz,rfl⟩:=cu.mp mu;exact zm (o.dr z mz).1
 ·obtain ⟨ys,my,mx⟩:=gN.mp m;obtain ⟨h,mh,rfl⟩:=cu.mp my;obtain ⟨h1,h2,_⟩:=o.hr h mh
  rcases ar.mp mx with rfl | mx
  ·exact ⟨1,_,rfl,rB h1,by decide,yd (by decide) h1⟩
  ·obtain ⟨zs,mz,mx⟩:=gN.mp mx;obtain ⟨d,md,rfl⟩:=cu.mp mz;exact EB (h2 d md) (by decide) x mx
theorem jT {ms:List Mo} (o:∀ M∈ms,OkM M):linesOf (cq "\n" (ms.map lsM).flatten)=(ms.map lsM).flatten/\∀ x∈(ms.map lsM).flatten,LG x:=by
 have lg:∀ x∈(ms.map lsM).flatten,LG x:=fun x m=>by
  obtain ⟨ys,my,mx⟩:=gN.mp m;obtain ⟨M,mM,rfl⟩:=cu.mp my;exact IZ (o M mM) x mx
 refine ⟨vH (fun z=>?_) fun x m=>(lg x m).nl,lg⟩;have:=lg "" (by rw [z]; exact au.mpr rfl);obtain ⟨e,ws,h,g,_⟩:=this;obtain ⟨a,t,ha,_⟩:=g.head;have h2:=congrArg (fun x:Str=>x.cps.toList.length) h;unfold ln at h2;rw [d9,af,ha,aG,show ("":Str).cps.toList.length=0 by decide] at h2;omega
end My
namespace My.Dr
open PySem L2
def elseL (os:List Nat):List Str:=os.map fun e=>ln e ["else"]
def Dec (n e:Nat) (os:List Nat):Prop:=os.Pairwise (fun a b=>b < a)/\(∀ o∈os,e<=o)/\os.length<=n
theorem dec_nil (n e:Nat):Dec n e []:=⟨List.Pairwise.nil,(fun o m=>by cases m),aU _⟩
theorem Dec.le {n e a b:Nat} {os:List Nat} (h:Dec n e os) (l:a<=e) (m:n<=b):Dec b a os:=⟨h.1,fun o k=>bN l (h.2.1 o k),bN h.2.2 m⟩
theorem Dec.snoc {n e:Nat} {os:List Nat} (h:Dec n (e + 1) os):Dec (n + 1) e (os++[e]):=by
 refine ⟨List.pairwise_append.mpr ⟨h.1,List.pairwise_singleton ..,fun a ha b hb=>?_⟩,fun o m=>?_,?_⟩
 ·rw [au.mp hb];exact h.2.1 a ha
 ·rcases aN.mp m with m | m
  ·exact Nat.le_of_succ_le (h.2.1 o m)
  ·rw [au.mp m];exact ay _
 ·rw [af];exact gQ h.2.2
def CutD (n e:Nat) (d:De) (k:Nat):Prop:=∃ (d':De) (os:List Nat),lsD n e d'=(lsD n e d).take k++elseL os/\OkD n d'/\mi n d'<=mi n d/\Dec n e os
def CutS (n e:Nat) (ds:List De) (k:Nat):Prop:=∃ (ds':List De) (os:List Nat),LsD n e ds'=(LsD n e ds).take k++elseL os/\(∀ d∈ds',OkD n d)/\CnD n ds'<=CnD n ds/\Dec n e os
theorem cut_ds {n e:Nat} (one:∀ d k,OkD n d->1<=k->k<=(lsD n e d).length->CutD n e d k):∀ (ds:List De) (k:Nat),(∀ d∈ds,OkD n d)->k<=(LsD n e ds).length->CutS n e ds k
 | [],k,ok,l=>⟨[],[],by
   have:k=0:=by
    have l':k<=0:=l;omega
   subst this;rfl,(fun d m=>by cases m),ay _,dec_nil _ _⟩
 | d :: ds,k,ok,l=>by
  rw [ix,af] at l
  by_cases c0:k=0
  ·subst c0;exact ⟨[],[],rfl,(fun d m=>by cases m),aU _,dec_nil _ _⟩
  by_cases c:k<=(lsD n e d).length
  ·obtain ⟨d',os,h1,h2,h3,h4⟩:=one d k (ok d aA) (by omega) c;refine ⟨[d'],os,?_,fun x m=>by rw [au.mp m]; exact h2,?_,h4⟩
   ·rw [ix,ix,eG c,h1];exact bq _
   ·rw [kr,kr];show mi n d' + 0<=_;omega
  ·obtain ⟨ds',os,h1,h2,h3,h4⟩:=cut_ds one ds (k - (lsD n e d).length) (fun x m=>ok x (az _ m)) (by omega);refine ⟨d :: ds',os,?_,fun x m=>?_,?_,h4⟩
   ·rw [ix,ix,h1,gO,c7 (show (lsD n e d).length<=k by omega),aS]
   ·rcases ar.mp m with rfl | m
    ·exact ok _ aA
    ·exact h2 x m
   ·rw [kr,kr];omega
theorem cut_de:∀ (n e:Nat) (d:De) (k:Nat),OkD n d->1<=k->k<=(lsD n e d).length->CutD n e d k
 | 0,_,_,_,o,_,_=>absurd o (fun z=>z)
 | n + 1,e,d,k,o,k1,l=>by
  have ih:=cut_ds (n:=n) (e:=e + 1) (fun d k=>cut_de n (e + 1) d k);obtain ⟨j,rfl⟩:∃ j,k=j + 1:=⟨k - 1,by omega⟩;have whole:∀ {x:Str},lsD (n + 1) e d=[x]->CutD (n + 1) e d (j + 1):=fun {x} h=>⟨d,[],by
   rw [h];show [x]=[x].take (j + 1)++[];rw [bq,c7 (by simp)],o,ay _,dec_nil _ _⟩
  cases d with
  | fin=>exact whole rfl
  | three a b f=>exact whole rfl
  | send z x f1 y f2 f3=>exact whole rfl
  | pull x y ds =>
   have l':j + 1<=(LsD n (e + 1) ds).length + 1:=l;obtain ⟨ds',os,h1,h2,h3,h4⟩:=ih ds j o.2.2.1 (by omega);refine ⟨.pull x y ds',os,?_,⟨o.1,o.2.1,h2,o.2.2.2⟩,?_,h4.le (ib _) (ib _)⟩
   ·show ln e ["pull",x,y] :: LsD n (e + 1) ds'=(ln e ["pull",x,y] :: LsD n (e + 1) ds).take (j + 1)++elseL os;rw [h1];rfl
   ·show 1 + CnD n ds'<=1 + CnD n ds;omega
  | iff f as bs =>
   have l':j + 1<=(LsD n (e + 1) as++ln e ["else"] :: LsD n (e + 1) bs).length + 1:=l;rw [af,aG] at l'
   by_cases c:j<=(LsD n (e + 1) as).length
   ·obtain ⟨as',os,h1,h2,h3,h4⟩:=ih as j o.2.1 c;refine ⟨.iff f as' [],os++[e],?_,⟨o.1,h2,(fun d m=>by cases m),o.2.2.2⟩,?_,h4.snoc⟩
    ·show ln e ("if" :: f.ws) :: (LsD n (e + 1) as'++[ln e ["else"]])=(ln e ("if" :: f.ws) :: (LsD n (e + 1) as++ln e ["else"] :: LsD n (e + 1) bs)).take (j + 1)++elseL (os++[e]);rw [mY,eG c,h1];unfold elseL;rw [bA,lD,aS];rfl
    ·show 1 + (CnD n as' + 0)<=1 + (CnD n as + CnD n bs);omega
   ·obtain ⟨bs',os,h1,h2,h3,h4⟩:=ih bs (j - (LsD n (e + 1) as).length - 1) o.2.2.1 (by omega);refine ⟨.iff f as bs',os,?_,⟨o.1,o.2.1,h2,o.2.2.2⟩,?_,h4.le (ib _) (ib _)⟩
    ·show ln e ("if" :: f.ws) :: (LsD n (e + 1) as++ln e ["else"] :: LsD n (e + 1) bs')=(ln e ("if" :: f.ws) :: (LsD n (e + 1) as++ln e ["else"] :: LsD n (e + 1) bs)).take (j + 1)++elseL os;obtain ⟨i,hi⟩:∃ i,j - (LsD n (e + 1) as).length=i + 1:=⟨j - (LsD n (e + 1) as).length - 1,by omega⟩;rw [mY,gO,c7 (show (LsD n (e + 1) as).length<=j by omega),hi,mY,h1,show j - (LsD n (e + 1) as).length - 1=i by omega,lD,aS];rfl
    ·show 1 + (CnD n as + CnD n bs')<=1 + (CnD n as + CnD n bs);omega
theorem cut_h {h:Str×List De} {k:Nat} (o:OkH h) (k1:1<=k) (l:k<=(lsH h).length):∃ (h':Str×List De) (os:List Nat),h'.1=h.1/\OkH h'/\lsH h'=(lsH h).take k++elseL os/\Dec 5 2 os:=by
 obtain ⟨j,rfl⟩:∃ j,k=j + 1:=⟨k - 1,by omega⟩;have l':j + 1<=(LsD 5 2 h.2).length + 1:=l;obtain ⟨ds',os,h1,h2,h3,h4⟩:=cut_ds (fun d k=>cut_de 5 2 d k) h.2 j o.2.1 (by omega);refine ⟨(h.1,ds'),os,rfl,⟨o.1,h2,bN h3 o.2.2⟩,?_,h4⟩;show ln 1 ["on",h.1] :: LsD 5 2 ds'=(ln 1 ["on",h.1] :: LsD 5 2 h.2).take (j + 1)++elseL os;rw [h1];rfl
theorem cut_hs:∀ (hs:List (Str×List De)) (k:Nat),(∀ h∈hs,OkH h)->k<=(hs.map lsH).flatten.length->∃ (hs':List (Str×List De)) (os:List Nat),(hs'.map (·.1)).Sublist (hs.map (·.1))/\hs'.length<=hs.length/\(∀ h∈hs',OkH h)/\(hs'.map lsH).flatten=(hs.map lsH).flatten.take k++elseL os/\Dec 5 2 os
 | [],k,ok,l=>⟨[],[],jE _,ay _,ok,by
   have l':k<=0:=l;have:k=0:=by omega
   subst this;rfl,dec_nil _ _⟩
 | h :: hs,k,ok,l=>by
  have e:((h :: hs).map lsH).flatten=lsH h++(hs.map lsH).flatten:=rfl;rw [e,af] at l
  by_cases c0:k=0
  ·subst c0;exact ⟨[],[],qa _,aU _,(fun d m=>by cases m),rfl,dec_nil _ _⟩
  by_cases c:k<=(lsH h).length
  ·obtain ⟨h',os,h1,h2,h3,h4⟩:=cut_h (ok h aA) (by omega) c;refine ⟨[h'],os,?_,by simp,fun x m=>by rw [au.mp m]; exact h2,?_,h4⟩
   ·rw [bY,bY,h1];exact List.Sublist.cons₂ _ (qa _)
   ·rw [e,eG c,<- h3];exact bq _
  ·obtain ⟨hs',os,h1,h2,h3,h4,h5⟩:=cut_hs hs (k - (lsH h).length) (fun x m=>ok x (az _ m)) (by omega);refine ⟨h :: hs',os,List.Sublist.cons₂ _ h1,by simpa using h2,fun x m=>?_,?_,h5⟩
   ·rcases ar.mp m with rfl | m
    ·exact ok _ aA
    ·exact h3 x m
   ·rw [e,gO,c7 (show (lsH h).length<=k by omega),aS,<- h4];rfl
theorem drL_le (zs:List Int):(drL zs).length<=1:=by
 unfold drL
 split <;> simp
theorem cut_m {M:Mo} {k:Nat} (o:OkM M) (k1:1<=k) (l:k<=(lsM M).length):∃ (X:Mo) (os:List Nat),X.nm=M.nm/\OkM X/\lsM X=(lsM M).take k++elseL os/\Dec 5 2 os:=by
 obtain ⟨j,rfl⟩:∃ j,k=j + 1:=⟨k - 1,by omega⟩;have lb:(bxL M.bx).length=M.bx.length:=aa ..;have lq:(qsL M.qs).length=M.qs.length:=aa ..;have ld:=drL_le M.dr;have l':j + 1<=(mj M).length + 1:=l;unfold mj at l';rw [af,af,af,lb,lq] at l';have e:∀ (X:Mo) (os:List Nat),X.nm=M.nm->mj X=(mj M).take j++elseL os->lsM X=(lsM M).take (j + 1)++elseL os:=fun X os en h=>by
  show ln 0 ["machine",X.nm] :: mj X=(ln 0 ["machine",M.nm] :: mj M).take (j + 1)++elseL os;rw [h,en];rfl
 have n0:([]:List (Str×List De)).length<=4:=by decide
 by_cases c1:j<=M.bx.length
 ·refine ⟨⟨M.nm,M.bx.take j,[],[],[]⟩,[],rfl,⟨o.nm,?_,aU _,aU _,aU _,fun b m=>o.bx b (dN m),(fun q m=>by cases m),(fun q m=>by cases m),(fun q m=>by cases m),?_,HF⟩,e _ _ rfl ?_,dec_nil _ _⟩
  ·have:=o.b6;show (M.bx.take j).length<=6;rw [bP];omega
  ·show ((M.bx.take j).map (fun q:Str×Int=>q.1)++([]:List Str)).Nodup;rw [bq,pz];exact ff (jc ..) (dM.mp o.nd).1
  ·unfold mj;rw [eG (by omega)];show bxL (M.bx.take j)++[]=(bxL M.bx).take j++[];unfold bxL;rw [pz]
 by_cases c2:j - M.bx.length<=M.qs.length
 ·refine ⟨⟨M.nm,M.bx,M.qs.take (j - M.bx.length),[],[]⟩,[],rfl,⟨o.nm,o.b6,?_,aU _,aU _,o.bx,fun b m=>o.qs b (dN m),(fun q m=>by cases m),(fun q m=>by cases m),?_,HF⟩,e _ _ rfl ?_,dec_nil _ _⟩
  ·have:=o.q3;show (M.qs.take (j - M.bx.length)).length<=3;rw [bP];omega
  ·exact ff (we (jE _) (jc ..)) o.nd
  ·unfold mj;rw [gO,c7 (show (bxL M.bx).length<=j by omega),lb,eG (by omega)];show bxL M.bx++(qsL (M.qs.take (j - M.bx.length))++[])=bxL M.bx++(qsL M.qs).take (j - M.bx.length)++[];unfold qsL;rw [pz,bq,bq]
 ·obtain ⟨hs',os,h1,h2,h3,h4,h5⟩:=cut_hs M.hr (j - M.bx.length - M.qs.length - (drL M.dr).length) o.hr (by omega);refine ⟨⟨M.nm,M.bx,M.qs,M.dr,hs'⟩,os,rfl,⟨o.nm,o.b6,o.q3,o.d20,bN h2 o.h4,o.bx,o.qs,o.dr,h3,o.nd,ff h1 o.ndh⟩,e _ _ rfl ?_,h5⟩;unfold mj;dsimp only;rw [gO,c7 (show (bxL M.bx).length<=j by omega),lb,gO,c7 (show (qsL M.qs).length<=j - M.bx.length by omega),lq,gO,c7 (show (drL M.dr).length<=j - M.bx.length - M.qs.length by omega),h4];simp only [aS]
theorem cut_ms:∀ (ms:List Mo) (k:Nat),(∀ M∈ms,OkM M)->k<=(ms.map lsM).flatten.length->∃ (xs:List Mo) (os:List Nat),(xs.map (·.nm)).Sublist (ms.map (·.nm))/\xs.length<=ms.length/\(∀ M∈xs,OkM M)/\(xs.map lsM).flatten=(ms.map lsM).flatten.take k++elseL os/\Dec 5 2 os
 | [],k,ok,l=>⟨[],[],jE _,ay _,ok,by
   have l':k<=0:=l;have:k=0:=by omega
   subst this;rfl,dec_nil _ _⟩
 | h :: hs,k,ok,l=>by
  have e:((h :: hs).map lsM).flatten=lsM h++(hs.map lsM).flatten:=rfl;rw [e,af] at l
  by_cases c0:k=0
  ·subst c0;exact ⟨[],[],qa _,aU _,(fun d m=>by cases m),rfl,dec_nil _ _⟩
  by_cases c:k<=(lsM h).length
  ·obtain ⟨h',os,h1,h2,h3,h4⟩:=cut_m (ok h aA) (by omega) c;refine ⟨[h'],os,?_,by simp,fun x m=>by rw [au.mp m]; exact h2,?_,h4⟩
   ·rw [bY,bY,h1];exact List.Sublist.cons₂ _ (qa _)
   ·rw [e,eG c,<- h3];exact bq _
  ·obtain ⟨hs',os,h1,h2,h3,h4,h5⟩:=cut_ms hs (k - (lsM h).length) (fun x m=>ok x (az _ m)) (by omega);refine ⟨h :: hs',os,List.Sublist.cons₂ _ h1,by simpa using h2,fun x m=>?_,?_,h5⟩
   ·rcases ar.mp m with rfl | m
    ·exact ok _ aA
    ·exact h3 x m
   ·rw [e,gO,c7 (show (lsM h).length<=k by omega),aS,<- h4];rfl
theorem ln_inj {e e':Nat} {ws us:List Str} (g:GL ws) (h:GL us) (z:ln e ws=ln e' us):e=e'/\ws=us:=by
 have z':=congrArg (fun x:Str=>x.cps.toList) z;have w1:cH [ln e ws] 0 e=ws:=gL rfl g
 by_cases c:e=e'
 ·subst c;have w2:cH [ln e us] 0 e=us:=gL rfl h;rw [z] at w1;exact ⟨rfl,w1.symm.trans w2⟩
 rcases Nat.lt_or_gt_of_ne c with c | c
 ·have w2:cH [ln e' us] 0 e'=us:=gL rfl h;have w3:cH [ln e ws] 0 e'=[("":Str)]:=rS rfl g c;rw [z,w2] at w3;obtain ⟨a,b,r,hr,e2,ne⟩:=h.w0;rw [w3] at hr
  cases hr;exact (ne (e2.symm.trans (by decide))).elim
 ·have w3:cH [ln e' us] 0 e=[("":Str)]:=rS rfl h c;rw [<- z,w1] at w3;obtain ⟨a,b,r,hr,e2,ne⟩:=g.w0;rw [w3] at hr
  cases hr;exact (ne (e2.symm.trans (by decide))).elim
theorem hw_else {n:Nat} {d:De} (o:OkD n d):d.hw≠[("else":Str)]:=by
 cases n with
 | zero=>exact absurd o (fun z=>z)
 | succ n =>
  cases d with
  | fin=>decide
  | three k x f=>exact fun z=>by cases z
  | send z x f1 y f2 f3=>exact fun z=>by cases z
  | pull x y ds=>exact fun z=>by cases z
  | iff f as bs=>exact fun z=>absurd (bC (congrArg xi z)) (by decide)
theorem head_els {n e e':Nat} {d:De} (o:OkD n d) {t t':List Str} (h:lsD n e d++t=ln e' ["else"] :: t'):False:=by
 obtain ⟨u,eu,g,_⟩:=ku (e:=e) o;rw [eu] at h;injection h with h _;exact hw_else o (ln_inj g jD h).2
theorem app_cut {α:Type} {a b c d:List α} (h:a++b=c++d):(∃ r,c=a++r/\b=r++d)\/∃ x r,a=c++x :: r/\d=x :: r++b:=by
 induction a generalizing c with
 | nil=>exact .inl ⟨c,rfl,h⟩
 | cons x a ih =>
  cases c with
  | nil=>exact .inr ⟨x,a,rfl,h.symm⟩
  | cons y c =>
   injection h with h1 h2;subst h1
   rcases ih h2 with ⟨r,rfl,e⟩ | ⟨y,r,rfl,e⟩
   ·exact .inl ⟨r,rfl,e⟩
   ·exact .inr ⟨y,r,rfl,e⟩
theorem els_cut {os:List Nat} {a b:List Str} (h:elseL os=a++b):∃ o1 o2,os=o1++o2/\a=elseL o1/\b=elseL o2:=by
 obtain ⟨o1,o2,h1,h2,h3⟩:=List.map_eq_append_iff.mp h;exact ⟨o1,o2,h1,h2.symm,h3.symm⟩
theorem hw_on {e k:Nat} {x:Str} (h:ln e ["on",x]=ln k ["else"]) (n:Nam x):False:=absurd (bC (congrArg xi (ln_inj (rB n) jD h).2)) (by decide)
theorem hw_ma {e k:Nat} {x:Str} (h:ln e ["machine",x]=ln k ["else"]) (n:Nam x):False:=absurd (bC (congrArg xi (ln_inj (pY n) jD h).2)) (by decide)
def rs {α:Type} (os:List Nat) (a:α) (r:Nat):Except Nat α:=match os with
 | []=>.ok a
 | _ :: _=>.error r
def Prv (L:List Str) (i e:Nat):Prop:=∃ e' ws,1<=i/\L[i - 1]?=some (ln e' ws)/\GL ws/\e<=e'
theorem Prv.le {L:List Str} {i e q:Nat} (h:Prv L i e) (l:q<=e):Prv L i q:=by
 obtain ⟨e',ws,h0,h1,h2,h3⟩:=h;exact ⟨e',ws,h0,h1,h2,bN l h3⟩
def NoDe (L:List Str) (j:Nat):Prop:=∀ q,2<=q->Prv L j (q - 1)->iD (cH L j q)=none/\cH L j q≠[("else":Str)]
theorem prv_at {L:List Str} {i e:Nat} {ws t:List Str} (h:L.drop i=ln e ws :: t) (g:GL ws):Prv L (i + 1) e:=⟨e,ws,by omega,(dG h).1,g,ay _⟩
theorem lsD_deep:∀ {n e:Nat} {d:De},OkD n d->∀ x∈lsD n e d,∃ e' ws,x=ln e' ws/\GL ws/\e<=e'
 | 0,_,_,o,_,_=>absurd o (fun z=>z)
 | n + 1,e,d,o,x,m=>by
  have g:=o.gl;have sub:∀ {ds:List De},(∀ d∈ds,OkD n d)->∀ x∈LsD n (e + 1) ds,∃ e' ws,x=ln e' ws/\GL ws/\e<=e':=fun {ds} k x m=>by
   obtain ⟨ys,my,mx⟩:=gN.mp m;obtain ⟨d,md,rfl⟩:=cu.mp my;obtain ⟨e',ws,h1,h2,h3⟩:=lsD_deep (k d md) x mx;exact ⟨e',ws,h1,h2,by omega⟩
  cases d with
  | fin=>exact ⟨e,_,au.mp m,g,ay _⟩
  | three a b f=>exact ⟨e,_,au.mp m,g,ay _⟩
  | send z x f1 y f2 f3=>exact ⟨e,_,au.mp m,g,ay _⟩
  | pull a b ds =>
   rcases ar.mp m with rfl | m
   ·exact ⟨e,_,rfl,g,ay _⟩
   ·exact sub o.2.2.1 x m
  | iff f as bs =>
   rcases ar.mp m with rfl | m
   ·exact ⟨e,_,rfl,g,ay _⟩
   rcases aN.mp m with m | m
   ·exact sub o.2.1 x m
   rcases ar.mp m with rfl | m
   ·exact ⟨e,_,rfl,jD,ay _⟩
   ·exact sub o.2.2.1 x m
theorem prv_behind {L A t:List Str} {i e:Nat} (h:L.drop i=A++t) (ne:A≠[]) (dp:∀ x∈A,∃ e' ws,x=ln e' ws/\GL ws/\e<=e'):Prv L (i + A.length) e:=by
 have l1:=dH.mpr ne;obtain ⟨e',ws,h1,h2,h3⟩:=dp (A[A.length - 1]'(by omega)) (ei _);refine ⟨e',ws,by omega,?_,h2,h3⟩;have:=congrArg (fun l=>l[A.length - 1]?) h;rw [dw (by omega),aL (l:=A) (by omega),h1,oq] at this;rw [<- this,show i + A.length - 1=i + (A.length - 1) by omega]
def StD (L:List Str) (j n d:Nat):Prop:=∀ (x:De) (i c:Nat) (A os:List Str) (B:List Str) (ks:List Nat),os=elseL ks->L.drop i=A++B->i + A.length=j->A≠[]->lsD n (d + 1) x=A++os->OkD n x->c + mi n x<=20->iW L d i c (rs ks (some x,j,c + mi n x) (j + 1))
theorem els_ne {ks:List Nat} {n e:Nat} {ds:List De} (ok:∀ d∈ds,OkD n d) (h:LsD n e ds=elseL ks):ds=[]/\ks=[]:=by
 cases ds with
 | nil=>cases ks with
  | nil=>exact ⟨rfl,rfl⟩
  | cons k ks=>cases h
 | cons d ds =>
  cases ks with
  | nil =>
   obtain ⟨t,e,_⟩:=ku (e:=e) (ok d aA);rw [ix,e] at h
   cases h
  | cons k ks=>exact (head_els (ok d aA) (show lsD n e d++_=ln k ["else"] :: elseL ks from h)).elim
theorem st_ds {L:List Str} {j n d:Nat} (hn:n + d=6) (sj:NoDe L j) (one:StD L j n d):∀ (ds:List De) (i c:Nat) (A B:List Str) (ks:List Nat),L.drop i=A++B->i + A.length=j->Prv L i d->LsD n (d + 1) ds=A++elseL ks->(∀ x∈ds,OkD n x)->c + CnD n ds<=20->1<=d->eQ L d i c (rs ks (ds,j,c + CnD n ds) (j + 1))
 | [],i,c,A,B,ks,h,il,pv,e,ok,cc,d1=>by
  obtain ⟨rfl,e2⟩:=gI.mp e.symm;have k0:ks=[]:=by
   cases ks with
   | nil=>rfl
   | cons k ks=>cases e2
  subst k0;have ij:i=j:=il;subst ij;refine yb ?_
  by_cases o:5 < d\/20<=c
  ·exact vD o
  ·exact uC o (sj (d + 1) (by omega) pv).1
 | x :: ds,i,c,A,B,ks,h,il,pv,e,ok,cc,d1=>by
  have okx:=ok x aA;obtain ⟨t,ex,_,c1⟩:=ku (e:=d + 1) okx;rw [kr] at cc |-;rw [ix] at e;have ne:A≠[]:=fun z=>by
   rw [z] at e
   cases ks with
   | nil =>
    rw [ex] at e
    cases e
   | cons k ks=>exact head_els okx (show lsD n (d + 1) x++_=ln k ["else"] :: elseL ks from e)
  have last:∀ {ks:List Nat},ds=[]->lsD n (d + 1) x=A++elseL ks->eQ L d i c (rs ks (x :: ds,j,c + (mi n x + CnD n ds)) (j + 1)):=fun {ks} z e'=>by
   subst z;have k:=one x i c A _ B ks rfl h il ne e' okx (by omega)
   cases ks with
   | nil =>
    have pj:Prv L j d:=by
     rw [<- il];exact (prv_behind h ne fun y m=>lsD_deep okx y (by rw [e']; exact cS _ m)).le (ib _)
    have k2:eQ L d j (c + mi n x) (.ok ([],j,c + mi n x)):=by
     refine yb ?_
     by_cases o:5 < d\/20<=c + mi n x
     ·exact vD o
     ·exact uC o (sj (d + 1) (by omega) pj).1
    exact uD k (by omega) (by omega) k2
   | cons _ ks=>exact IU k
  rcases app_cut e with ⟨r,e1,e2⟩ | ⟨y,r,e1,e2⟩
  ·cases r with
   | nil =>
    obtain ⟨z1,rfl⟩:=els_ne (fun y m=>ok y (az _ m)) e2;rw [bq] at e1;exact last z1 (by rw [e1]; exact (bq _).symm)
   | cons a r =>
    rw [e1,aS] at h;have h2:=gw h;rw [e1,af,<- fY] at il
    cases ds with
    | nil=>cases e2
    | cons y ds =>
     obtain ⟨t',ey,gy,_⟩:=ku (e:=d + 1) (ok y (by simp));have ea:ln (d + 1) y.hw=a:=by
      rw [ix,ey] at e2;exact (aV e2).1
     have s2:qJ L (i + (lsD n (d + 1) x).length) (d + 2):=.inr ⟨d + 1,y.hw,by rw [ea]; exact (dG h2).1,gy,by omega⟩;have pv2:Prv L (i + (lsD n (d + 1) x).length) d:=(prv_behind h (by rw [ex]; simp) fun y m=>lsD_deep okx y m).le (ib _);have k2:=st_ds hn sj one (y :: ds) _ (c + mi n x) (a :: r) B ks h2 il pv2 e2 (fun z m=>ok z (az _ m)) (by omega) d1;have k1:=zj n d hn x i c _ h okx (by omega) s2;rw [<- fY]
     cases ks with
     | nil=>exact uD k1 (by omega) (by omega) k2
     | cons _ ks=>exact tI k1 (by omega) (by omega) k2
  ·have e2':elseL ks=(y :: r)++LsD n (d + 1) ds:=e2;obtain ⟨o1,o2,rfl,e3,e4⟩:=els_cut e2';obtain ⟨z1,rfl⟩:=els_ne (fun y m=>ok y (az _ m)) e4;rw [e3] at e1;rw [bq];exact last z1 e1
theorem st_de {L:List Str} {j:Nat} (sj:NoDe L j):∀ (n d:Nat),n + d=6->1<=d->StD L j n d
 | 0,d,_,_,x,i,c,A,os,B,ks,_,h,il,ne,e,ok,cc=>absurd ok (fun z=>z)
 | n + 1,d,hn,d1,x,i,c,A,os,B,ks,eo,h,il,ne,e,ok,cc=>by
  subst eo;have ih:=st_ds (L:=L) (n:=n) (d:=d + 1) (by omega) sj (st_de sj n (d + 1) (by omega) (by omega));have rd:=zi (zj (L:=L) n (d + 1) (by omega));obtain ⟨t,ex,g,c1⟩:=ku (e:=d + 1) ok;have no:¬ (5 < d\/20<=c):=by omega
  cases A with
  | nil=>exact absurd rfl ne
  | cons a A =>
  have ea:a=ln (d + 1) x.hw:=by
   rw [ex] at e;exact (aV e).1.symm
  subst ea;obtain ⟨h1,h2⟩:=dG h;have ed:iD (cH L i (d + 1))=some (Aw x):=by
   rw [gL h1 g];exact ok.head
  have pv:=prv_at h g;rw [aG] at il;have leaf:∀ {u:Str},lsD (n + 1) (d + 1) x=[u]->ks=[]/\i + 1=j:=fun {u} z=>by
   rw [z] at e;have l:=congrArg iK e;rw [af,aG] at l;have l:1=A.length + 1 + (elseL ks).length:=l
   cases ks with
   | nil=>exact ⟨rfl,by omega⟩
   | cons k ks=>exact absurd l (by show ¬ (1=A.length + 1 + ((elseL ks).length + 1)); omega)
  cases x with
  | fin=>obtain ⟨rfl,rfl⟩:=leaf rfl; exact pX no ed
  | three k x f=>obtain ⟨rfl,rfl⟩:=leaf rfl; exact pX no ed
  | send z x f1 y f2 f3=>obtain ⟨rfl,rfl⟩:=leaf rfl; exact pX no ed
  | pull x y ds =>
   have e':LsD n (d + 2) ds=A++elseL ks:=(aV e).2;have cx:mi (n + 1) (.pull x y ds)=1 + CnD n ds:=rfl;have k:=ih ds (i + 1) (c + 1) A B ks h2 (by omega) pv e' ok.2.2.1 (by omega) (by omega);rw [cx,<- fY]
   cases ks with
   | nil=>exact x9 no ed k
   | cons _ ks=>exact xc no ed k
  | iff f as bs =>
   have e':LsD n (d + 2) as++ln (d + 1) ["else"] :: LsD n (d + 2) bs=A++elseL ks:=(aV e).2;have cx:mi (n + 1) (.iff f as bs)=1 + (CnD n as + CnD n bs):=rfl;rw [cx,<- fY,<- fY]
   rcases app_cut e' with ⟨r,e1,e2⟩ | ⟨y,r,e1,e2⟩
   ·cases r with
    | nil =>
     rw [bq] at e1
     cases ks with
     | nil=>cases e2
     | cons o ks =>
      have k:=ih as (i + 1) (c + 1) A B [] h2 (by omega) pv (by rw [e1]; exact (bq _).symm) ok.2.1 (by omega) (by omega);have pj:Prv L j (d + 1):=by
       rw [<- il,show i + (A.length + 1)=i + (ln (d + 1) (De.iff f as bs).hw :: A).length from rfl];exact prv_behind h (by simp) fun y m=>lsD_deep (n:=n + 1) (d:=.iff f as bs) ok y (by
        show y∈ln (d + 1) ("if" :: f.ws) :: (LsD n (d + 2) as++ln (d + 1) ["else"] :: LsD n (d + 2) bs)
        rcases ar.mp m with rfl | m
        ·exact aA
        ·exact az _ (cS _ (e1 ▸ m)))
      exact A9 no ed k (sj (d + 1) (by omega) (pj.le (by omega))).2
    | cons b r =>
     obtain ⟨e3,e4⟩:=aV e2;subst e3
     replace h2:L.drop (i + 1)=A++B:=h2
     rw [e1,aS] at h2;obtain ⟨h4,h5⟩:=dG (show L.drop (i + 1 + (LsD n (d + 2) as).length)=ln (d + 1) ["else"] :: (r++B) from gw h2);have k:=rd as (i + 1) (c + 1) _ h2 ok.2.1 (by omega) (.inr ⟨d + 1,["else"],h4,jD,by omega⟩);rw [e1,af,aG] at il;have k2:=ih bs (i + 1 + (LsD n (d + 2) as).length + 1) (c + 1 + CnD n as) r B ks h5 (by omega) ⟨d + 1,_,by omega,h4,jD,ay _⟩ e4 ok.2.2.1 (by omega) (by omega)
     cases ks with
     | nil=>exact Er no ed k (by omega) (gL h4 jD) k2
     | cons _ ks=>exact zc no ed k (by omega) (gL h4 jD) k2
   ·have e2':elseL ks=(y :: r)++ln (d + 1) ["else"] :: LsD n (d + 2) bs:=e2;obtain ⟨o1,o2,rfl,e3,_⟩:=els_cut e2'
    cases o1 with
    | nil=>cases e3
    | cons p o1 =>
     rw [e3] at e1;exact A8 no ed (ih as (i + 1) (c + 1) A B (p :: o1) h2 (by omega) pv e1 ok.2.1 (by omega) (by omega))
structure Fr (L:List Str) (j:Nat) (M:Mo):Prop where
 bx:M.qs=[]->M.dr=[]->M.hr=[]->∀ n,fk L n j M.bx=(M.bx,j)
 qs:M.dr=[]->M.hr=[]->∀ n,gg L (M.bx.map (·.1)) n j M.qs=(M.qs,j)
 dr:M.dr=[]->M.hr=[]->jj L j=([],j)
 hr:∀ n,jy L n j M.hr=.ok (M.hr,j)
theorem st_hr {L:List Str} {j:Nat} (sj:NoDe L j):∀ (hs:List (Str×List De)) (n i:Nat) (acc:List (Str×List De)) (A B:List Str) (ks:List Nat),L.drop i=A++B->i + A.length=j->(hs.map lsH).flatten=A++elseL ks->hs.length<=n->(∀ h∈hs,OkH h)->(acc.map (·.1)++hs.map (·.1)).Nodup->(∀ n,jy L n j (acc++hs)=.ok (acc++hs,j))->jy L n i acc=rs ks (acc++hs,j) (j + 1)
 | [],n,i,acc,A,B,ks,h,il,e,l,ok,nd,st=>by
  obtain ⟨rfl,e2⟩:=gI.mp e.symm;have ij:i=j:=il;subst ij
  cases ks with
  | nil =>
   have:=st n;rw [bq] at this |-;exact this
  | cons k ks=>cases e2
 |(x,ds) :: hs,0,i,acc,A,B,ks,h,il,e,l,ok,nd,st=>absurd l (by simp)
 |(x,ds) :: hs,n + 1,i,acc,A,B,ks,h,il,e,l,ok,nd,st=>by
  obtain ⟨hx,hd,hc⟩:=ok (x,ds) aA;have e:ln 1 ["on",x] :: (LsD 5 2 ds++(hs.map lsH).flatten)=A++elseL ks:=e
  cases A with
  | nil=>cases ks with
   | nil=>cases e
   | cons k ks=>exact (hw_on (aV e).1 hx).elim
  | cons a A =>
  obtain ⟨ea,e0⟩:=aV (show ln 1 ["on",x] :: (LsD 5 2 ds++(hs.map lsH).flatten)=a :: (A++elseL ks) from e);subst ea;obtain ⟨h1,h2⟩:=dG h
  replace h2:L.drop (i + 1)=A++B:=h2
  have pv:=prv_at h (rB hx);rw [aG] at il;have hx':x∉acc.map (·.1):=fun m=>(dM.mp nd).2.2 x m x aA rfl;rw [jy,show ek L i 1 "on" 2 (acc.map (·.1))=some [("on":Str),x] from qK (gL h1 (rB hx)) rfl hx hx'];dsimp only;have last:∀ {ks:List Nat},hs=[]->LsD 5 2 ds=A++elseL ks->(match kn L 42 1 (i + 1) 0 with
      | .error e=>Except.error e
      | .ok (ds,i',_)=>jy L n i' (acc++[(x,ds)]))=rs ks (acc++(x,ds) :: hs,j) (j + 1):=fun {ks} z e'=>by
   subst z;rw [st_ds (L:=L) (n:=5) (d:=1) rfl sj (st_de sj 5 1 rfl (ay _)) ds (i + 1) 0 A B ks h2 (by omega) pv e' hd (by rw [oa]; exact hc) (ay _) 42 (by omega)]
   cases ks with
   | nil=>exact st n
   | cons k ks=>rfl
  rcases app_cut e0 with ⟨r,e1,e2⟩ | ⟨y,r,e1,e2⟩
  ·cases hs with
   | nil =>
    obtain ⟨rfl,e3⟩:=gI.mp (show r++elseL ks=[] from e2.symm);rw [bq] at e1;exact last rfl (by rw [e3,e1]; exact (bq _).symm)
   | cons y hs =>
    have oy:=(ok y (by simp)).1
    cases r with
    | nil=>cases ks with
     | nil=>cases e2
     | cons k ks=>exact (hw_on (aV e2).1 oy).elim
    | cons b r =>
     have eb:ln 1 ["on",y.1]=b:=(aV e2).1;rw [e1,aS] at h2;have h3:=gw h2;rw [e1,af] at il;have k:kn L 42 1 (i + 1) 0=.ok (ds,i + 1 + (LsD 5 2 ds).length,0 + CnD 5 ds):=zi (zj 5 1 rfl) ds (i + 1) 0 _ h2 hd (by rw [oa]; exact hc) (.inr ⟨1,["on",y.1],by rw [eb]; exact (dG h3).1,rB oy,by omega⟩) 42 (by omega);rw [k];have z:=st_hr sj (y :: hs) n _ (acc++[(x,ds)]) (b :: r) B ks h3 (by omega) e2 (by simpa using l) (fun b m=>ok b (az _ m)) (by simpa using nd) (by rw [aS]; exact st);rw [aS] at z;exact z
  ·have e2':elseL ks=(y :: r)++(hs.map lsH).flatten:=e2;obtain ⟨o1,o2,rfl,e3,e4⟩:=els_cut e2';have z1:hs=[]/\o2=[]:=by
    cases hs with
    | nil=>cases o2 with
     | nil=>exact ⟨rfl,rfl⟩
     | cons k ks=>cases e4
    | cons y hs=>cases o2 with
     | nil=>cases e4
     | cons k ks=>exact (hw_on (aV e4).1 (ok y (by simp)).1).elim
   rw [e3] at e1;rw [z1.2,bq];exact last z1.1 e1
theorem front_ne {M:Mo} (ok:OkM M):∀ x∈bxL M.bx++(qsL M.qs++drL M.dr),∃ e ws,x=ln e ws/\GL ws/\ws≠[("else":Str)]:=fun x m=>by
 rcases aN.mp m with m | m
 ·obtain ⟨b,mb,rfl⟩:=cu.mp m;obtain ⟨h1,h2⟩:=ok.bx b mb;exact ⟨_,_,rfl,iN (by decide) (fun u m=>by
   rcases ar.mp m with rfl | m
   ·exact fV h1
   ·rw [au.mp m]; exact jC h2) (by show 2<=59; decide),fun z=>by cases z⟩
 rcases aN.mp m with m | m
 ·obtain ⟨b,mb,rfl⟩:=cu.mp m;exact ⟨_,_,rfl,iN (by decide) (fun u m=>by rw [au.mp m]; exact fV (ok.qs b mb)) (by show 1<=59; decide),fun z=>by cases z⟩
 ·unfold drL at m
  split at m
  ·cases m
  ·rw [au.mp m];exact ⟨_,_,rfl,iN (by decide) (fun u m=>by
    obtain ⟨z,mz,rfl⟩:=cu.mp m;exact jC (ok.dr z mz).1) (by rw [aa]; have:=ok.d20; omega),fun z=>absurd (bC (congrArg xi z)) (by decide)⟩
theorem cut_front {M:Mo} {A:List Str} {ks:List Nat} (ok:OkM M) (e:mj M=A++elseL ks):∃ r,A=bxL M.bx++(qsL M.qs++(drL M.dr++r))/\(M.hr.map lsH).flatten=r++elseL ks:=by
 have e':(bxL M.bx++(qsL M.qs++drL M.dr))++(M.hr.map lsH).flatten=A++elseL ks:=by
  rw [<- e];unfold mj;simp only [aS]
 rcases app_cut e' with ⟨r,e1,e2⟩ | ⟨y,r,e1,e2⟩
 ·exact ⟨r,by rw [e1]; simp only [aS],e2⟩
 ·obtain ⟨e,ws,rfl,g,ne⟩:=front_ne ok y (by rw [e1]; simp)
  cases ks with
  | nil=>cases e2
  | cons k ks=>exact (ne (ln_inj g jD (aV e2).1.symm).2).elim
theorem st_ma {L:List Str} {M:Mo} {i j:Nat} {A B:List Str} {ks:List Nat} (sj:NoDe L j) (fr:Fr L j M) (h:L.drop i=A++B) (il:i + A.length=j) (e:mj M=A++elseL ks) (ok:OkM M):kq L i M.nm=rs ks (M,j) (j + 1):=by
 obtain ⟨r,rfl,e2⟩:=cut_front ok e;have h':L.drop i=bxL M.bx++(qsL M.qs++(drL M.dr++(r++B))):=by
  rw [h];simp only [aS]
 have lb:(bxL M.bx).length=M.bx.length:=aa ..;have lq:(qsL M.qs).length=M.qs.length:=aa ..;rw [af,af,af,lb,lq] at il;have h1:=gw h';have h2:=gw h1;have h3:=gw h2;rw [lb] at h1 h2 h3;rw [lq] at h2 h3;have r0:r=[]->M.hr=[]:=fun z=>by
  rw [z] at e2
  cases eh:M.hr with
  | nil=>rfl
  | cons y hs =>
   rw [eh] at e2
   cases ks with
   | nil=>cases e2
   | cons k ks=>exact (hw_on (aV e2).1 (ok.hr y (by rw [eh]; exact aA)).1).elim
 have r1:∀ b r',r=b :: r'->∃ y hs,M.hr=y :: hs/\b=ln 1 ["on",y.1]:=fun b r' z=>by
  rw [z] at e2
  cases eh:M.hr with
  | nil =>
   rw [eh] at e2
   cases e2
  | cons y hs =>
   rw [eh] at e2;exact ⟨y,hs,rfl,(aV e2).1.symm⟩
 have n3:(r=[]/\M.hr=[]/\i + M.bx.length + M.qs.length + (drL M.dr).length=j)\/sT L (i + M.bx.length + M.qs.length + (drL M.dr).length) ["box","queue","draws"]:=by
  cases r with
  | nil=>exact .inl ⟨rfl,r0 rfl,by rw [jW] at il; omega⟩
  | cons b r =>
   obtain ⟨y,hs,eh,rfl⟩:=r1 b r rfl;exact .inr (qY (dG h3).1 (rB (ok.hr y (by rw [eh]; exact aA)).1) (by decide))
 have dd:jj L (i + M.bx.length + M.qs.length)=(M.dr,i + M.bx.length + M.qs.length + (drL M.dr).length)/\((M.dr=[]/\M.hr=[]/\i + M.bx.length + M.qs.length=j)\/sT L (i + M.bx.length + M.qs.length) ["box","queue"]):=by
  by_cases ed:M.dr=[]
  ·have d0:drL M.dr=[]:=by unfold drL; rw [if_pos ed]
   rw [d0] at n3 |-;rw [ed]
   rcases n3 with ⟨z1,z2,z3⟩ | n3
   ·rw [jW,Nat.add_zero] at z3;rw [z3];exact ⟨fr.dr ed z2,.inl ⟨rfl,z2,rfl⟩⟩
   ·exact ⟨Ax (n3.sub (by simp)),.inr (n3.sub (by simp))⟩
  ·have d1:drL M.dr=[ln 1 ("draws" :: M.dr.map nt)]:=by unfold drL; rw [if_neg ed]
   rw [d1] at h2 |-;have a:=(dG h2).1;have g:GL (("draws":Str) :: M.dr.map nt):=iN (by decide) (fun u m=>by
    obtain ⟨z,mz,rfl⟩:=cu.mp m;exact jC (ok.dr z mz).1) (by rw [aa]; have:=ok.d20; omega)
   exact ⟨HD a ed ok.d20 ok.dr,.inr (qY a g (by decide))⟩
 have Q:gg L (M.bx.map (·.1)) 3 (i + M.bx.length) []=(M.qs,i + M.bx.length + M.qs.length):=by
  rw [Ew M.qs 3 _ [] _ h1 ok.q3 ok.qs (by rw [bq]; exact ok.nd),jY]
  rcases dd.2 with ⟨z1,z2,z3⟩ | n
  ·rw [z3];exact fr.qs z1 z2 _
  ·exact HB (n.sub (by simp))
 have Bx:fk L 6 i []=(M.bx,i + M.bx.length):=by
  rw [Eu M.bx 6 i [] _ h' ok.b6 ok.bx (dM.mp ok.nd).1,jY]
  cases eq:M.qs with
  | nil =>
   rw [eq,jW,Nat.add_zero] at dd
   rcases dd.2 with ⟨z1,z2,z3⟩ | n
   ·rw [z3];exact fr.bx eq z1 z2 _
   ·exact Bd (n.sub (by simp))
  | cons y qs =>
   rw [eq] at h1;exact Bd (qY (dG h1).1 (iN (by decide) (fun u m=>by rw [au.mp m]; exact fV (ok.qs y (by rw [eq]; exact aA))) (by show 1<=59; decide)) (by decide))
 have H:=st_hr sj M.hr 4 _ [] r B ks h3 (by omega) e2 ok.h4 ok.hr ok.ndh fr.hr;unfold kq;rw [Bx];dsimp only;rw [Q];dsimp only;rw [dd.1];dsimp only;rw [H]
 cases ks with
 | nil=>rfl
 | cons k ks=>rfl
theorem st_mo {L:List Str} {j:Nat} (sj:NoDe L j):∀ (ms:List Mo) (n i:Nat) (acc:List Mo) (A B:List Str) (ks:List Nat),L.drop i=A++B->i + A.length=j->(ms.map lsM).flatten=A++elseL ks->ms.length<=n->(∀ M∈ms,OkM M)->(acc.map (·.nm)++ms.map (·.nm)).Nodup->(∀ M,ms.getLast?=some M->Fr L j M)->(∀ n,lL L n j (acc++ms)=.ok (acc++ms,j))->lL L n i acc=rs ks (acc++ms,j) (j + 1)
 | [],n,i,acc,A,B,ks,h,il,e,l,ok,nd,fr,st=>by
  obtain ⟨rfl,e2⟩:=gI.mp e.symm;have ij:i=j:=il;subst ij
  cases ks with
  | nil =>
   have:=st n;rw [bq] at this |-;exact this
  | cons k ks=>cases e2
 | M :: ms,0,i,acc,A,B,ks,h,il,e,l,ok,nd,fr,st=>absurd l (by simp)
 | M :: ms,n + 1,i,acc,A,B,ks,h,il,e,l,ok,nd,fr,st=>by
  have okM:=ok M aA;have e:ln 0 ["machine",M.nm] :: (mj M++(ms.map lsM).flatten)=A++elseL ks:=e
  cases A with
  | nil=>cases ks with
   | nil=>cases e
   | cons k ks=>exact (hw_ma (aV e).1 okM.nm).elim
  | cons a A =>
  obtain ⟨ea,e0⟩:=aV (show ln 0 ["machine",M.nm] :: (mj M++(ms.map lsM).flatten)=a :: (A++elseL ks) from e);subst ea;obtain ⟨h1,h2⟩:=dG h
  replace h2:L.drop (i + 1)=A++B:=h2
  rw [aG] at il;have hx':M.nm∉acc.map (·.nm):=fun m=>(dM.mp nd).2.2 M.nm m M.nm aA rfl;rw [lL,show ek L i 0 "machine" 2 (acc.map (·.nm))=some [("machine":Str),M.nm] from qK (gL h1 (pY okM.nm)) rfl okM.nm hx'];dsimp only;have last:∀ {ks:List Nat},ms=[]->mj M=A++elseL ks->(match kq L (i + 1) M.nm with
      | .error e=>Except.error e
      | .ok (M,j)=>lL L n j (acc++[M]))=rs ks (acc++M :: ms,j) (j + 1):=fun {ks} z e'=>by
   subst z;rw [st_ma sj (fr M rfl) h2 (by omega) e' okM]
   cases ks with
   | nil=>exact st n
   | cons k ks=>rfl
  rcases app_cut e0 with ⟨r,e1,e2⟩ | ⟨y,r,e1,e2⟩
  ·cases ms with
   | nil =>
    obtain ⟨rfl,e3⟩:=gI.mp (show r++elseL ks=[] from e2.symm);rw [bq] at e1;exact last rfl (by rw [e3,e1]; exact (bq _).symm)
   | cons y ms =>
    have oy:=(ok y (by simp)).nm
    cases r with
    | nil=>cases ks with
     | nil=>cases e2
     | cons k ks=>exact (hw_ma (aV e2).1 oy).elim
    | cons b r =>
     have eb:ln 0 ["machine",y.nm]=b:=(aV e2).1;rw [e1,aS] at h2;have h3:=gw h2;rw [e1,af] at il;rw [rd_ma h2 okM (.inr ⟨0,["machine",y.nm],by rw [eb]; exact (dG h3).1,pY oy,by omega⟩)];have z:=st_mo sj (y :: ms) n _ (acc++[M]) (b :: r) B ks h3 (by omega) e2 (by simpa using l) (fun b m=>ok b (az _ m)) (by simpa using nd) (fun X hX=>fr X (by rw [List.getLast?_cons_cons]; exact hX)) (by rw [aS]; exact st);rw [aS] at z;exact z
  ·have e2':elseL ks=(y :: r)++(ms.map lsM).flatten:=e2;obtain ⟨o1,o2,rfl,e3,e4⟩:=els_cut e2';have z1:ms=[]/\o2=[]:=by
    cases ms with
    | nil=>cases o2 with
     | nil=>exact ⟨rfl,rfl⟩
     | cons k ks=>cases e4
    | cons y ms=>cases o2 with
     | nil=>cases e4
     | cons k ks=>exact (hw_ma (aV e4).1 (ok y (by simp)).nm).elim
   rw [e3] at e1;rw [z1.2,bq];exact last z1.1 e1
theorem st_ok {L A B:List Str} {xs:List Mo} {ks:List Nat} {x:Str} (e:(xs.map lsM).flatten=A++elseL ks) (eL:L=A++x :: B) (l:xs.length<=6) (ok:∀ M∈xs,OkM M) (nd:(xs.map (·.nm)).Nodup) (sj:NoDe L A.length) (fr:∀ M,xs.getLast?=some M->Fr L A.length M) (st:∀ n,lL L n A.length xs=.ok (xs,A.length)):rdM L=.error (A.length + 1):=by
 unfold rdM;rw [st_mo sj xs 6 0 [] A (x :: B) ks eL (oa _) e l ok nd fr st]
 cases ks with
 | nil =>
  show (if _ then Except.error _ else _)=_;rw [if_pos];rw [eL,af,aG,decide_eq_true (by omega),tP]
 | cons k ks=>rfl
def nm2 (ws:List Str) (k:Str) (n:Nat):Bool:=decide (ws.length=n) && decide (ws[0]?=some k) && (ws[1]?.any dW)
def badB (ws:List Str):Bool:=(iD ws).isNone && !decide (ws=[("else":Str)]) && !(nm2 ws "box" 3 && (ws[2]?.any fun w=>(gK w (-(10 ^ 15)) (10 ^ 15)).isSome)) && !nm2 ws "queue" 2 && !nm2 ws "on" 2 && !nm2 ws "machine" 2 && !(decide (ws[0]?=some ("draws":Str)) && (nA 0 (10 ^ 15) ws.tail).isSome && decide (1<=ws.tail.length) && decide (ws.tail.length<=20))
structure Bad (ws:List Str):Prop where
 de:iD ws=none
 el:ws≠[("else":Str)]
 bx:nm2 ws "box" 3=true->∀ w,ws[2]?=some w->gK w (-(10 ^ 15)) (10 ^ 15)=none
 qu:nm2 ws "queue" 2=false
 on:nm2 ws "on" 2=false
 ma:nm2 ws "machine" 2=false
 dr:∀ r,ws=("draws":Str) :: r->1<=r.length->r.length<=20->nA 0 (10 ^ 15) r=none
theorem bad_of {ws:List Str} (h:badB ws=true):Bad ws:=by
 unfold badB at h;simp only [cY,je,Bool.and_eq_false_iff,Option.isNone_iff_eq_none,decide_eq_false_iff_not] at h;obtain ⟨⟨⟨⟨⟨⟨h1,h2⟩,h3⟩,h4⟩,h5⟩,h6⟩,h7⟩:=h;refine ⟨h1,h2,fun z w hw=>?_,h4,h5,h6,fun r e l1 l2=>?_⟩
 ·rcases h3 with h3 | h3
  ·rw [z] at h3
   cases h3
  ·rw [hw] at h3;exact uk.mp (by
    intro y;have h3:(gK w (-(10 ^ 15)) (10 ^ 15)).isSome=false:=h3;rw [y] at h3
    cases h3)
 ·subst e
  rcases h7 with ((h7 | h7) | h7) | h7
  ·exact absurd rfl h7
  ·exact uk.mp (by
    intro y;have h7:(nA 0 (10 ^ 15) r).isSome=false:=h7;rw [y] at h7
    cases h7)
  ·exact absurd l1 h7
  ·exact absurd l2 h7
theorem bad0 {r:List Str}:Bad (("":Str) :: r):=by
 have n:∀ (k:Str) (m:Nat),k≠""->nm2 (("":Str) :: r) k m=false:=fun k m h=>by
  unfold nm2;rw [show (("":Str) :: r)[0]?=some ("":Str) from rfl,decide_eq_false (fun z:some ("":Str)=some k=>h (bC z).symm),gT,oi]
 refine ⟨?_,fun z=>absurd (aV z).1 (by decide),fun z=>?_,n _ _ (by decide),n _ _ (by decide),n _ _ (by decide),fun r e=>absurd (aV e).1 (by decide)⟩
 ·rw [pV,if_neg (by decide),if_neg (by decide),if_neg (by decide),if_neg (by decide),if_neg (by decide)]
 ·rw [n _ _ (by decide)] at z
  cases z
theorem named_no {L:List Str} {j d m:Nat} {k:Str} {names:List Str} (h:nm2 (cH L j d) k m=false):ek L j d k m names=none:=by
 unfold ek;rw [if_neg];rintro ⟨h1,h2,h3⟩;unfold nm2 at h;rw [decide_eq_true h1,decide_eq_true h2] at h
 cases e:(cH L j d)[1]? with
 | none=>rw [e] at h3; cases h3
 | some w =>
  rw [e] at h h3;have h:dW w=false:=h;have h3:(dW w && !decide (w∈names))=true:=h3;rw [h] at h3
  cases h3
theorem stop_bx {L:List Str} {n j:Nat} {acc:List (Str×Int)} (h:Bad (cH L j 1)):fk L n j acc=(acc,j):=by
 cases n with
 | zero=>rfl
 | succ n =>
  rw [fk]
  by_cases c:nm2 (cH L j 1) "box" 3=true
  ·cases e:ek L j 1 "box" 3 (acc.map (·.1)) with
   | none=>rfl
   | some ws =>
    obtain ⟨l,e2,_⟩:=ph e;subst e2;have hb:=h.bx c;generalize cH L j 1=ws at l hb;obtain ⟨a,b,d,rfl⟩:∃ a b d,ws=[a,b,d]:=by
     match ws,l with
     | [a,b,d],_=>exact ⟨a,b,d,rfl⟩
    dsimp only;rw [hb d rfl]
  ·rw [named_no (by simpa using c)]
theorem stop_qs {L names:List Str} {n j:Nat} {acc:List Str} (h:ek L j 1 "queue" 2 (names++acc)=none):gg L names n j acc=(acc,j):=by
 cases n with
 | zero=>rfl
 | succ n=>rw [gg,h]
theorem stop_hr {L:List Str} {n j:Nat} {acc:List (Str×List De)} (h:ek L j 1 "on" 2 (acc.map (·.1))=none):jy L n j acc=.ok (acc,j):=by
 cases n with
 | zero=>rfl
 | succ n=>rw [jy,h]
theorem stop_mo {L:List Str} {n j:Nat} {acc:List Mo} (h:ek L j 0 "machine" 2 (acc.map (·.nm))=none):lL L n j acc=.ok (acc,j):=by
 cases n with
 | zero=>rfl
 | succ n=>rw [lL,h]
theorem stop_dr {L:List Str} {j:Nat} (h:Bad (cH L j 1)):jj L j=([],j):=by
 have hd:=h.dr;unfold jj;generalize cH L j 1=ws at hd
 cases ws with
 | nil=>rfl
 | cons w r =>
  dsimp only
  by_cases c:w="draws"/\1<=r.length/\r.length<=20
  ·obtain ⟨rfl,l1,l2⟩:=c;rw [if_pos ⟨rfl,l1,l2⟩,hd r rfl l1 l2]
  ·rw [if_neg c]
def bl (m:Nat):Str:=⟨(aJ m 32).toArray⟩
theorem bl_list (m:Nat):(bl m).cps.toList=aJ m 32:=rfl
structure WX (ws:List Str):Prop where
 ne:ws≠[]
 ok:∀ w∈ws,32∉w.cps.toList/\(∀ c∈w.cps.toList,c < 128)/\w.length<=17/\10∉w.cps.toList
 many:ws.length<=60
 hd:(jn ws).cps.toList.head?≠some 32
theorem ln_bl (e:Nat) (ws:List Str):ln e ws=bl (2 * e)++jn ws:=by
 unfold ln
 congr 1
 exact iI (eT.mp (by rw [fg]; rfl))
theorem bl_app (a b:Nat):bl a++bl b=bl (a + b):=iI (eT.mp (by rw [d9,bl_list,bl_list,bl_list,kU]))
theorem words_bl {L:List Str} {i m d:Nat} {ws:List Str} (h:L[i]?=some (bl m++jn ws)) (g:WX ws) (l:2 * d<=m):cH L i d=aJ (m - 2 * d) ("":Str)++ws:=by
 refine B7 ?_ (by simp [g.ne]) fun w m=>?_
 ·rw [h]
  congr 1
  apply iI;apply eT.mp;rw [d9,d9,EA g.ne,fg,bl_list,<- aS,kU,show 2 * d + (m - 2 * d)=m by omega]
 ·rcases aN.mp m with m | m
  ·rw [(oC.mp m).2];decide
  ·exact (g.ok w m).1
theorem words_bl0 {L:List Str} {i m d:Nat} {ws:List Str} (h:L[i]?=some (bl m++jn ws)) (g:WX ws) (l:m < 2 * d):cH L i d=[("":Str)]:=by
 unfold cH;rw [h];dsimp only;rw [yc,decide_eq_false,if_neg (by decide)];intro z;have lq:=jJ d;rw [d9,lq,fg,bl_list] at z;have z2:=congrArg (fun l=>l[m]?) z;rw [eK (by omega),cG (by rw [cU]; exact ay _),cU,iV,gq,if_pos (by omega),<- zA] at z2;exact g.hd z2
theorem words_bad {L:List Str} {i m d:Nat} {ws:List Str} (h:L[i]?=some (bl m++jn ws)) (g:WX ws) (l:m≠2 * d):Bad (cH L i d):=by
 by_cases c:2 * d<=m
 ·rw [words_bl h g c];obtain ⟨k,e⟩:∃ k,m - 2 * d=k + 1:=⟨m - 2 * d - 1,by omega⟩;rw [e,da];exact bad0
 ·rw [words_bl0 h g (by omega)];exact bad0
def LX (x:Str):Prop:=∃ m ws,x=bl m++jn ws/\WX ws/\m<=30
theorem LX.nl {x:Str} (h:LX x):10∉x.cps.toList:=by
 obtain ⟨m,ws,rfl,g,_⟩:=h;rw [d9,bl_list];intro z
 rcases aN.mp z with z | z
 ·have:=(oC.mp z).2;omega
 ·exact Ez (fun w mw=>(g.ok w mw).2.2.2) z
theorem LX.len {x:Str} (h:LX x):x.length<=2000:=by
 obtain ⟨m,ws,rfl,g,m3⟩:=h;have h1:=kg " " ws;have h2:=vq (z:=" ") fun x hx=>(g.ok x hx).2.2.1;have h3:(" ":Str).length=1:=by decide
 rw [h3] at h2;have:=g.many;have h4:(jn ws).length<=ws.length * (17 + 1):=bN h1 h2;have h5:(bl m).length=m:=by show (aJ m 32).toArray.size=m; simp
 rw [bf,h5];omega
theorem lok_x {L:List Str} (h:∀ x∈L,LX x) (many:L.length<=20000):LOk L:=by
 refine ⟨fun x m=>bN (h x m).len (by decide),many,fun i d _=>?_⟩;have one:WOk [("":Str)]:=⟨by simp,by decide,fun w m=>by rw [au.mp m]; exact Bf⟩
 cases q:L[i]? with
 | none =>
  have:cH L i d=[("":Str)]:=by
   unfold cH;rw [q]
  rw [this];exact one
 | some x =>
  obtain ⟨e,ws,rfl,g,m3⟩:=h x (bw q)
  by_cases c:2 * d<=e
  ·rw [words_bl q g c];refine ⟨by simp [g.ne],by rw [af,cU]; have:=g.many; omega,fun w m=>?_⟩
   rcases aN.mp m with m | m
   ·rw [(oC.mp m).2];exact Bf
   ·have:=g.ok w m;exact ⟨this.2.1,by omega⟩
  ·rw [words_bl0 q g (by omega)];exact one
theorem LG.wx {e:Nat} {ws:List Str} (h:GL ws) (n:∀ w∈ws,10∉w.cps.toList):WX ws:=by
 refine ⟨h.ne,fun w m=>⟨(h.ok w m).1,(h.ok w m).2.1,(h.ok w m).2.2,n w m⟩,h.many,?_⟩;obtain ⟨a,t,e,na⟩:=h.head;rw [e];exact fun z=>na (bC z)
theorem LG.x {x:Str} (h:LG x):LX x:=by
 obtain ⟨e,ws,rfl,g,e7,n⟩:=h;exact ⟨2 * e,ws,ln_bl e ws,LG.wx (e:=e) g n,by omega⟩
theorem lx_lines {ls:List Str} (lg:∀ x∈ls,LX x) (ne:ls≠[("":Str)]):linesOf (cq "\n" ls)=ls:=vH ne fun x m=>(lg x m).nl
def In1 (M:Mo) (ws:List Str):Prop:=(∃ b∈M.bx,ws=[("box":Str),b.1,nt b.2])\/(∃ q∈M.qs,ws=[("queue":Str),q])\/(M.dr≠[]/\ws=("draws":Str) :: M.dr.map nt)\/∃ h∈M.hr,ws=[("on":Str),h.1]
theorem in_ma {M:Mo} (ok:OkM M) {e:Nat} {ws:List Str} (g:GL ws) (m:ln e ws∈lsM M):(e=0/\ws=[("machine":Str),M.nm])\/(e=1/\In1 M ws)\/(2<=e/\M.hr≠[]):=by
 rcases ar.mp m with z | m
 ·exact .inl (ln_inj g (pY ok.nm) z)
 unfold mj at m
 rcases aN.mp m with m | m
 ·obtain ⟨b,mb,z⟩:=cu.mp m;obtain ⟨h1,h2⟩:=ok.bx b mb;obtain ⟨rfl,rfl⟩:=ln_inj (iN (by decide) (fun u m=>by
   rcases ar.mp m with rfl | m
   ·exact fV h1
   ·rw [au.mp m]; exact jC h2) (by show 2<=59; decide)) g z
  exact .inr (.inl ⟨rfl,.inl ⟨b,mb,rfl⟩⟩)
 rcases aN.mp m with m | m
 ·obtain ⟨b,mb,z⟩:=cu.mp m;obtain ⟨rfl,rfl⟩:=ln_inj (iN (by decide) (fun u m=>by rw [au.mp m]; exact fV (ok.qs b mb)) (by show 1<=59; decide)) g z;exact .inr (.inl ⟨rfl,.inr (.inl ⟨b,mb,rfl⟩)⟩)
 rcases aN.mp m with m | m
 ·unfold drL at m
  split at m
  ·cases m
  ·rename_i nd
   obtain ⟨rfl,rfl⟩:=ln_inj g (iN (by decide) (fun u m=>by
    obtain ⟨z,mz,rfl⟩:=cu.mp m;exact jC (ok.dr z mz).1) (by rw [aa]; have:=ok.d20; omega)) (au.mp m)
   exact .inr (.inl ⟨rfl,.inr (.inr (.inl ⟨nd,rfl⟩))⟩)
 ·obtain ⟨ys,my,mx⟩:=gN.mp m;obtain ⟨h,mh,rfl⟩:=cu.mp my;obtain ⟨o1,o2,_⟩:=ok.hr h mh
  rcases ar.mp mx with z | mx
  ·obtain ⟨rfl,rfl⟩:=ln_inj g (rB o1) z;exact .inr (.inl ⟨rfl,.inr (.inr (.inr ⟨h,mh,rfl⟩))⟩)
  ·obtain ⟨zs,mz,mx⟩:=gN.mp mx;obtain ⟨d,md,rfl⟩:=cu.mp mz;obtain ⟨e',us,z,g',l⟩:=lsD_deep (o2 d md) _ mx;obtain ⟨rfl,_⟩:=ln_inj g g' z;exact .inr (.inr ⟨l,fun y=>by rw [y] at mh; cases mh⟩)
theorem last_in {xs:List Mo} {A:List Str} {ks:List Nat} (e:(xs.map lsM).flatten=A++elseL ks) (ok:∀ M∈xs,OkM M) (ne:A≠[]):∃ M p,xs.getLast?=some M/\M∈xs/\p < A.length/\A[p]?=some (ln 0 ["machine",M.nm])/\∀ i x,p<=i->A[i]?=some x->x∈lsM M:=by
 obtain ⟨ini,M,rfl⟩:∃ ini M,xs=ini++[M]:=by
  rcases List.eq_nil_or_concat xs with z | ⟨l,a,z⟩
  ·rw [z] at e;exact absurd (gI.mp e.symm).1 ne
  ·exact ⟨l,a,by rw [z,List.concat_eq_append]⟩
 have e2:(ini.map lsM).flatten++lsM M=A++elseL ks:=by
  rw [<- e,bA,List.flatten_append];simp
 have oM:=ok M (by simp);have pl:(ini.map lsM).flatten.length < A.length:=by
  rcases app_cut e2 with ⟨r,e3,e4⟩ | ⟨y,r,e3,e4⟩
  ·cases r with
   | nil=>cases ks with
    | nil=>cases e4
    | cons k ks=>exact (hw_ma (aV e4).1 oM.nm).elim
   | cons a r =>
    rw [e3,af,aG];omega
  ·have e4':elseL ks=(y :: r)++lsM M:=e4;obtain ⟨o1,o2,_,_,e5⟩:=els_cut e4'
   cases o2 with
   | nil=>cases e5
   | cons k o2=>exact (hw_ma (aV e5).1 oM.nm).elim
 have at_:∀ i x,(ini.map lsM).flatten.length<=i->A[i]?=some x->(lsM M)[i - (ini.map lsM).flatten.length]?=some x:=fun i x h hx=>by
  have il:=(bg.mp hx).1;have:=congrArg (fun l=>l[i]?) e2;rw [dw il,hx,cG h] at this;exact this
 refine ⟨M,_,by simp,by simp,pl,?_,fun i x h hx=>bw (at_ i x h hx)⟩;have:=at_ _ _ (ay _) (aL pl);rw [iV] at this;rw [aL pl,<- this];rfl
structure Beg (ms:List Mo) (k:Nat) (xs:List Mo) (ks:List Nat):Prop where
 nd:(xs.map (·.nm)).Nodup
 l6:xs.length<=6
 ok:∀ M∈xs,OkM M
 e:(xs.map lsM).flatten=(ms.map lsM).flatten.take k++elseL ks
theorem beg_of {ms:List Mo} {k:Nat} (ok:∀ M∈ms,OkM M) (l:k<=(ms.map lsM).flatten.length) (nd:(ms.map (·.nm)).Nodup) (l6:ms.length<=6):∃ xs ks,Beg ms k xs ks:=by
 obtain ⟨xs,os,h1,h2,h3,h4,h5⟩:=cut_ms ms k ok l;exact ⟨xs,os,ff h1 nd,bN h2 l6,h3,h4⟩
theorem named_in {L:List Str} {j d m:Nat} {k n:Str} {r names:List Str} (h:cH L j d=k :: n :: r) (i:n∈names):ek L j d k m names=none:=by
 unfold ek;rw [if_neg];rintro ⟨_,_,z⟩;rw [h] at z;have z:(dW n && !decide (n∈names))=true:=z;rw [decide_eq_true i,IC,gT] at z
 cases z
section
variable {L A B:List Str} {xs:List Mo} {ks:List Nat} {x:Str} {M:Mo}
theorem ref_bad (e:(xs.map lsM).flatten=A++elseL ks) (eL:L=A++x :: B) (l:xs.length<=6) (ok:∀ M∈xs,OkM M) (nd:(xs.map (·.nm)).Nodup) (b:∀ q,(q<=1\/Prv L A.length (q - 1))->Bad (cH L A.length q)):rdM L=.error (A.length + 1):=by
 have b0:=b 0 (.inl (by omega));have b1:=b 1 (.inl (by omega));exact st_ok e eL l ok nd (fun q _ p=>⟨(b q (.inr p)).de,(b q (.inr p)).el⟩) (fun M _=>⟨fun _ _ _ _=>stop_bx b1,fun _ _ _=>stop_qs (named_no b1.qu),fun _ _=>stop_dr b1,fun _=>stop_hr (named_no b1.on)⟩) (fun _=>stop_mo (named_no b0.ma))
theorem ref_one (e:(xs.map lsM).flatten=A++elseL ks) (eL:L=A++x :: B) (l:xs.length<=6) (ok:∀ M∈xs,OkM M) (nd:(xs.map (·.nm)).Nodup) {w:Str} {r:List Str} (g:WX (w :: r)) (ex:x=bl 2++jn (w :: r)) (hM:xs.getLast?=some M)
  (c:(M.hr≠[]/\w≠"on")\/(M.dr≠[]/\w≠"on")\/(w="box"/\∃ n t,r=n :: t/\n∈M.bx.map (·.1))\/(w="queue"/\∃ n t,r=n :: t/\n∈M.bx.map (·.1)++M.qs)\/(w="on"/\∃ n t,r=n :: t/\n∈M.hr.map (·.1))):rdM L=.error (A.length + 1):=by
 have hx:L[A.length]?=some (bl 2++jn (w :: r)):=by
  rw [eL,cG (ay _),iV,<- ex];rfl
 have w1:cH L A.length 1=w :: r:=words_bl hx g (by omega);have b0:Bad (cH L A.length 0):=words_bad hx g (by omega);have no:∀ {k:Str} {m:Nat} {names:List Str},w≠k->ek L A.length 1 k m names=none:=fun h=>qX w1 h;refine st_ok e eL l ok nd (fun q h _=>⟨(words_bad hx g (by omega)).de,(words_bad hx g (by omega)).el⟩) (fun X hX=>?_) (fun _=>stop_mo (named_no b0.ma));have eX:X=M:=by
  rw [hM] at hX;exact (bC hX).symm
 subst eX;have sb:w≠"box"->∀ n acc,fk L n A.length acc=(acc,A.length):=fun h n acc=>Bd ⟨w,r,w1,by simpa using h⟩;have sd:w≠"draws"->jj L A.length=([],A.length):=fun h=>Ax ⟨w,r,w1,by simpa using h⟩
 rcases c with ⟨h1,h2⟩ | ⟨h1,h2⟩ | ⟨rfl,n,t,rfl,h⟩ | ⟨rfl,n,t,rfl,h⟩ | ⟨rfl,n,t,rfl,h⟩
 ·exact ⟨fun _ _ z=>absurd z h1,fun _ z=>absurd z h1,fun _ z=>absurd z h1,fun _=>stop_hr (no h2)⟩
 ·exact ⟨fun _ z _=>absurd z h1,fun z _=>absurd z h1,fun z _=>absurd z h1,fun _=>stop_hr (no h2)⟩
 ·refine ⟨fun _ _ _ n=>?_,fun _ _ _=>stop_qs (no (by decide)),fun _ _=>sd (by decide),fun _=>stop_hr (no (by decide))⟩
  cases n with
  | zero=>rfl
  | succ n=>rw [fk,named_in w1 h]
 ·exact ⟨fun _ _ _ n=>sb (by decide) n _,fun _ _ _=>stop_qs (named_in w1 h),fun _ _=>sd (by decide),fun _=>stop_hr (no (by decide))⟩
 ·exact ⟨fun _ _ _ n=>sb (by decide) n _,fun _ _ _=>stop_qs (no (by decide)),fun _ _=>sd (by decide),fun _=>stop_hr (named_in w1 h)⟩
theorem ref_mac (e:(xs.map lsM).flatten=A++elseL ks) (eL:L=A++x :: B) (l:xs.length<=6) (ok:∀ M∈xs,OkM M) (nd:(xs.map (·.nm)).Nodup) {n:Str} (g:WX [("machine":Str),n]) (ex:x=bl 0++jn ["machine",n]) (h:n∈xs.map (·.nm)):rdM L=.error (A.length + 1):=by
 have hx:L[A.length]?=some (bl 0++jn ["machine",n]):=by
  rw [eL,cG (ay _),iV,<- ex];rfl
 have w0:cH L A.length 0=[("machine":Str),n]:=words_bl hx g (by omega);have b1:Bad (cH L A.length 1):=words_bad hx g (by omega);exact st_ok e eL l ok nd (fun q h _=>⟨(words_bad hx g (by omega)).de,(words_bad hx g (by omega)).el⟩) (fun M _=>⟨fun _ _ _ _=>stop_bx b1,fun _ _ _=>stop_qs (named_no b1.qu),fun _ _=>stop_dr b1,fun _=>stop_hr (named_no b1.on)⟩) (fun _=>stop_mo (named_in w0 h))
end
def odds:List Str:=(["","machine","machine A","machine abcdefg","machine a b","machine ","box","box a"]:List Str)++(["box a 1 2","box a 01","box A 1","box a -0","box a 1000000000000001","queue"]:List Str)++(["queue a b","queue a1","draws","draws -1","draws x","draws 1  2"]:List Str)++(["draws 1000000000000001","draws 1 ","on","on a b","on A","put a","put a 1 2"]:List Str)++(["put a +","put A 1","put a .B","put 1 a","push a","push a + 1","draw a"]:List Str)++(["draw a + 1 2 3","send 0 a 0 1 1","send 6 a 0 1 1 1","send -1 a 0 1 1 1"]:List Str)++(["send 0 a 10 1 1 1","send 0 A 0 1 1 1","send 0 a 0 1 1 1 1","send a 0 0 1 1 1"]:List Str)++(["send 0 a 00 1 1 1","end end","end ","pull a","pull a b c","pull a B","if"]:List Str)++(["if + 1","if 1 1","else else","Else","skip","put a  1","put a 1 ","if 1  "]:List Str)++(["then","put a same 1 1","put a $2"]:List Str)
def wxB (ws:List Str):Bool:=!ws.isEmpty && decide (ws.length<=60) && (ws.all fun w=>decide (32∉w.cps.toList) && (w.cps.toList.all fun c=>decide (c < 128)) && decide (w.length<=17) && decide (10∉w.cps.toList)) && !decide ((jn ws).cps.toList.head?=some 32)
theorem wx_of {ws:List Str} (h:wxB ws=true):WX ws:=by
 unfold wxB at h;simp only [cY,decide_eq_true_eq,iA,je,decide_eq_false_iff_not] at h;obtain ⟨⟨⟨h1,h2⟩,h3⟩,h4⟩:=h;exact ⟨(fun z=>by rw [z] at h1; cases h1),fun w m=>⟨(h3 w m).1.1.1,fun c mc=>(h3 w m).1.1.2 c mc,(h3 w m).1.2,(h3 w m).2⟩,h2,h4⟩
def oddB (x:Str):Bool:=decide (jn (hZ x " ")=x) && badB (hZ x " ") && wxB (hZ x " ")
theorem odds_ok:odds.all oddB=true:=by decide +kernel
def three:List Str:=["  box zzzzzz 1","  queue zzzzzz","  draws 1"]
theorem three_ok:∀ x∈three,∃ w r,x=bl 2++jn (w :: r)/\wxB (w :: r)=true/\w≠"on":=by
 intro x m;simp only [three,ar,uE,or_false] at m
 rcases m with rfl | rfl | rfl
 ·exact ⟨"box",["zzzzzz","1"],by decide +kernel,by decide +kernel,by decide⟩
 ·exact ⟨"queue",["zzzzzz"],by decide +kernel,by decide +kernel,by decide⟩
 ·exact ⟨"draws",["1"],by decide +kernel,by decide +kernel,by decide⟩
inductive Sg (L:List Str) (e:Nat) (ws:List Str):Str->Prop
 | odd {m:Nat} {us:List Str}:Bad us->WX us->m<=7->Sg L e ws (bl (2 * m)++jn us)
 | blank {e':Nat} {us:List Str}:ln e' us∈L->GL us->Sg L e ws (bl (2 * e' + 1)++jn us)
 | deep {e':Nat} {us:List Str}:ln e' us∈L->GL us->Sg L e ws (bl (2 * e + 4)++jn us)
 | low {x:Str}:2<=e\/ws.head?=some ("on":Str)->x∈three->Sg L e ws x
 | again:e=0\/(e=1/\ws.head?≠some ("on":Str))->Sg L e ws (ln e ws)
theorem lg_at {e:Nat} {us:List Str} (h:LG (ln e us)) (g:GL us):WX us/\e<=7:=by
 obtain ⟨e',ws,z,g',e7,n⟩:=h;obtain ⟨rfl,rfl⟩:=ln_inj g g' z;exact ⟨LG.wx (e:=e) g n,e7⟩
theorem Sg.lx {L:List Str} {e:Nat} {ws:List Str} {x:Str} (h:Sg L e ws x) (lg:∀ x∈L,LG x) (m:ln e ws∈L) (g:GL ws):LX x:=by
 cases h with
 | odd h1 h2 h3=>exact ⟨_,_,rfl,h2,by omega⟩
 | blank h1 h2=>obtain ⟨a,b⟩:=lg_at (lg _ h1) h2; exact ⟨_,_,rfl,a,by omega⟩
 | deep h1 h2=>obtain ⟨a,_⟩:=lg_at (lg _ h1) h2; obtain ⟨_,b⟩:=lg_at (lg _ m) g; exact ⟨_,_,rfl,a,by omega⟩
 | low h1 h2=>obtain ⟨w,r,e,k,_⟩:=three_ok _ h2; exact ⟨2,_,e,wx_of k,by omega⟩
 | again h1=>exact LG.x (lg _ m)
theorem prv_eq {L:List Str} {j e q:Nat} {ws:List Str} (h:L[j - 1]?=some (ln e ws)) (g:GL ws) (p:Prv L j q):q<=e:=by
 obtain ⟨e',us,_,h1,h2,h3⟩:=p;rw [h] at h1;rw [(ln_inj g h2 (bC h1)).1];exact h3
theorem sg_ref {ms xs:List Mo} {k e:Nat} {ks:List Nat} {ws:List Str} {x:Str} (lg:∀ y∈(ms.map lsM).flatten,LG y) (b:Beg ms (k + 1) xs ks) (he:(ms.map lsM).flatten[k]?=some (ln e ws)) (g:GL ws) (h:Sg (ms.map lsM).flatten e ws x):rdM ((ms.map lsM).flatten.take (k + 1)++x :: (ms.map lsM).flatten.drop (k + 1))=.error (k + 2):=by
 have hl:=(bg.mp he).1;obtain ⟨nd,l6,ok,be⟩:=b;generalize (ms.map lsM).flatten=L at *;have lA:(L.take (k + 1)).length=k + 1:=by rw [bP]; omega
 have hA:(L.take (k + 1))[k]?=some (ln e ws):=by rw [eK (by omega)]; exact he
 have hne:L.take (k + 1)≠[]:=fun z=>by rw [z] at lA; cases lA
 obtain ⟨M,p,hM,mM,pl,hp,pin⟩:=last_in be ok hne;have inM:=pin k _ (by omega) hA;have oM:=ok M mM;have hm:ln e ws∈L:=bw he;obtain ⟨wx,_⟩:=lg_at (lg _ hm) g;rw [show k + 2=(L.take (k + 1)).length + 1 by omega];have hx:∀ y,(L.take (k + 1)++y :: L.drop (k + 1))[(L.take (k + 1)).length]?=some y:=fun y=>by
  rw [cG (ay _),iV];rfl
 have hq:∀ y,(L.take (k + 1)++y :: L.drop (k + 1))[(L.take (k + 1)).length - 1]?=some (ln e ws):=fun y=>by
  rw [dw (by omega),lA];exact hA
 cases h with
 | @odd m us h1 h2 h3 =>
  refine ref_bad be rfl l6 ok nd fun q _=>?_
  by_cases c:m=q
  ·subst c;rw [words_bl (hx _) h2 (ay _),iV];exact h1
  ·exact words_bad (hx _) h2 (by omega)
 | @blank e' us h1 h2=>exact ref_bad be rfl l6 ok nd fun q _=>words_bad (hx _) (lg_at (lg _ h1) h2).1 (by omega)
 | @deep e' us h1 h2 =>
  refine ref_bad be rfl l6 ok nd fun q c=>words_bad (hx _) (lg_at (lg _ h1) h2).1 ?_
  rcases c with c | c
  ·omega
  ·have:=prv_eq (hq _) g c;omega
 | low h1 h2 =>
  obtain ⟨w,r,ex,kx,no⟩:=three_ok _ h2;refine ref_one be rfl l6 ok nd (wx_of kx) ex hM (.inl ⟨?_,no⟩)
  rcases in_ma oM g inM with ⟨rfl,rfl⟩ | ⟨rfl,i1⟩ | ⟨_,i2⟩
  ·rcases h1 with h1 | h1
   ·omega
   ·cases h1
  ·rcases h1 with h1 | h1
   ·omega
   ·rcases i1 with ⟨b,_,rfl⟩ | ⟨q,_,rfl⟩ | ⟨_,rfl⟩ | ⟨y,my,rfl⟩
    ·cases h1
    ·cases h1
    ·exact absurd (bC h1) (by decide)
    ·exact fun z=>by rw [z] at my; cases my
  ·exact i2
 | again h1 =>
  rcases in_ma oM g inM with ⟨rfl,rfl⟩ | ⟨rfl,i1⟩ | ⟨h2,_⟩
  ·exact ref_mac be rfl l6 ok nd wx (ln_bl 0 _) (gE mM)
  ·rcases h1 with h1 | ⟨_,h1⟩
   ·cases h1
   rcases i1 with ⟨b,mb,rfl⟩ | ⟨q,mq,rfl⟩ | ⟨nd',rfl⟩ | ⟨y,my,rfl⟩
   ·exact ref_one be rfl l6 ok nd wx (ln_bl 1 _) hM (.inr (.inr (.inl ⟨rfl,_,_,rfl,gE mb⟩)))
   ·exact ref_one be rfl l6 ok nd wx (ln_bl 1 _) hM (.inr (.inr (.inr (.inl ⟨rfl,_,_,rfl,aP _ mq⟩))))
   ·exact ref_one be rfl l6 ok nd wx (ln_bl 1 _) hM (.inr (.inl ⟨nd',by decide⟩))
   ·exact absurd rfl h1
  ·omega
theorem tw_ref {ms xs:List Mo} {k:Nat} {ks:List Nat} {w n:Str} (b:Beg ms (k + 1) xs ks) (hl:k < (ms.map lsM).flatten.length) (g:WX [w,n])
  (c:∀ M∈xs,xs.getLast?=some M->(w="queue"/\n∈M.bx.map (·.1)++M.qs)\/(w="on"/\n∈M.hr.map (·.1))):rdM ((ms.map lsM).flatten.take (k + 1)++(bl 2++jn [w,n]) :: (ms.map lsM).flatten.drop (k + 1))=.error (k + 2):=by
 obtain ⟨nd,l6,ok,be⟩:=b;generalize (ms.map lsM).flatten=L at *;have lA:(L.take (k + 1)).length=k + 1:=by rw [bP]; omega
 have hne:L.take (k + 1)≠[]:=fun z=>by rw [z] at lA; cases lA
 obtain ⟨M,p,hM,mM,_⟩:=last_in be ok hne;rw [show k + 2=(L.take (k + 1)).length + 1 by omega]
 rcases c M mM hM with ⟨rfl,h⟩ | ⟨rfl,h⟩
 ·exact ref_one be rfl l6 ok nd g rfl hM (.inr (.inr (.inr (.inl ⟨rfl,_,_,rfl,h⟩))))
 ·exact ref_one be rfl l6 ok nd g rfl hM (.inr (.inr (.inr (.inr ⟨rfl,_,_,rfl,h⟩))))
end My.Dr
namespace L2
open PySem PySem.Spec PyProof.Rows
section
variable {X:Cx}
theorem I0 (hu:X.A.units + 50 < ic):OpR X (dA .Eq) (fun x y H Q=>∃ p q xs,x=.ref p/\y=.ref q/\H p=some (.lst xs)/\H q=some (.lst [])/\Q (.bl xs.isEmpty) H):=by
 intro pins s σ H x y v u Q I rx ry h;obtain ⟨p,q,xs,rfl,rfl,h1,h2,k⟩:=h
 cases xs with
 | nil=>exact C8 hu pins s σ H _ _ v u Q I rx ry ⟨1,by decide,.inr (.inl ⟨p,q,[],[],rfl,rfl,h1,h2,.nil⟩),k⟩
 | cons a xs =>
  cases rx
  cases ry;obtain ⟨us,r1,i1⟩:=gZ I.hok h1;obtain ⟨vs,r2,i2⟩:=gZ I.hok h2
  cases r2;have hl:=r1.length;exact SeqAt.RcAt.lists_lengths i1 i2 (by
   cases us with
   | nil=>cases hl
   | cons b us=>simp) (by omega) X.prog X.w _ _ ⟨.bl false,H,I,rfl,k⟩
end
end L2
namespace My.Dr
open PySem L2
section
variable {P:aQ} {w:bT} {K:ai} {mg:Str->Option ag} {base:cP} {f fLl:ak} {fd fdLl:cF}
seal PS PSs PE PA PT PW PI PG PGs PC PSC PSsC PEC PTC PAC PPs
abbrev nFe:List Str:=["_law_machines_here","_law_few_here","_law_machine_here"]
abbrev pFe:List Str:=["_law_machines_here"]
theorem scFe:cK nFe pFe (aZ qV):={}
abbrev txt (Ms:List Mc):Str:=cq "\n" (Ms.flatMap Mc.lines)
inductive spFeI (vs:List V) (H:Hp) (Q:VK) (_e:XK):Prop where
 | mk (l:ak) (ms:List V) (Ms:List Mc) (_:vs=[.ref l]) (_:H l=some (.lst ms)) (_:MsIn H Ms ms) (_:Ms.length<=6) (_:∀ (m:ak) (us:List V) (Mt:List Mc) (H':Hp),cO H H'->H' m=some (.lst us)->MsIn H' Mt us->Mt.Sublist Ms->(txt Mt).length<=9000->Q (.ref m) H'):spFeI vs H Q _e
def spFe:Sp:=fun vs H Q _e=>spFeI vs H Q _e
theorem ok_fe (D:Df K mg "_law_few" qV pFe f fd) (DLl:Df K mg "_law_lines" jQ pLl fLl fdLl) (GLl:cW P w K mg base CX0 28 fLl fdLl pLl spLl) (B:Bl mg):cW P w K mg base CX0 29 f fd pFe spFe:=by
 refine D.F.ok scFe (fun vs H Q E h=>?_) (fun cdv A outer s H vs Q E r28 h=>?_)
 ·obtain ⟨l,ms,Ms,rfl,_⟩:=h;rfl
 obtain ⟨l,ms,Ms,rfl,hl,hMs,l6,q⟩:=h;refine ⟨_,aE (bJ (i:=1) scFe.nd rfl (Or.inl rfl) (cA aj))
  (aE (mK c8 rfl (gx (pv 0)) (df (i:=2) scFe.nd rfl (Or.inl rfl)) (aO (du (bh om (cR fA (by rfl) B.len bE (iM (gJ bK fu fv pO aB (iM (br GLl r28 (by rfl) DLl.m DLl.F.kp DLl.b .nil bM (hU (bI e9 (pv 1) (cA (bD (pv 2) aj))) aj)) aj)) aj)) aq (bR _)) (aO (fZ (gJ bZ cB cC fw (pv 1) (bD (pv 2) aj)))) bX)))
  (aO (bO (pv 1)))),?_⟩
 have big:10000 < aw:=by decide
 refine aH (bW ⟨aU _,fun m hm=>aF ?_⟩);dsimp only;have sm:=ax hm (.lst []);refine aH ⟨_,rfl,l,rfl,⟨ms,SqL.of (sm _ _ hl)⟩,kX (xs:=ms) (fun i σ G=>∃ (us:List V) (Mt:List Mc) (v2:Option V),σ=[some (.ref l),some (.ref m),v2]/\i<=ms.length/\cO H G/\G m=some (.lst us)/\MsIn H Mt us/\Mt.Sublist (Ms.take i)/\(txt Mt).length<=9000) ⟨[],[],none,rfl,aU _,sm,ao,.nil,jE _,aU _⟩ ?_ ?_ ?_⟩
 ·rintro i σ G hi ⟨us,Mt,v2,rfl,_,sg,_⟩;exact SqL.of (sg _ _ hl)
 ·rintro i u σ G hu ⟨us,Mt,v2,rfl,hi,sg,hG,pM,sub,lt⟩;obtain ⟨M,hx,hM,ok⟩:=iw hMs hu;have il:i < ms.length:=(bg.mp hu).1;have lM:=sub.length_le;rw [bP,paired_len hMs] at lM;have lms:=paired_len hMs;have lus:=paired_len pM;have l6':(Mt++[M]).length<=6:=by rw [af]; show _ + 1<=6; omega
  have sub':(Mt++[M]).Sublist (Ms.take (i + 1)):=by
   rw [dS,hx];exact sub.append (jE _)
  have subl:Mt.Sublist (Ms.take (i + 1)):=by
   rw [dS,hx];exact sub.trans (List.sublist_append_left _ _)
  refine aF ?_;dsimp only;refine ⟨rfl,_,rfl,_,rfl,⟨by show 1<=aw; omega,fun l4 hl4=>?_⟩⟩;have s4:=ax hl4 (.lst [u]);refine ⟨m,l4,_,_,rfl,rfl,s4 _ _ hG,ao,by show _ + 1<=_; omega,fun m5 hm5=>?_⟩;have s5:=(sg.trans s4).trans (ax hm5 (.lst (us++[u])));have s45:=s4.trans (ax hm5 (.lst (us++[u])));have pM5:MsIn (upd (upd G l4 (.lst [u])) m5 (.lst (us++[u]))) (Mt++[M]) (us++[u]):=paired_imp (psnoc pM ⟨hM,ok⟩) fun _ _ h=>⟨h.1.same s5,h.2⟩;obtain ⟨b1,b2⟩:=ms_bound pM5 l6';refine ⟨m5,_,_,rfl,ao,pM5,l6',fun m6 G6 hm6 h6 s6=>⟨_,m6,_,rfl,rfl,.inl (SqL.of h6),b2,?_⟩⟩;have hG6:=s6 _ _ (s45 _ _ hG);have s06:=s5.trans s6;refine ⟨_,rfl,bN (kg _ _) b2,_,_,rfl,rfl,_,rfl,E3 (fun c=>?_) (fun _=>?_)⟩
  ·have c:=GJ c;refine ⟨_,rfl,.inl ⟨rfl,_,SqL.of hG6⟩,_,rfl,m,us,u,rfl,rfl,hG6,by omega,?_⟩;refine ⟨us++[u],Mt++[M],_,rfl,il,qL s06 hm,ao,psnoc pM ⟨hM,ok⟩,sub',?_⟩;have c':((txt (Mt++[M])).length:Int) < 9000:=c;omega
  ·exact ⟨us,Mt,_,rfl,il,s06,hG6,pM,subl,lt⟩
 ·rintro σ G ⟨us,Mt,v2,rfl,hi,sg,hG,pM,sub,lt⟩;rw [<- paired_len hMs,cD] at sub;exact ⟨_,rfl,q m us Mt G sg hG (paired_imp pM fun _ _ h=>⟨h.1.same sg,h.2⟩) sub lt⟩
end
end My.Dr
namespace L2
open PySem PySem.Spec PyProof.Rows
section
variable {X:Cx}
theorem mH:MtR X "str.lstrip" (fun x vs H Q=>∃ t z,x=.str t/\vs=[.str z]/\t.length<=aw/\Q (.str (wg t z)) H):=by
 intro pins s σ H x vs v us Q I rx rv h;obtain ⟨t,z,rfl,rfl,hl,q⟩:=h;obtain ⟨k,rfl⟩:=rx;obtain ⟨u,rfl,ru⟩:=rv.one;obtain ⟨k2,rfl⟩:=ru;exact call_gives F.slot_str_lstrip (mQ _ _ _) F.entry_str_lstrip (F.args_str_lstrip_2 _ _) (gives_str_lstrip_chars t z k k2) (post_val_or_made (fun _=>fits_stripped _ _ _ hl) fun t' k'=>⟨.str _,H,I.tok _,⟨t',rfl⟩,q⟩)
end
end L2
namespace My.Dr
open PySem L2
theorem str_of {x y:Str} (h:x.cps.toList=y.cps.toList):x=y:=iI (eT.mp h)
theorem take_rep {a:Nat} {t:List Nat} (na:a≠32):∀ m:Nat,((aJ m 32++a :: t).takeWhile (#[32]:Array Nat).contains).length=m
 | 0=>by
  rw [List.replicate_zero,jY,B8,if_neg]
  ·rfl
  ·simp [na]
 | m + 1=>by
  rw [da,lD,B8,if_pos (by simp),aG,take_rep na m]
theorem strip_ln {e:Nat} {ws:List Str} (g:GL ws):wg (ln e ws) " "=jn ws:=by
 obtain ⟨a,t,ha,na⟩:=g.head;have hb:(dD e).cps.toList=aJ (2 * e) 32:=fg e;have hx:(ln e ws).cps.toList=aJ (2 * e) 32++a :: t:=by
  unfold ln;rw [d9,hb,ha]
 have lo:PySem.stripLo (" ":Str).cps.contains true (ln e ws)=2 * e:=by
  show ((ln e ws).cps.toList.takeWhile (#[32]:Array Nat).contains).length=_;rw [hx,take_rep na]
 have ll:(ln e ws).length=2 * e + (jn ws).length:=by unfold ln; rw [bf,jJ]
 have st:Ge (" ":Str).cps.contains true false (ln e ws)=jn ws:=by
  unfold Ge;rw [lo];refine str_of ?_;show ((ln e ws).cps.extract (2 * e) (ln e ws).length).toList=_;rw [rj,ll];show ((ln e ws).cps.toList.drop (2 * e)).take (2 * e + (jn ws).length - 2 * e)=_;rw [zz,hx,List.drop_left' (by rw [cU]),<- ha,c7 (by exact zI cJ)]
 unfold wg Txt.stripBy
 split
 ·rename_i c
  unfold PySem.stripSame at c;rw [lo,cY,beq_iff_eq] at c;have e0:e=0:=by omega
  subst e0;refine str_of ?_;rw [hx,ha];rfl
 ·exact st
end My.Dr
namespace L2
open PySem PySem.Spec PyProof.Rows
section
variable {X:Cx}
end
end L2
namespace My
open PySem L2
structure Oth (K:ai) (mg:Str->Option ag) (C D' CFault CNoMark CNoModel CNoRoom CTooLate:ak):Prop where
 mF:mg "Fault"=some (.ref CFault)
 mN:mg "NoMark"=some (.ref CNoMark)
 mM:mg "NoModel"=some (.ref CNoModel)
 mR:mg "NoRoom"=some (.ref CNoRoom)
 mT:mg "TooLate"=some (.ref CTooLate)
 mE:mg "MomentError"=some (.ref D')
 no:vg K (.ref C) [.ref CFault,.ref CNoMark,.ref CNoModel,.ref CNoRoom,.ref CTooLate]=some false
 yes:mW K (.ref C) (.ref C)=some true
 ve:mW K (.ref C) (.type "ValueError")=some true
 ex:qD K (.ref C) (.ref D')=some true
end My
namespace My.Dr
open PySem L2
theorem pe_joinK {X:Cx} {o e:cI} {es:List cI} {to:TE} {t:TA} {apos cpos:Pos} (K:ai) (hK:X.K=K) (ho:PE X o to) (ha:PA X (e :: es) t) (hbase:iF o "join" X.env (dE o X.env)=dE o X.env:=by rfl)
  (hfew:((eR cpos (bB (e :: es) X.env)).all (fun x=>!x.1) && (pI cpos (jH [] X.env)).all (fun x=>x.1.isSome) && decide ((e :: es).length + ([]:List oW).length + (if ([]:List oW).isEmpty then 0 else 1) < 30))=true:=by rfl)
  (hline:(apos.endLine == cpos.line)=true:=by rfl) (hs:bB (e :: es) X.env=(false,dE e X.env) :: bB es X.env:=by rfl) (hplain:(eR cpos (bB es X.env)).any (·.1)=false:=by rfl) :
  PE X (.Call (.Attribute o "join" apos) (e :: es) [] cpos) (tBM K "str" (Gs K) to t):=by
 subst hK;exact gJ bK fu fv pO ho ha hbase hfew hline hs hplain
structure Rfd (ls:List Str) (n:Nat):Prop where
 rd:rdM (linesOf (cq "\n" ls))=.error n
 ok:LOk (linesOf (cq "\n" ls))
 js:jsz "\n" ls<=16777216
 jl:(cq "\n" ls).length<=100000
theorem cat_step {H G:Hp} {l:ak} {xs ys:List Str} {Q:VK} (s:cO H G) (h:G l=some (.lst (xs.map V.str))) (b:xs.length + ys.length<=1000) (k:∀ G' l',cO H G'->G' l'=some (.lst ((xs++ys).map V.str))->Q (.ref l') G'):(ys.map V.str).length<=aw/\∀ p,G p=none->CU (.ref l) (.ref p) (upd G p (.lst (ys.map V.str))) Q:=by
 have big:=dC;refine ⟨by rw [aa]; omega,fun p hp=>?_⟩;have s1:=ax hp (.lst (ys.map V.str));refine ⟨l,p,_,_,rfl,rfl,s1 _ _ h,ao,by rw [aa,aa]; omega,fun p2 hp2=>k _ _ ((s.trans s1).trans (ax hp2 _)) ?_⟩;rw [ao,bA]
theorem rep_two (m:Nat):(⟨(aJ m ("  ":Str).cps).foldl (·++·) #[]⟩:Str)=bl (2 * m):=by
 have:=ln_bl m [];exact iI (eT.mp (fg m))
theorem rep_one (m:Nat):(⟨(aJ m (" ":Str).cps).foldl (·++·) #[]⟩:Str)=bl m:=by
 refine iI (eT.mp ?_);show ((aJ m (" ":Str).cps).foldl (·++·) #[]).toList=aJ m 32;rw [tJ];have e:(" ":Str).cps.toList=[32]:=by decide
 rw [e];show []++_=_;rw [jY]
 induction m with
 | zero=>rfl
 | succ m ih=>rw [da,kD,ih,da]; rfl
theorem bl_len (m:Nat):(bl m).length=m:=by show (aJ m 32).toArray.size=m; simp
theorem ln_len (e:Nat) (ws:List Str):(ln e ws).length=2 * e + (jn ws).length:=by unfold ln; rw [bf,jJ]
section
variable {P:aQ} {w:bT} {K:ai} {mg:Str->Option ag} {base:cP} {f fR fT fTr fOd fWd fAg fIn C D' CFault CNoMark CNoModel CNoRoom CTooLate:ak} {fd fdR fdT fdTr fdOd fdWd fdAg fdIn:cF}
seal PS PSs PE PA PT PW PI PG PGs PC PSC PSsC PEC PTC PAC PPs
abbrev nTr:List Str:=["_law_lines_here","_law_found","_law_caught","e"]
abbrev pTr:List Str:=["_law_lines_here"]
theorem scTr:cK nTr pTr (aZ oB):={}
inductive spTrI (vs:List V) (H:Hp) (Q:VK) (_e:XK):Prop where
 | mk (l:ak) (ls:List Str) (n:Nat) (_:vs=[.ref l]) (_:H l=some (.lst (ls.map V.str))) (_:Rfd ls n) (_:∀ r H',cO H H'->H' r=some (.lst [.non,.int n])->Q (.ref r) H'):spTrI vs H Q _e
def spTr:Sp:=fun vs H Q _e=>spTrI vs H Q _e
theorem ok_tr (D:Df K mg "_law_tried" oB pTr f fd) (DR:Df K mg "read_model" ka pRm fR fdR) (GR:dP P w K mg base (CXl P w) 78 fR fdR pRm (spRm C)) (N:NT K mg C D' fIn fdIn) (O:Oth K mg C D' CFault CNoMark CNoModel CNoRoom CTooLate) (B:Bl mg) (MV:mg "ValueError"=none):dP P w K mg base CX0 79 f fd pTr spTr:=by
 have mME:=O.mE;have mFault:=O.mF;have mNoMark:=O.mN;have mNoModel:=O.mM;have mNoRoom:=O.mR;have mTooLate:=O.mT;refine D.F.okC scTr (fun vs H Q E h=>?_) (fun cdv A outer s H vs Q E hr h=>?_)
 ·obtain ⟨l,ls,n,rfl,_⟩:=h;rfl
 obtain ⟨l,ls,n,rfl,hl,rf,qe⟩:=h;have r78:dj 78 _:=hr
 let TT:ak->Nat->St->Hp->Prop:=fun C' m σ G=>C'=C/\m=n/\cO H G/\σ=[some (.ref l),some .non,some .non,none]
 refine ⟨_,aR (bJ (i:=1) scTr.nd rfl (Or.inl rfl) dJ).c
  (aR (bJ (i:=2) scTr.nd rfl (Or.inl rfl) dJ).c
  (aR (DA TT (fun _=>hJ (iG (i:=1) scTr.nd rfl (Or.inl rfl) (BN GR r78 (by rfl) DR.m DR.F.kp DR.b yU (iM (pe_joinK K (by rfl) aB (bD (pv 0) aj)) aj)))) (FE 3 (by rfl) mME scTr.nd rfl rfl (fun _=>aO (bJ (i:=2) scTr.nd rfl (Or.inl rfl) (pv 3))) Dz))
  (aE (du (bh j3 (pv 2) dJ (bR _)) (aO (bO (cA (bD (pv 1) (bo aq aj))))) bX)
  (aE (du ((jv (pD (jF (cR sF (by rfl) B.isi vj (bD (pv 2) (bD (kP (v:=.ref C) (by rfl) N.m rfl) aj))))) (i7 (pD (jF (cR sF (by rfl) B.isi vj (bD (pv 2) (bD (EK (v:=.ty "ValueError") (by rfl) MV vc rfl) aj))))))).pt) (aO (bO (cA (bo dJ (ft (AA xo aq) aj))))) bX)
  (aE (du (jF (cR wa (by rfl) B.isi vj (bD (pv 2) (vn (fK (bD (kP (v:=.ref CFault) (by rfl) mFault rfl) (bD (kP (v:=.ref CNoMark) (by rfl) mNoMark rfl) (bD (kP (v:=.ref CNoModel) (by rfl) mNoModel rfl) (bD (kP (v:=.ref CNoRoom) (by rfl) mNoRoom rfl) (bD (kP (v:=.ref CTooLate) (by rfl) mTooLate rfl) aj)))))) aj)))) (aO (bO (cA (bo dJ (ft (AA xo aq) aj))))) bX)
  (aO (bO (cA (bo dJ (ft (FF N.cl (pv 2) (by rfl)) aj)))))))).c)),?_⟩
 have big:=dC;refine aH (bW (aF ?_));dsimp only;refine aH (bW (aF ?_));dsimp only;refine aH ⟨?_,?_⟩
 ·refine bW ⟨rfl,?_⟩;dsimp only [gS];refine ⟨_,rfl,_,l,ls,rfl,rfl,.inl (SqL.of hl),rf.js,?_⟩;refine ⟨cq "\n" ls,rfl,rf.jl,rf.ok,fun m H' e sm=>?_,fun ml us fp H' ms e=>?_⟩
  ·rw [rf.rd] at e;exact ⟨C,m,rfl,rfl,rfl,(Except.error.inj e).symm,sm,rfl⟩
  ·rw [rf.rd] at e
   cases e
 ·rintro C' m σ' G _ ⟨rfl,rfl,sm,rfl⟩;refine .inl ⟨O.ex,fun ea dd h1 h2 hne=>bW ⟨_,rfl,aF ?_⟩⟩;dsimp only [Dp,jx];have s1:cO G (upd (upd G dd (LD dd m)) ea (XE ea C' dd)):=(ax h2 _).trans (ax (by rw [aT (eW hne)]; exact h1) _);have qe1:(upd (upd G dd (LD dd m)) ea (XE ea C' dd)) ea=some (XE ea C' dd):=ao;have qd:(upd (upd G dd (LD dd m)) ea (XE ea C' dd)) dd=some (LD dd m):=by rw [aT hne,ao]
  refine aH ⟨_,rfl,rfl,_,rfl,c9 ?_⟩;dsimp only [dX];refine aH ⟨_,rfl,ea,C',dd,m,_,_,true,rfl,rfl,fun _ z=>z,qe1,qd,N.cl.x,O.yes,_,rfl,c9 ?_⟩;refine ⟨_,rfl,ea,C',dd,m,_,_,true,rfl,rfl,fun _ z=>z,qe1,qd,N.cl.x,O.ve,_,rfl,c9 ?_⟩;dsimp only [dX];refine aH ⟨_,rfl,by show 5<=aw; omega,fun tp htp=>?_⟩;have s2:=ax htp (.tup [.ref CFault,.ref CNoMark,.ref CNoModel,.ref CNoRoom,.ref CTooLate]);refine ⟨ea,C',dd,m,tp,[CFault,CNoMark,CNoModel,CNoRoom,CTooLate],false,rfl,ao,s2 _ _ qe1,s2 _ _ qd,N.cl.x,O.no,_,rfl,c9 ?_⟩;dsimp only [dX];refine dR ⟨_,rfl,ea,dd,m,rfl,s2 _ _ qe1,s2 _ _ qd,by show 2<=aw; omega,fun r hr=>qe r _ (((sm.trans s1).trans s2).trans (ax hr _)) ao⟩
abbrev nRf:List Str:=["_law_lines_here","_law_line"]
abbrev pRf:List Str:=["_law_lines_here","_law_line"]
theorem scRf:cK nRf pRf (aZ kT):={}
inductive spRfI (vs:List V) (H:Hp) (Q:VK) (_e:XK):Prop where
 | mk (l:ak) (ls:List Str) (n:Nat) (_:vs=[.ref l,.int n]) (_:H l=some (.lst (ls.map V.str))) (_:Rfd ls n) (_:∀ H',cO H H'->Q (.bl true) H'):spRfI vs H Q _e
def spRf:Sp:=fun vs H Q _e=>spRfI vs H Q _e
theorem ok_rf (D:Df K mg "_law_refused" kT pRf f fd) (DTr:Df K mg "_law_tried" oB pTr fTr fdTr) (GTr:dP P w K mg base CX0 79 fTr fdTr pTr spTr) (B:Bl mg):dP P w K mg base CX0 80 f fd pRf spRf:=by
 refine D.F.okC scRf (fun vs H Q E h=>?_) (fun cdv A outer s H vs Q E hr h=>?_)
 ·obtain ⟨l,ls,n,rfl,_⟩:=h;rfl
 obtain ⟨l,ls,n,rfl,hl,rf,q⟩:=h;have r79:dj 79 _:=hr;have h50:=C6 hr;refine ⟨_,hJ (pQ (FK (C8 h50) (dq GTr r79 (by rfl) DTr.m DTr.F.kp DTr.b .nil bM (bD (pv 0) aj)) (cA (bo dJ (bD (pv 1) aj))) (bR _))),?_⟩;have big:=dC;refine dR ⟨_,rfl,l,ls,n,rfl,hl,rf,fun r H' s1 hr=>⟨_,rfl,by show 2<=aw; omega,fun r2 hr2=>?_⟩⟩;have s2:=ax hr2 (.lst [.non,.int n]);refine ⟨1,by decide,.inr (.inl ⟨r,r2,_,_,rfl,rfl,s2 _ _ hr,ao,.cons ⟨trivial,rfl⟩ (.cons ⟨trivial,rfl⟩ .nil)⟩),q _ (s1.trans s2)⟩
abbrev nOd:List Str:=["_law_number","_law_some"]
abbrev pOd:List Str:=["_law_number"]
theorem scOd:cK nOd pOd (aZ o8):={}
def spOd:Sp:=fun vs H Q _=>∃ n:Int,vs=[.int n]/\0<=n/\n < 60/\∀ x H',x∈odds->cO H H'->Q (.str x) H'
theorem ok_od (D:Df K mg "_law_odd" o8 pOd f fd) (B:Bl mg):cW P w K mg base CX0 1 f fd pOd spOd:=by
 refine D.F.ok scOd (fun vs H Q E h=>?_) (fun cdv A outer s H vs Q E hr h=>?_)
 ·obtain ⟨n,rfl,_⟩:=h;rfl
 obtain ⟨n,rfl,n0,n1,q⟩:=h;refine ⟨_,aE (bJ (i:=1) scOd.nd rfl (Or.inl rfl) (cA (bo aB (bo aB (bo aB (bo aB (bo aB (bo aB (bo aB (bo aB aj))))))))))
  (aE (bJ (i:=1) scOd.nd rfl (Or.inl rfl) (bI e9 (pv 1) (cA (bo aB (bo aB (bo aB (bo aB (bo aB (bo aB aj)))))))))
  (aE (bJ (i:=1) scOd.nd rfl (Or.inl rfl) (bI e9 (pv 1) (cA (bo aB (bo aB (bo aB (bo aB (bo aB (bo aB aj)))))))))
  (aE (bJ (i:=1) scOd.nd rfl (Or.inl rfl) (bI e9 (pv 1) (cA (bo aB (bo aB (bo aB (bo aB (bo aB (bo aB (bo aB aj))))))))))
  (aE (bJ (i:=1) scOd.nd rfl (Or.inl rfl) (bI e9 (pv 1) (cA (bo aB (bo aB (bo aB (bo aB (bo aB (bo aB (bo aB aj))))))))))
  (aE (bJ (i:=1) scOd.nd rfl (Or.inl rfl) (bI e9 (pv 1) (cA (bo aB (bo aB (bo aB (bo aB aj)))))))
  (aE (bJ (i:=1) scOd.nd rfl (Or.inl rfl) (bI e9 (pv 1) (cA (bo aB (bo aB (bo aB (bo aB aj)))))))
  (aE (bJ (i:=1) scOd.nd rfl (Or.inl rfl) (bI e9 (pv 1) (cA (bo aB (bo aB (bo aB (bo aB (bo aB (bo aB (bo aB aj))))))))))
  (aE (bJ (i:=1) scOd.nd rfl (Or.inl rfl) (bI e9 (pv 1) (cA (bo aB (bo aB (bo aB (bo aB (bo aB (bo aB (bo aB (bo aB aj)))))))))))
  (aE (bJ (i:=1) scOd.nd rfl (Or.inl rfl) (bI e9 (pv 1) (cA (bo aB (bo aB (bo aB aj))))))
  (aO (bO (cg cw (pv 1) (bI mL (pv 0) aq) (fun _ _=>rfl))))))))))))),?_⟩
 have big:=dC;refine aH (bW ⟨by show 8<=aw; omega,fun l0 hl0=>aF ?_⟩);dsimp only;have s0:=ax hl0 (.lst ((["","machine","machine A","machine abcdefg","machine a b","machine ","box","box a"]:List Str).map V.str));have h0:(upd H l0 (.lst ((["","machine","machine A","machine abcdefg","machine a b","machine ","box","box a"]:List Str).map V.str))) l0=some (.lst ((["","machine","machine A","machine abcdefg","machine a b","machine ","box","box a"]:List Str).map V.str)):=ao;refine aH (bW ⟨_,rfl,cat_step (ys:=(["box a 1 2","box a 01","box A 1","box a -0","box a 1000000000000001","queue"]:List Str)) s0 h0 (by decide) fun G1 l1 s1 h1=>aF ?_⟩);dsimp only;refine aH (bW ⟨_,rfl,cat_step (ys:=(["queue a b","queue a1","draws","draws -1","draws x","draws 1  2"]:List Str)) s1 h1 (by decide) fun G2 l2 s2 h2=>aF ?_⟩);dsimp only;refine aH (bW ⟨_,rfl,cat_step (ys:=(["draws 1000000000000001","draws 1 ","on","on a b","on A","put a","put a 1 2"]:List Str)) s2 h2 (by decide) fun G3 l3 s3 h3=>aF ?_⟩);dsimp only;refine aH (bW ⟨_,rfl,cat_step (ys:=(["put a +","put A 1","put a .B","put 1 a","push a","push a + 1","draw a"]:List Str)) s3 h3 (by decide) fun G4 l4 s4 h4=>aF ?_⟩);dsimp only;refine aH (bW ⟨_,rfl,cat_step (ys:=(["draw a + 1 2 3","send 0 a 0 1 1","send 6 a 0 1 1 1","send -1 a 0 1 1 1"]:List Str)) s4 h4 (by decide) fun G5 l5 s5 h5=>aF ?_⟩);dsimp only;refine aH (bW ⟨_,rfl,cat_step (ys:=(["send 0 a 10 1 1 1","send 0 A 0 1 1 1","send 0 a 0 1 1 1 1","send a 0 0 1 1 1"]:List Str)) s5 h5 (by decide) fun G6 l6 s6 h6=>aF ?_⟩);dsimp only;refine aH (bW ⟨_,rfl,cat_step (ys:=(["send 0 a 00 1 1 1","end end","end ","pull a","pull a b c","pull a B","if"]:List Str)) s6 h6 (by decide) fun G7 l7 s7 h7=>aF ?_⟩);dsimp only;refine aH (bW ⟨_,rfl,cat_step (ys:=(["if + 1","if 1 1","else else","Else","skip","put a  1","put a 1 ","if 1  "]:List Str)) s7 h7 (by decide) fun G8 l8 s8 h8=>aF ?_⟩);dsimp only;refine aH (bW ⟨_,rfl,cat_step (ys:=(["then","put a same 1 1","put a $2"]:List Str)) s8 h8 (by decide) fun G9 l9 s9 h9=>aF ?_⟩);dsimp only;have e1:=gz n (b:=60) (by decide);have e2:=eS n (b:=60) (by decide);obtain ⟨k,hk⟩:∃ k:Nat,n % 60=(k:Int):=⟨(n % 60).toNat,by omega⟩;have kl:k < odds.length:=by
  have:odds.length=60:=by decide
  omega
 refine dR ⟨_,rfl,_,rfl,n,60,rfl,rfl,by show (0:Int) < 60; decide,l9,_,_,_,rfl,rfl,SqL.of h9,?_,q odds[k] _ (ei kl) s9⟩;rw [hk];refine dg ?_;show (odds.map V.str)[k]?=_;rw [cb,aL kl];rfl
abbrev nWd:List Str:=["_law_line"]
abbrev pWd:List Str:=["_law_line"]
theorem F0:cK nWd pWd (aZ kM):={}
def spWd':Sp:=fun vs H Q _=>∃ (e:Nat) (ws:List Str) (w0:Str),vs=[.str (ln e ws)]/\GL ws/\(ln e ws).length<=2000/\ws.head?=some w0/\∀ H',cO H H'->Q (.str w0) H'
theorem ok_wd' (D:Df K mg "_law_word" kM pWd f fd) (B:Bl mg):cW P w K mg base CX0 1 f fd pWd spWd':=by
 refine D.F.ok F0 (fun vs H Q E h=>?_) (fun cdv A outer s H vs Q E hr h=>?_)
 ·obtain ⟨e,ws,w0,rfl,_⟩:=h;rfl
 obtain ⟨e,ws,w0,rfl,g,l,hw,q⟩:=h;refine ⟨_,aO (bO (cg cw (gJ bK kh kj sD (gJ bK gi gj mH (pv 0) (bo aB aj)) (bo aB aj)) aq (fun _ _=>rfl))),?_⟩;have big:100000 < aw:=by decide
 have ll:=ln_len e ws;refine dR ⟨_,rfl,rfl,_,_,rfl,rfl,by omega,?_⟩;rw [strip_ln g];refine ⟨rfl,_,_,rfl,rfl,by decide,by omega,fun p hp=>?_⟩;rw [show hZ (jn ws) " "=ws from nr g.ne fun w m=>(g.ok w m).1];refine ⟨p,_,0,.str w0,rfl,rfl,SqL.of ao,dg (j:=0) ?_,q _ (ax hp _)⟩;rw [cb,<- zA,hw];rfl
abbrev nAg:List Str:=["_law_lines_here","_law_at","_law_line","_law_ahead","_law_word_here"]
abbrev pAg:List Str:=["_law_lines_here","_law_at"]
theorem scAg:cK nAg pAg (aZ lp):={}
structure At (L:List Str) (k:Nat) (e:Nat) (ws:List Str) (w0:Str):Prop where
 h:L[k]?=some (ln e ws)
 g:GL ws
 l:(ln e ws).length<=2000
 w:ws.head?=some w0
 one:e=1->w0∈[("box":Str),"queue","draws","on"]
inductive spAgI (vs:List V) (H:Hp) (Q:VK) (_e:XK):Prop where
 | mk (l:ak) (L:List Str) (k e:Nat) (ws:List Str) (w0:Str) (_:vs=[.ref l,.int ((k:Int) + 1)]) (_:H l=some (.lst (L.map V.str))) (_:At L k e ws w0) (_:e<=1) (_:∀ H',cO H H'->Q (.str (ln e ws)) H'):spAgI vs H Q _e
def spAg:Sp:=fun vs H Q _e=>spAgI vs H Q _e
theorem ok_ag (D:Df K mg "_law_again" lp pAg f fd) (DWd:Df K mg "_law_word" kM pWd fWd fdWd) (B:Bl mg):cW P w K mg base CX0 2 f fd pAg spAg:=by
 have GWd:cW P w K mg base CX0 1 fWd fdWd pWd spWd':=ok_wd' DWd B;refine D.F.ok scAg (fun vs H Q E h=>?_) (fun cdv A outer s H vs Q E hr h=>?_)
 ·obtain ⟨l,L,k,e,ws,w0,rfl,_⟩:=h;rfl
 obtain ⟨l,L,k,e,ws,w0,rfl,hl,at_,e1,q⟩:=h;have r1:dj 1 _:=hr;refine ⟨_,aE (bJ (i:=2) scAg.nd rfl (Or.inl rfl) (cg cw (pv 0) (bI kI (pv 1) aq) (fun _ _=>rfl)))
  (aE (bJ (i:=3) scAg.nd rfl (Or.inl rfl) (bI kI (cR fA (by rfl) B.len bE (bD (pv 2) aj)) (cR fA (by rfl) B.len bE (iM (gJ bK gi gj mH (pv 2) (bo aB aj)) aj))))
  (aE (bJ (i:=4) scAg.nd rfl (Or.inl rfl) (br GWd r1 (by rfl) DWd.m DWd.F.kp DWd.b .nil bM (bD (pv 2) aj)))
  (aE (du ((jv (bh eD (pv 3) aq (bR _)) (i7 ((pB (bh eD (pv 3) aq (bR _)) (og (bh qN (pv 4) (cA (bo aB (bo aB (bo aB (bo aB aj))))) (by with_unfolding_all rfl)))).pt))).pt) (aO (bO (pv 2))) bX)
  (aO (bO aB))))),?_⟩
 have big:100000 < aw:=by decide
 have ll:=ln_len e ws;have l2:=at_.l;refine aH (bW ⟨_,rfl,_,rfl,_,_,rfl,rfl,l,_,_,_,rfl,rfl,SqL.of hl,(show atI (L.map V.str) ((k:Int) + 1 - 1)=some (.str (ln e ws)) from by
  rw [show (k:Int) + 1 - 1=(k:Int) by omega];refine dg ?_;rw [cb,at_.h];rfl),aF ?_⟩)
 dsimp only;refine aH (bW ⟨_,rfl,_,rfl,by omega,_,rfl,rfl,_,_,rfl,rfl,by omega,?_⟩);rw [strip_ln at_.g];refine ⟨_,rfl,by omega,_,_,rfl,rfl,aF ?_⟩;dsimp only;rw [show ((ln e ws).length:Int) - ((jn ws).length:Int)=((2 * e:Nat):Int) by omega];refine aH (bW ⟨_,rfl,e,ws,w0,rfl,at_.g,l2,at_.w,fun H1 s1=>aF ?_⟩);dsimp only;refine aH ⟨_,rfl,rfl,_,rfl,?_⟩
 by_cases c:e=0
 ·rw [decide_eq_true (show V.int ((2 * e:Nat):Int)=V.int 0 by rw [c]; rfl)];exact cT (cT (dR ⟨_,rfl,q _ s1⟩))
 ·have c1:e=1:=by omega
  rw [decide_eq_false (show ¬ V.int ((2 * e:Nat):Int)=V.int 0 from fun z=>c (by have:=V.int.inj z; omega))];refine c9 ⟨_,rfl,rfl,_,rfl,?_⟩;rw [decide_eq_true (show V.int ((2 * e:Nat):Int)=V.int 2 by rw [c1]; rfl)];refine cT ⟨_,rfl,by show 4<=aw; omega,fun p hp=>?_⟩;refine ⟨p,_,rfl,.inl (SqL.of ao),rfl,rfl,_,rfl,?_⟩;rw [if_neg aX,show inV (.str w0) [V.str "box",V.str "queue",V.str "draws",V.str "on"]=decide (w0∈[("box":Str),"queue","draws","on"]) from vC w0 [("box":Str),"queue","draws","on"],decide_eq_true (at_.one c1)];exact cT (dR ⟨_,rfl,q _ (s1.trans (ax hp _))⟩)
abbrev nSt:List Str:=["_law_purse_here","_law_lines_here","_law_at","_law_line","_law_ahead","_law_sort","_law_odd_here","_law_other"]
abbrev pSt:List Str:=["_law_purse_here","_law_lines_here","_law_at"]
theorem scSt:cK nSt pSt (aZ kS):={}
inductive spStI (vs:List V) (H:Hp) (Q:VK) (_e:XK):Prop where
 | mk (p l:ak) (L:List Str) (k e:Nat) (ws:List Str) (w0:Str) (_:vs=[.ref p,.ref l,.int ((k:Int) + 1)]) (_:eU H p) (_:l≠p) (_:H l=some (.lst (L.map V.str))) (_:At L k e ws w0) (_:(∀ x∈L,LG x)) (_:∀ x H',Sg L e ws x->eU H' p->But p H H'->Q (.str x) H'):spStI vs H Q _e
def spSt:Sp:=fun vs H Q _e=>spStI vs H Q _e
theorem ok_st (D:Df K mg "_law_strange" kS pSt f fd) (DT:Df K mg "_law_take" fc pT fT fdT) (DOd:Df K mg "_law_odd" o8 pOd fOd fdOd) (DWd:Df K mg "_law_word" kM pWd fWd fdWd) (DAg:Df K mg "_law_again" lp pAg fAg fdAg) (B:Bl mg):cW P w K mg base CX0 3 f fd pSt spSt:=by
 have GT:cW P w K mg base CX0 1 fT fdT pT lK:=lW DT B;have GOd:cW P w K mg base CX0 1 fOd fdOd pOd spOd:=ok_od DOd B;have GWd:cW P w K mg base CX0 1 fWd fdWd pWd spWd':=ok_wd' DWd B;have GAg:cW P w K mg base CX0 2 fAg fdAg pAg spAg:=ok_ag DAg DWd B;refine D.F.ok scSt (fun vs H Q E h=>?_) (fun cdv A outer s H vs Q E hr h=>?_)
 ·obtain ⟨p,l,L,k,e,ws,w0,rfl,_⟩:=h;rfl
 obtain ⟨p,l,L,k,e,ws,w0,rfl,pu,nlp,hl,at_,lg,q⟩:=h;have r2:dj 2 _:=hr;have r1:dj 1 _:=hr.mono (by decide);refine ⟨_,aE (bJ (i:=3) scSt.nd rfl (Or.inl rfl) (cg cw (pv 1) (bI kI (pv 2) aq) (fun _ _=>rfl)))
  (aE (bJ (i:=4) scSt.nd rfl (Or.inl rfl) (bI kI (cR fA (by rfl) B.len bE (bD (pv 3) aj)) (cR fA (by rfl) B.len bE (iM (gJ bK gi gj mH (pv 3) (bo aB aj)) aj))))
  (aE (bJ (i:=5) scSt.nd rfl (Or.inl rfl) (br GT r1 (by rfl) DT.m DT.F.kp DT.b .nil bM (bD (pv 0) (bo aq aj))))
  (aE (bJ (i:=6) scSt.nd rfl (Or.inl rfl) (br GOd r1 (by rfl) DOd.m DOd.F.kp DOd.b .nil bM (iM (br GT r1 (by rfl) DT.m DT.F.kp DT.b .nil bM (bD (pv 0) (bo aq aj))) aj)))
  (aE (du (bh om (pv 5) aq (bR _)) (aO (bO (bI cV (bI xX aB (br GT r1 (by rfl) DT.m DT.F.kp DT.b .nil bM (bD (pv 0) (bo aq aj)))) (pv 6)))) bX)
  (aE (bJ (i:=7) scSt.nd rfl (Or.inl rfl) (cg cw (pv 1) (bI mL (br GT r1 (by rfl) DT.m DT.F.kp DT.b .nil bM (bD (pv 0) (bo aq aj))) (cR (dz K (by rfl)) (by rfl) B.len bE (bD (pv 1) aj))) (fun _ _=>rfl)))
  (aE (du (bh eD (pv 5) aq (bR _)) (aO (bO (bI cV aB (pv 7)))) bX)
  (aE (du (bh eD (pv 5) aq (bR _)) (aO (bO (bI cV (bI xX aB (bI fJ (pv 4) aq)) (gJ bK gi gj mH (pv 7) (bo aB aj))))) bX)
  (aE (du ((jv (bh tK (pv 4) aq (bR _)) (i7 (bh eD (br GWd r1 (by rfl) DWd.m DWd.F.kp DWd.b .nil bM (bD (pv 3) aj)) aB (bR _)))).pt) (aO (bO (cg cw (cA (bo aB (bo aB (bo aB aj)))) (br GT r1 (by rfl) DT.m DT.F.kp DT.b .nil bM (bD (pv 0) (bo aq aj))) (fun _ _=>rfl)))) bX)
  (aO (bO (br GAg r2 (by rfl) DAg.m DAg.F.kp DAg.b .nil bM (bD (pv 1) (bD (pv 2) aj))))))))))))),?_⟩
 have big:100000 < aw:=by decide
 have ll:=ln_len e ws;have l2:=at_.l;have hm:ln e ws∈L:=bw at_.h;have n1:0 < L.length:=List.length_pos_of_mem hm;obtain ⟨_,e7⟩:=lg_at (lg _ hm) at_.g;refine aH (bW ⟨_,rfl,_,rfl,_,_,rfl,rfl,l,_,_,_,rfl,rfl,SqL.of hl,(show atI (L.map V.str) ((k:Int) + 1 - 1)=some (.str (ln e ws)) from by
  rw [show (k:Int) + 1 - 1=(k:Int) by omega];refine dg ?_;rw [cb,at_.h];rfl),aF ?_⟩)
 dsimp only;refine aH (bW ⟨_,rfl,_,rfl,by omega,_,rfl,rfl,_,_,rfl,rfl,by omega,?_⟩);rw [strip_ln at_.g];refine ⟨_,rfl,by omega,_,_,rfl,rfl,aF ?_⟩;dsimp only;rw [show ((ln e ws).length:Int) - ((jn ws).length:Int)=((2 * e:Nat):Int) by omega];refine aH (bW ⟨_,rfl,p,6,rfl,pu,by decide,by decide,fun so G1 so0 so1 pu1 b1=>aF ?_⟩);dsimp only;refine aH (bW ⟨_,rfl,p,60,rfl,pu1,by decide,by decide,fun n G2 n0 n6 pu2 b2=>⟨n,rfl,n0,n6,fun x G3 mx s3=>aF ?_⟩⟩);dsimp only;have pu3:=pu2.same s3;have b3:But p H G3:=(b1.trans b2).same s3;refine aH ⟨_,rfl,_,_,rfl,rfl,_,rfl,?_⟩
 by_cases c3:so < 3
 ·rw [decide_eq_true c3];refine cT (dR ⟨_,rfl,p,8,rfl,pu3,by decide,by decide,fun m G4 m0 m8 pu4 b4=>?_⟩);obtain ⟨m,rfl⟩:∃ m':Nat,m=m':=⟨m.toNat,by omega⟩;have ob:=iA.mp odds_ok x mx;unfold oddB at ob;simp only [cY,decide_eq_true_eq] at ob;obtain ⟨⟨o1,o2⟩,o3⟩:=ob;have xl:x.length<=2000:=(show LX x from ⟨0,_,by rw [o1]; exact (empty_app x).symm,wx_of o3,by omega⟩).len;refine ⟨_,m,rfl,rfl,by decide,by omega,_,rfl,_,_,rfl,rfl,?_,?_⟩
  ·rw [rep_two,bl_len];omega
  ·rw [rep_two];refine q _ _ ?_ pu4 (b3.trans b4);rw [<- o1];exact .odd (bad_of o2) (wx_of o3) (by omega)
 rw [decide_eq_false c3];refine c9 ?_;dsimp only [dX];have hl3:=b3 _ _ hl nlp;refine aH (bW ⟨_,rfl,_,rfl,p,4000,rfl,pu3,by decide,by decide,fun r G4 r0 r4 pu4 b4=>?_⟩);have hl4:=b4 _ _ hl3 nlp;have e1:=gz r (b:=(L.length:Int)) (by omega);have e2:=eS r (b:=(L.length:Int)) (by omega);obtain ⟨i,hi⟩:∃ i:Nat,r % (L.length:Int)=(i:Int):=⟨(r % (L.length:Int)).toNat,by omega⟩;have il:i < L.length:=by omega
 have mo:L[i]∈L:=ei il;obtain ⟨e',us,eo,go,_⟩:=lg _ mo;refine ⟨_,rfl,l,_,rfl,.inl (SqL.of hl4),r,_,rfl,rfl,by rw [aa]; omega,l,_,_,_,rfl,rfl,SqL.of hl4,(show atI (L.map V.str) (r % ((L.map V.str).length:Int))=some (.str L[i]) from by
  rw [aa,hi];refine dg ?_;rw [cb,aL il];rfl),aF ?_⟩
 dsimp only;have b4':=b3.trans b4;have ol:=(LG.x (lg _ mo)).len;rw [eo] at mo ol |-;refine aH ⟨_,rfl,rfl,_,rfl,?_⟩
 by_cases c4:so=3
 ·rw [decide_eq_true (show V.int so=V.int 3 by rw [c4])];refine cT (dR ⟨_,rfl,_,_,rfl,rfl,by rw [show (" ":Str).length=1 by decide]; omega,?_⟩);refine q _ _ ?_ pu4 b4';rw [ln_bl,<- iq,show (" ":Str)=bl 1 by decide,bl_app,Nat.add_comm];exact .blank mo go
 rw [decide_eq_false (fun z=>c4 (V.int.inj z))];refine c9 ?_;dsimp only [dX];refine aH ⟨_,rfl,rfl,_,rfl,?_⟩
 by_cases c5:so=4
 ·rw [decide_eq_true (show V.int so=V.int 4 by rw [c5])];have le:=ln_len e' us;refine cT (dR ⟨_,rfl,_,_,rfl,rfl,_,2 * e + 4,rfl,rfl,by decide,by omega,_,rfl,rfl,_,_,rfl,rfl,by omega,?_⟩);rw [strip_ln go,rep_one];refine ⟨_,_,rfl,rfl,by rw [bl_len]; omega,q _ _ (.deep mo go) pu4 b4'⟩
 rw [decide_eq_false (fun z=>c5 (V.int.inj z))];refine c9 ?_;dsimp only [dX];refine aH ⟨_,rfl,_,_,rfl,rfl,_,rfl,?_⟩;have low:∀ {G5:Hp},cO G4 G5->(2<=e\/ws.head?=some ("on":Str))->(three.map V.str).length<=aw/\∀ l3,G5 l3=none->lK [.ref p,.int 3] (upd G5 l3 (.lst (three.map V.str))) (fun y H1=>EZ K (.ref l3) y H1 Q) E0:=fun {G5} s5 h=>by
  refine ⟨by show 3<=aw; omega,fun l3 hl3=>?_⟩;have s6:=s5.trans (ax hl3 (.lst (three.map V.str)));refine ⟨p,3,rfl,pu4.same s6,by decide,by decide,fun m G6 m0 m3 pu6 b6=>?_⟩;obtain ⟨i,rfl⟩:∃ i:Nat,m=i:=⟨m.toNat,by omega⟩;have il:i < three.length:=by show i < 3; omega
  refine ⟨l3,_,_,_,rfl,rfl,SqL.of (b6 _ _ ao (nY (pu4.same s5) hl3)),dg (v:=.str three[i]) ?_,q _ _ (.low h (ei il)) pu6 ((b4'.same s6).trans b6)⟩;rw [cb,aL il];rfl
 by_cases ce:2<=e
 ·rw [decide_eq_true (show (2:Int) < ((2 * e:Nat):Int) by omega)];have z:=low (cO.refl _) (.inl ce);exact cT (cT (dR ⟨z.1,fun l3 h3=>⟨_,rfl,z.2 l3 h3⟩⟩))
 rw [decide_eq_false (show ¬ (2:Int) < ((2 * e:Nat):Int) by omega)];refine c9 ⟨_,rfl,e,ws,w0,rfl,at_.g,l2,at_.w,fun G5 s5=>⟨rfl,_,rfl,?_⟩⟩
 by_cases co:w0="on"
 ·rw [decide_eq_true (show V.str w0=V.str "on" by rw [co])];have z:=low s5 (.inr (by rw [at_.w,co]));exact cT (dR ⟨z.1,fun l3 h3=>⟨_,rfl,z.2 l3 h3⟩⟩)
 rw [decide_eq_false (fun z=>co (V.str.inj z))];refine c9 ?_;dsimp only [dX];refine dR ⟨_,rfl,_,rfl,l,L,k,e,ws,w0,rfl,s5 _ _ hl4,at_,by omega,fun G6 s6=>q _ _ (.again ?_) ((pu4.same s5).same s6) ((b4'.same s5).same s6)⟩
 by_cases c0:e=0
 ·exact .inl c0
 ·exact .inr ⟨by omega,by rw [at_.w]; exact fun z=>co (bC z)⟩
end
def jl (ls:List Str):Nat:=(ls.map (fun x:Str=>x.length + 1)).sum
theorem nl1:("\n":Str).length=1:=by decide
theorem join_sum:∀ {ls:List Str},ls≠[]->(cq "\n" ls).length + 1=jl ls
 | [],h=>absurd rfl h
 | [x],_=>by show x.length + 1=x.length + 1 + 0; omega
 | x :: y :: r,_=>by
  have ih:=join_sum (ls:=y :: r) (by simp);rw [dF,bf,bf,nl1];show _=x.length + 1 + jl (y :: r);omega
theorem jl_app (a b:List Str):jl (a++b)=jl a + jl b:=by
 unfold jl;rw [bA,mG]
theorem rfd_of {ls:List Str} {n:Nat} (lx:∀ y∈ls,LX y) (ne:ls≠[("":Str)]) (many:ls.length<=2500) (l:jl ls<=20000) (rd:rdM ls=.error n):Rfd ls n:=by
 have e:=lx_lines lx ne;have h2:=vq (z:="\n") fun x m=>(lx x m).len;rw [nl1] at h2;have:ls.length * (2000 + 1)<=2500 * 2001:=gp _ many;refine ⟨by rw [e]; exact rd,by rw [e]; exact lok_x lx (by omega),by omega,?_⟩
 by_cases c:ls=[]
 ·rw [c];exact aU _
 ·have:=join_sum c;omega
theorem rfd_in {L:List Str} {x:Str} {k n:Nat} (lg:∀ y∈L,LG y) (lx:LX x) (many:L.length<=2400) (l:jl L<=10000) (k1:1<=k) (kl:k<=L.length) (rd:rdM (L.take k++x :: L.drop k)=.error n):Rfd (L.take k++x :: L.drop k) n:=by
 have ll:(L.take k++x :: L.drop k).length=L.length + 1:=by
  rw [af,aG,bP,ee];omega
 refine rfd_of (fun y m=>?_) (fun z=>?_) (by omega) ?_ rd
 ·rcases aN.mp m with m | m
  ·exact LG.x (lg y (dN m))
  rcases ar.mp m with rfl | m
  ·exact lx
  ·exact LG.x (lg y (ia m))
 ·rw [z] at ll;have ll:1=L.length + 1:=ll;omega
 ·rw [jl_app];have e:=jl_app (L.take k) (L.drop k);rw [i6] at e;have xl:=lx.len;show _ + (x.length + 1 + jl (L.drop k))<=_;omega
def firsts:List (Nat×List Str):=[(0,[""]),(0,["machine"]),(0,["machine","A"]),(1,["machine","a"]),(0,["Machine","a"]),(0,["machine","a","b"]),(0,["box","a","1"]),(2,["machine","a"]),(0,["end"]),(0,["on","a"])]
def firstT:List Str:=(["","machine","machine A"," machine a","Machine a","machine a b","box a 1"]:List Str)++(["  machine a","end","on a"]:List Str)
theorem first_is:firstT=firsts.map fun p=>bl p.1++jn p.2:=by decide +kernel
theorem first_ok:(firsts.all fun p=>wxB p.2 && decide (p.1<=2) && (!nm2 p.2 "machine" 2 || decide (p.1≠0)))=true:=by decide +kernel
theorem rd_no {L:List Str} (no:ek L 0 0 "machine" 2 []=none):rdM L=.error 1:=by
 unfold rdM;rw [stop_mo (acc:=[]) no];rfl
theorem rd_first {x:Str} {B:List Str} (h:x∈firstT):LX x/\rdM (x :: B)=.error 1:=by
 rw [first_is] at h;obtain ⟨⟨m,ws⟩,mp,rfl⟩:=cu.mp h;have o:=iA.mp first_ok _ mp;simp only [cY,FT,decide_eq_true_eq,je] at o;obtain ⟨⟨o1,o2⟩,o3⟩:=o;have g:=wx_of o1;refine ⟨⟨m,ws,rfl,g,by omega⟩,?_⟩;refine rd_no (named_no ?_)
 by_cases c:m=0
 ·rcases o3 with o3 | o3
  ·rw [words_bl (L:=(bl m++jn ws) :: B) (i:=0) rfl g (by omega),c];exact o3
  ·exact absurd c o3
 ·exact (words_bad (L:=(bl m++jn ws) :: B) (i:=0) (d:=0) rfl g (by omega)).ma
theorem rd_nil:rdM []=.error 1:=rd_no (named_no bad0.ma)
theorem rfd_nil:Rfd [] 1:=rfd_of (fun y m=>by cases m) (by decide) (by decide) (by decide) rd_nil
theorem lx_blank:LX ("":Str):=⟨0,[""],by decide,wx_of (by decide +kernel),by omega⟩
theorem rfd_two:Rfd ["",""] 1:=rfd_of (fun y m=>by
 have:y="":=by simpa using m
 rw [this];exact lx_blank) (by decide) (by decide) (by decide) (rd_first (by decide)).2
theorem rfd_first {x:Str} {L:List Str} (h:x∈firstT) (lg:∀ y∈L,LG y) (many:L.length<=2400) (l:jl L<=10000):Rfd (x :: L.drop 1) 1:=by
 obtain ⟨lx,rd⟩:=rd_first (B:=L.drop 1) h;have lxs:∀ y∈x :: L.drop 1,LX y:=fun y m=>by
  rcases ar.mp m with rfl | m
  ·exact lx
  ·exact LG.x (lg y (ia m))
 by_cases c:x :: L.drop 1=[("":Str)]
 ·rw [c];have e:linesOf (cq "\n" [("":Str)])=[]:=by decide +kernel
  exact ⟨by rw [e]; exact rd_nil,by rw [e]; exact lok_x (fun y m=>by cases m) (by decide),by decide,by decide⟩
 ·refine rfd_of lxs c ?_ ?_ rd
  ·rw [aG,ee];omega
  ·have e:=jl_app (L.take 1) (L.drop 1);rw [i6] at e;have xl:=lx.len;show x.length + 1 + jl (L.drop 1)<=_;omega
theorem w2_queue (n:Str):("  queue ":Str)++n=bl 2++jn ["queue",n]:=by
 have:=w_queue n;unfold queL at this;rw [this,ln_bl]
theorem w2_on (n:Str):("  on ":Str)++n=bl 2++jn ["on",n]:=by rw [w_on n,ln_bl]
theorem line_in {ms:List Mo} (ok:∀ M∈ms,OkM M) {y:Str} (m:y∈(ms.map lsM).flatten):∃ M∈ms,y∈lsM M:=by
 obtain ⟨ys,my,mx⟩:=gN.mp m;obtain ⟨M,mM,rfl⟩:=cu.mp my;exact ⟨M,mM,mx⟩
theorem tw_names {ms xs:List Mo} {k i fst:Nat} {ks:List Nat} {ws:List Str} (b:Beg ms k xs ks) (k1:1<=k) (kl:k<=(ms.map lsM).flatten.length) (fp:∀ i ws,i < k->(ms.map lsM).flatten[i]?=some (ln 0 ws)->GL ws->i<=fst) (fi:fst<=i) (ik:i < k) (h:(ms.map lsM).flatten[i]?=some (ln 1 ws)) (g:GL ws):∀ M,xs.getLast?=some M->In1 M ws:=fun M hM=>by
 obtain ⟨nd,l6,ok,be⟩:=b;generalize (ms.map lsM).flatten=L at *;have lA:(L.take k).length=k:=by rw [bP]; omega
 have hne:L.take k≠[]:=fun z=>by rw [z] at lA; have:0=k:=lA; omega
 obtain ⟨M',p,hM',mM,pl,hp,pin⟩:=last_in be ok hne;have e:M'=M:=by
  rw [hM] at hM';exact (bC hM').symm
 subst e;have pf:p<=fst:=fp p _ (by omega) (by rw [<- hp,eK (by omega)]) (pY (ok M' mM).nm);have inM:=pin i _ (by omega) (by rw [eK ik]; exact h)
 rcases in_ma (ok M' mM) g inM with ⟨z,_⟩ | ⟨_,z⟩ | ⟨z,_⟩
 ·cases z
 ·exact z
 ·omega
end My.Dr
namespace L2
open PySem PySem.Spec PyProof.Rows
theorem Ay {X:Cx} {o e:cI} {es:List cI} {to:TE} {t:TA} {name:Str} {apos cpos:Pos} {T id:String} {r:V->List V->Hp->VK->Prop} (K:ai) (hK:X.K=K) (pa:zV T) (slot:Slot T name id) (hty:CQ (.builtin id)=pure (.type "method_descriptor")) (hm:MtR X id r) (ho:PE X o to) (ha:PA X (e :: es) t) (hbase:iF o name X.env (dE o X.env)=dE o X.env:=by rfl)
  (hfew:((eR cpos (bB (e :: es) X.env)).all (fun x=>!x.1) && (pI cpos (jH [] X.env)).all (fun x=>x.1.isSome) && decide ((e :: es).length + ([]:List oW).length + (if ([]:List oW).isEmpty then 0 else 1) < 30))=true:=by rfl)
  (hline:(apos.endLine == cpos.line)=true:=by rfl) (hs:bB (e :: es) X.env=(false,dE e X.env) :: bB es X.env:=by rfl) (hplain:(eR cpos (bB es X.env)).any (·.1)=false:=by rfl) :
  PE X (.Call (.Attribute o name apos) (e :: es) [] cpos) (tBM K T r to t):=by
 subst hK;exact gJ pa slot hty hm ho ha hbase hfew hline hs hplain
end L2
namespace My.Dr
open PySem L2
def RowI (H:Hp) (r:Nat×List Str) (v:V):Prop:=∃ t s,v=.ref t/\H t=some (.lst [.int ((2 * r.1:Nat):Int),.ref s])/\H s=some (.lst (r.2.map V.str))
theorem RowI.same {H H':Hp} {r:Nat×List Str} {v:V} (h:RowI H r v) (s:cO H H'):RowI H' r v:=by
 obtain ⟨t,u,e,h1,h2⟩:=h;exact ⟨t,u,e,s _ _ h1,s _ _ h2⟩
section
variable {P:aQ} {w:bT} {K:ai} {mg:Str->Option ag} {base:cP} {f fSo:ak} {fd fdSo:cF}
seal PS PSs PE PA PT PW PI PG PGs PC PSC PSsC PEC PTC PAC PPs
abbrev nSo:List Str:=["_law_lines_here"]
abbrev pSo:List Str:=["_law_lines_here"]
theorem B4:cK nSo pSo (aZ jR):={}
theorem ndSo:((["_law_line"]:List Str)++nSo).Nodup:=by decide +kernel
inductive spSoI (vs:List V) (H:Hp) (Q:VK) (_e:XK):Prop where
 | mk (l:ak) (L:List Str) (_:vs=[.ref l]) (_:H l=some (.lst (L.map V.str))) (_:(∀ x∈L,LG x)) (_:L.length<=2400) (_:∀ r us (rs:List (Nat×List Str)) H',cO H H'->H' r=some (.lst us)->cL (RowI H') rs us->rs.map (fun r=>ln r.1 r.2)=L->(∀ r∈rs,GL r.2)->Q (.ref r) H'):spSoI vs H Q _e
def spSo:Sp:=fun vs H Q _e=>spSoI vs H Q _e
theorem ok_so' (D:Df K mg "_law_sorts" jR pSo f fd) (B:Bl mg):cW P w K mg base CX0 1 f fd pSo spSo:=by
 refine D.F.ok B4 (fun vs H Q E h=>?_) (fun cdv A outer s H vs Q E hr h=>?_)
 ·obtain ⟨l,L,rfl,_⟩:=h;rfl
 obtain ⟨l,L,rfl,hl,lg,l24,q⟩:=h;refine ⟨_,aO (bO (lR ["_law_line"] (hW.open (NN:=nSo) (N:=nSo) (sc:=aZ jR) rfl rfl (by decide +kernel) rfl (by decide +kernel) (by decide +kernel) rfl (by decide +kernel)) rfl (gx (pv 0)) (fun _ _ _ _=>df (i:=0) ndSo rfl (Or.inl rfl)) (fun _ _ _ _=>jr) (fun _ _ _ _=>cA (hU (bI kI (cR fA (by rfl) B.len bE (bD (pv 0) aj)) (cR fA (by rfl) B.len bE (iM (Ay K (by rfl) bK gi gj mH (pv 0) (bo aB aj)) aj))) (iM (Ay K (by rfl) bK kh kj sD (Ay K (by rfl) bK gi gj mH (pv 0) (bo aB aj)) (bo aB aj)) aj))))),?_⟩;have big:100000 < aw:=by decide
 refine dR (nz (K:=K) (xs:=L.map V.str) (fun a G=>a=l/\G=H) (fun R hR=>⟨_,rfl,hR l H ⟨rfl,rfl⟩⟩) (fun a G h=>by rw [h.1,h.2]; exact SqL.of hl) (fun a G0 i ys G=>cO H G/\∃ rs:List (Nat×List Str),cL (RowI G) rs ys/\rs.map (fun r=>ln r.1 r.2)=L.take i/\∀ r∈rs,GL r.2) (fun a G h=>⟨by rw [h.2]; exact cO.refl _,[],.nil,rfl,fun r m=>by cases m⟩) ?_ ?_ ?_)
 ·rintro a G0 ⟨rfl,rfl⟩ i ys G hi ⟨sg,rs,p,e,_⟩;refine ⟨SqL.of (sg _ _ hl),?_⟩;have h1:=paired_len p;have h2:=congrArg iK e;rw [aa,bP] at h2;omega
 ·rintro a G0 ⟨rfl,rfl⟩ i u ys G hu ⟨sg,rs,p,e,gl⟩;obtain ⟨x,hx,rfl⟩:∃ x,L[i]?=some x/\u=.str x:=by
   rw [cb] at hu;obtain ⟨x,h1,h2⟩:=dy.mp hu;exact ⟨x,h1,h2.symm⟩
  have mx:=bw hx;have xl:=(LG.x (lg x mx)).len;obtain ⟨d,ws,rfl,g,_⟩:=lg x mx;have ll:=ln_len d ws;refine aF ⟨rfl,?_⟩;unfold t8;refine cT ⟨_,rfl,_,rfl,by omega,_,rfl,rfl,_,_,rfl,rfl,by omega,?_⟩;rw [strip_ln g];refine ⟨_,rfl,by omega,_,_,rfl,rfl,_,rfl,rfl,_,_,rfl,rfl,by omega,?_⟩;rw [strip_ln g];refine ⟨rfl,_,_,rfl,rfl,by decide,by omega,fun t ht=>⟨by show 2<=aw; omega,fun r hr=>?_⟩⟩;dsimp only;rw [show hZ (jn ws) " "=ws from nr g.ne fun w m=>(g.ok w m).1,show ((ln d ws).length:Int) - ((jn ws).length:Int)=((2 * d:Nat):Int) by omega];rw [show hZ (jn ws) " "=ws from nr g.ne fun w m=>(g.ok w m).1] at hr;have s1:=ax ht (.lst (ws.map V.str));have s2:=s1.trans (ax hr (.lst [.int ((2 * d:Nat):Int),.ref t]));refine ⟨sg.trans s2,rs++[(d,ws)],psnoc (paired_imp p fun _ _ z=>z.same s2) ⟨r,t,rfl,ao,ax hr _ _ _ ao⟩,?_,fun y m=>?_⟩
  ·rw [bA,e,dS,hx];rfl
  ·rcases aN.mp m with m | m
   ·exact gl y m
   ·rw [au.mp m];exact g
 ·rintro a G0 ⟨rfl,rfl⟩ ys G ⟨sg,rs,p,e,gl⟩ r hr;rw [aa,cD] at e;have s2:=ax hr (.lst ys);exact q r ys rs _ (sg.trans s2) ao (paired_imp p fun _ _ z=>z.same s2) e gl
end
theorem join_i {D:Ends} {σ:St} {H:Hp} {ts:TS} (R:St->Hp->Prop) (k:∀ σ' H',R σ' H'->D.nx σ' H') (h:(∀ σ' H',R σ' H'->D.nx σ' H')->ts D σ H):ts D σ H:=h k
structure Mds (ms:List Mo):Prop where
 ok:∀ M∈ms,OkM M
 nd:(ms.map (·.nm)).Nodup
 l6:ms.length<=6
 n24:(ms.map lsM).flatten.length<=2400
 j10:jl (ms.map lsM).flatten<=10000
def PrI (H:Hp) (fl:ak) (u:V):Prop:=∃ (t lo:ak) (ls:List Str) (n:Nat),u=.ref t/\t≠fl/\lo≠fl/\H t=some (.lst [.ref lo,.int n])/\H lo=some (.lst (ls.map V.str))/\Rfd ls n
theorem PrI.but {H H':Hp} {fl:ak} {u:V} (h:PrI H fl u) (b:But fl H H'):PrI H' fl u:=by
 obtain ⟨t,lo,ls,n,e,h1,h2,h3,h4,h5⟩:=h;exact ⟨t,lo,ls,n,e,h1,h2,b _ _ h3 h1,b _ _ h4 h2,h5⟩
def kinds3:List Str:=["box","queue","on"]
def pre3:List Str:=["  queue ","  queue ","  on "]
theorem cut_at {xs:List V} {a b j:Nat} {v:V} (h:(gU xs (some (a:Int)) (some (b:Int)))[j]?=some v) (ab:a<=b) (bl:b<=xs.length):xs[a + j]?=some v/\a + j < b:=by
 unfold gU at h;rw [HT.sIx_nat,HT.sIx_nat,gA bl,gA (show a<=xs.length by omega)] at h;have jl:j < b - a:=by
  have:=(bg.mp h).1;rw [bP] at this;omega
 rw [eK jl,oq] at h;exact ⟨h,by omega⟩
theorem cut_drop {ss:List Str} {k:Nat} (h:k<=ss.length):gU (ss.map V.str) (some (k:Int)) none=(ss.drop k).map V.str:=by
 unfold gU;rw [HT.sIx_nat,HT.sIx_none,aa,gA h,<- yp,c7 (by rw [aa,ee]; exact ay _)]
theorem two_of {ms:List Mo} (md:Mds ms) {i:Nat} {ws:List Str} {w0:Str} (h:(ms.map lsM).flatten[i]?=some (ln 1 ws)) (g:GL ws) (hw:ws.head?=some w0) (k:w0∈kinds3):∃ n r,ws=w0 :: n :: r:=by
 obtain ⟨M,mM,m⟩:=line_in md.ok (bw h)
 rcases in_ma (md.ok M mM) g m with ⟨z,_⟩ | ⟨_,i1⟩ | ⟨z,_⟩
 ·cases z
 ·rcases i1 with ⟨b,_,rfl⟩ | ⟨q,_,rfl⟩ | ⟨_,rfl⟩ | ⟨y,my,rfl⟩
  ·cases hw; exact ⟨_,_,rfl⟩
  ·cases hw; exact ⟨_,_,rfl⟩
  ·have:=bC hw;rw [<- this] at k;exact absurd k (by decide)
  ·cases hw; exact ⟨_,_,rfl⟩
 ·omega
theorem tw_ok {ms:List Mo} (md:Mds ms) {k s:Nat} {n w x:Str} (k1:1<=k) (kl:k<=(ms.map lsM).flatten.length) (hw:kinds3[s]?=some w) (hx:pre3[s]?=some x)
  (hn:∃ i fst ws r,fst<=i/\i < k/\(∀ i ws,i < k->(ms.map lsM).flatten[i]?=some (ln 0 ws)->GL ws->i<=fst)/\(ms.map lsM).flatten[i]?=some (ln 1 ws)/\GL ws/\ws=w :: n :: r):Rfd ((ms.map lsM).flatten.take k++(x++n) :: (ms.map lsM).flatten.drop k) (k + 1):=by
 obtain ⟨i,fst,ws,r,fi,ik,fp,hi,g,rfl⟩:=hn;obtain ⟨xs,ks,b⟩:=beg_of md.ok kl md.nd md.l6;have i1:=tw_names b k1 kl fp fi ik hi g;have lg:=(jT md.ok).2;have hne:(ms.map lsM).flatten.take k≠[]:=fun z=>by
  have:=congrArg iK z;rw [bP] at this;have:_=0:=this;omega
 obtain ⟨M,p,hM,mM,_⟩:=last_in b.e b.ok hne;have oM:=b.ok M mM;have im:=i1 M hM;obtain ⟨k',rfl⟩:∃ k',k=k' + 1:=⟨k - 1,by omega⟩;have fin:∀ {v:Str},v∈[("end":Str),"put","push","draw","send","pull","if","else","box","queue","draws","on","machine"]->Nam n->((v="queue"/\n∈M.bx.map (·.1)++M.qs)\/(v="on"/\n∈M.hr.map (·.1)))->Rfd ((ms.map lsM).flatten.take (k' + 1)++(bl 2++jn [v,n]) :: (ms.map lsM).flatten.drop (k' + 1)) (k' + 2):=fun {v} hv hn c=>by
  have wx:WX [v,n]:=LG.wx (e:=0) (iN hv (fun u m=>by rw [au.mp m]; exact fV hn) (by show 1<=59; decide)) (yd hv hn);refine rfd_in lg ⟨2,_,rfl,wx,by omega⟩ md.n24 md.j10 (by omega) kl (tw_ref b (by omega) wx fun X mX hX=>?_);rw [hM] at hX
  cases hX;exact c
 match s,hw,hx with
 | 0,hw,hx =>
  cases hw
  cases hx;rw [w2_queue]
  rcases im with ⟨q,mq,e⟩ | ⟨q,mq,e⟩ | ⟨_,e⟩ | ⟨q,mq,e⟩
  ·obtain ⟨_,e⟩:=aV e;obtain ⟨rfl,_⟩:=aV e;exact fin (by decide) (oM.bx q mq).1 (.inl ⟨rfl,cS _ (gE mq)⟩)
  ·exact absurd (aV e).1 (by decide)
  ·exact absurd (aV e).1 (by decide)
  ·exact absurd (aV e).1 (by decide)
 | 1,hw,hx =>
  cases hw
  cases hx;rw [w2_queue]
  rcases im with ⟨q,mq,e⟩ | ⟨q,mq,e⟩ | ⟨_,e⟩ | ⟨q,mq,e⟩
  ·exact absurd (aV e).1 (by decide)
  ·obtain ⟨_,e⟩:=aV e;obtain ⟨rfl,_⟩:=aV e;exact fin (by decide) (oM.qs _ mq) (.inl ⟨rfl,aP _ mq⟩)
  ·exact absurd (aV e).1 (by decide)
  ·exact absurd (aV e).1 (by decide)
 | 2,hw,hx =>
  cases hw
  cases hx;rw [w2_on]
  rcases im with ⟨q,mq,e⟩ | ⟨q,mq,e⟩ | ⟨_,e⟩ | ⟨q,mq,e⟩
  ·exact absurd (aV e).1 (by decide)
  ·exact absurd (aV e).1 (by decide)
  ·exact absurd (aV e).1 (by decide)
  ·obtain ⟨_,e⟩:=aV e;obtain ⟨rfl,_⟩:=aV e;exact fin (by decide) (oM.hr q mq).1 (.inr ⟨rfl,gE mq⟩)
 | _ + 3,hw,hx=>cases hw
theorem put_in {K:ai} {G:Hp} {l:ak} {L:List Str} {k a b c:Nat} {kk:Int} {x:Str} {R:VK} {σ:St} (h2:σ[a]?=some (some (.ref l))) (h4:σ[b]?=some (some (.int kk))) (h5:σ[c]?=some (some (.str x))) (hk:kk=((k:Nat):Int)) (hG:G l=some (.lst (L.map V.str))) (kl:k<=L.length) (n24:L.length<=2400) (r:∀ c G',cO G G'->G c=none->G' c=some (.lst ((L.take k++x :: L.drop k).map V.str))->R (.ref c) G') :
  tOp CU (tOp CU (tSl (Ie K) (kF a) xy (CI (kF b))) (zN (gS (kF c) q9))) (tSl (Ie K) (kF a) (CI (kF b)) xy) σ G R:=by
 subst hk;have big:100000 < aw:=by decide
 have ec:gU (L.map V.str) none (some ((k:Nat):Int))=(L.take k).map V.str:=by
  rw [cut_take (by omega) (by omega),eH]
 have ed:=cut_drop kl;refine ⟨_,h2,_,h4,_,rfl,l,_,rfl,SqL.of hG,fun e1 he1=>⟨_,h5,by show 1<=aw; omega,fun e2 he2=>?_⟩⟩;have u1:=ax he1 (.lst (gU (L.map V.str) none (some ((k:Nat):Int))));have u2:=ax he2 (.lst [.str x]);have lt:(L.take k).length<=2400:=by rw [bP]; omega
 refine ⟨e1,e2,_,_,rfl,rfl,u2 _ _ ao,ao,by rw [ec,aa]; show _ + 1<=_; omega,fun e3 he3=>?_⟩;have u3:=ax he3 (.lst (gU (L.map V.str) none (some ((k:Nat):Int))++[.str x]));have u13:=(u1.trans u2).trans u3;refine ⟨_,h2,_,h4,_,rfl,l,_,rfl,SqL.of (u13 _ _ hG),fun e4 he4=>?_⟩;have u4:=ax he4 (.lst (gU (L.map V.str) (some ((k:Nat):Int)) none));refine ⟨e3,e4,_,_,rfl,rfl,u4 _ _ ao,ao,by rw [ec,ed,af,aa,aa,ee]; show _ + 1 + _<=_; omega,fun e5 he5=>r e5 _ ((u13.trans u4).trans (ax he5 _)) (eF fun o z=>by rw [(u13.trans u4) _ _ z] at he5; cases he5) ?_⟩;rw [ao,ec,ed,bA,aS];rfl
theorem rows_in {G1:Hp} {r:ak} {us:List V} {rs:List (Nat×List Str)} {R:VK} {σ:St} (hr1:G1 r=some (.lst us)) (pr:cL (RowI G1) rs us) (l:us.length<=2400) (k:∀ (rr a2:ak) (G4:Hp),cO G1 G4->G1 rr=none->G4 rr=some (.lst (us++[.ref a2]))->cL (RowI G4) (rs++[(0,[("machine":Str),""])]) (us++[.ref a2])->R (.ref rr) G4) :
  zN (gS (zN (gS (tC (V.int 0)) (gS (zN (gS (tC (V.str "machine")) (gS (tC (V.str "")) q9))) q9))) q9) σ G1 fun y H2=>CU (.ref r) y H2 R:=by
 have big:100000 < aw:=by decide
 refine ⟨by show 2<=aw; omega,fun a1 ha1=>⟨by show 2<=aw; omega,fun a2 ha2=>⟨by show 1<=aw; omega,fun a3 ha3=>?_⟩⟩⟩;have u1:=ax ha1 (.lst [.str "machine",.str ""]);have u2:=ax ha2 (.lst [.int 0,.ref a1]);have u3:=ax ha3 (.lst [.ref a2]);have u123:=(u1.trans u2).trans u3;refine ⟨r,a3,us,_,rfl,rfl,u123 _ _ hr1,ao,by show _ + 1<=_; omega,fun rr hrr=>?_⟩;have u4:=u123.trans (ax hrr (.lst (us++[.ref a2])));exact k rr a2 _ u4 (eF fun o z=>by rw [u123 _ _ z] at hrr; cases hrr) ao (psnoc (paired_imp pr fun _ _ z=>z.same u4) ⟨a2,a1,rfl,(u3.trans (ax hrr _)) _ _ ao,((u2.trans u3).trans (ax hrr _)) _ _ ao⟩)
section
variable {P:aQ} {w:bT} {K:ai} {mg:Str->Option ag} {base:cP} {f fSo:ak} {fd fdSo:cF}
seal PS PSs PE PA PT PW PI PG PGs PC PSC PSsC PEC PTC PAC PPs
abbrev nTw:List Str:=["_law_lines_here","_law_sort","_law_number","_law_first","_law_found","_law_rows","_law_k","_law_ahead","_law_words_here","_law_word_here","_law_names_here","_law_ends","_law_line"]
abbrev pTw:List Str:=["_law_lines_here","_law_sort","_law_number"]
theorem scTw:cK nTw pTw (aZ lr):={}
theorem ndTw:((["_law_row"]:List Str)++nTw).Nodup:=by decide +kernel
inductive spTwI (vs:List V) (H:Hp) (Q:VK) (_e:XK):Prop where
 | mk (l:ak) (ms:List Mo) (s:Nat) (nu:Int) (_:vs=[.ref l,.int s,.int nu]) (_:s < 3) (_:H l=some (.lst ((ms.map lsM).flatten.map V.str))) (_:Mds ms) (_:∀ r us H',cO H H'->H' r=some (.lst us)->(∀ u∈us,PrI H' r u)->Q (.ref r) H'):spTwI vs H Q _e
def spTw:Sp:=fun vs H Q _e=>spTwI vs H Q _e
theorem ok_tw (D:Df K mg "_law_twice" lr pTw f fd) (DSo:Df K mg "_law_sorts" jR pSo fSo fdSo) (B:Bl mg):cW P w K mg base CX0 2 f fd pTw spTw:=by
 have GSo:cW P w K mg base CX0 1 fSo fdSo pSo spSo:=ok_so' DSo B;refine D.F.ok scTw (fun vs H Q E h=>?_) (fun cdv A outer s H vs Q E hr h=>?_)
 ·obtain ⟨l,ms,s,nu,rfl,_⟩:=h;rfl
 obtain ⟨l,ms,so,nu,rfl,so3,hl,md,q⟩:=h;have r1:dj 1 _:=hr;have h50:=C6 hr;have lg:=(jT md.ok).2;have n24:=md.n24;refine ⟨_,aE (bJ (i:=3) scTw.nd rfl (Or.inl rfl) aq)
  (aE (bJ (i:=4) scTw.nd rfl (Or.inl rfl) (cA aj))
  (aE (bJ (i:=5) scTw.nd rfl (Or.inl rfl) (bI e9 (br GSo r1 (by rfl) DSo.m DSo.F.kp DSo.b .nil bM (bD (pv 0) aj)) (cA (rO (cA (bo aq (rO (cA (bo aB (bo aB aj))) aj))) aj))))
  (aE (mK c8 rfl (Bn (by rfl) B.range (bo aq (iM (cR (dz K (by rfl)) (by rfl) B.len bE (bD (pv 5) aj)) aj))) (df (i:=6) scTw.nd rfl (Or.inl rfl)) (aE (zD (cg cw (pv 5) (pv 6) (fun _ _=>rfl)) (DJ rfl (ie (df (i:=7) scTw.nd rfl (Or.inl rfl)) (ie (df (i:=8) scTw.nd rfl (Or.inl rfl)) se))))
  (aE (bJ (i:=9) scTw.nd rfl (Or.inr rfl) (cg cw (cA (bo aB (bo aB (bo aB aj)))) (pv 1) (fun _ _=>rfl)))
  (aE (uo (i:=10) ["_law_row"] (hW.open (NN:=nTw) (N:=nTw) (sc:=aZ lr) rfl rfl (by decide +kernel) rfl (by decide +kernel) (by decide +kernel) rfl (by decide +kernel)) rfl scTw.nd rfl (Or.inl rfl) (gx (gu jq (pv 5) (gM (pv 3)) (gM (pv 6)))) (fun _ _ _ _=>df (i:=0) ndTw rfl (Or.inl rfl)) (fun _ _ _ _=>Fc ((pB (bh eD (cg (qE K (by rfl)) (pv 0) aq (fun _ _=>rfl)) aq (bR _)) (og (bh eD (cg (qE K (by rfl)) (cg (qE K (by rfl)) (pv 0) aq (fun _ _=>rfl)) aq (fun _ _=>rfl)) (pv 10) (bR _)))).pt)) (fun _ _ _ _=>cg (qE K (by rfl)) (cg (qE K (by rfl)) (pv 0) aq (fun _ _=>rfl)) aq (fun _ _=>rfl)))
  (aE (bJ (i:=11) scTw.nd rfl (Or.inl rfl) (qM eD (pv 7) aq (bR _)))
  (aE (du (bh om (pv 1) aq (bR _)) (aO (bJ (i:=11) scTw.nd rfl (Or.inl rfl) (Co (qM eD (cg cw (cg cw (cg cw (pv 5) (bI kI (pv 6) aq) (fun _ _=>rfl)) aq (fun _ _=>rfl)) aq (fun _ _=>rfl)) (pv 9) (bR _)) (Cm (qM wo (cg cw (pv 8) aq (fun _ _=>rfl)) (pv 9) (bR _)))))) bX)
  (aE (du ((pB (uI (pv 11) (fun _=>rfl)) (og (bh (C7 h50) (pv 10) (cA aj) (bR _)))).pt) (aE (bJ (i:=12) scTw.nd rfl (Or.inl rfl) (cg cw (cA (bo aB (bo aB (bo aB aj)))) (pv 1) (fun _ _=>rfl)))
  (aE (bJ (i:=12) scTw.nd rfl (Or.inl rfl) (bI cV (pv 12) (cg cw (pv 10) (bI mL (pv 2) (cR (dz K (by rfl)) (by rfl) B.len bE (bD (pv 10) aj))) (fun _ _=>rfl))))
  (aO (fZ (gJ bZ cB cC fw (pv 4) (rO (cA (hU (bI e9 (bI e9 (gu jq (pv 0) iY (gM (pv 6))) (cA (bD (pv 12) aj))) (gu jq (pv 0) (gM (pv 6)) iY)) (hU (bI fJ (pv 6) aq) aj))) aj)))))) bX)
  (aO (du (bh eD (pv 7) aq (bR _)) (aO (bJ (i:=3) scTw.nd rfl (Or.inl rfl) (pv 6))) bX)))))))))
  (aO (bO (pv 4)))))),?_⟩
 have big:100000 < aw:=by decide
 refine aH (bW (aF ?_));dsimp only;refine aH (bW ⟨aU _,fun fl hfl=>aF ?_⟩);dsimp only;have t0:=ax hfl (.lst []);have nlf:l≠fl:=fun z=>by rw [z,hfl] at hl; cases hl
 have hf0:(upd H fl (.lst [])) fl=some (.lst []):=ao;refine aH (bW ⟨_,rfl,l,_,rfl,t0 _ _ hl,lg,n24,fun r us rs G1 s1 hr1 pr er gr=>?_⟩);have pl:=paired_len pr;have el:=congrArg iK er;rw [aa] at el;refine rows_in hr1 pr (by omega) fun rr a2 G4 u4 nrr hr4 rows=>aF ?_;dsimp only;have s4:cO H _:=(t0.trans s1).trans u4;have hf4:=u4 _ _ (s1 _ _ hf0);have hl4:=s4 _ _ hl;have rne:∀ r∈rs++[(0,[("machine":Str),""])],r.2≠[]:=fun r m=>by
  rcases aN.mp m with m | m
  ·exact (gr r m).ne
  ·rw [au.mp m];simp
 replace nrr:rr≠fl:=fun z=>by
  rw [z,s1 _ _ hf0] at nrr
  cases nrr
 generalize er':rs++[(0,[("machine":Str),""])]=rws at rows rne;generalize eu':us++[V.ref a2]=uss at hr4 rows;have ul:uss.length=(ms.map lsM).flatten.length + 1:=by
  rw [<- eu',af,<- pl,el];rfl
 have rl:=paired_len rows;have rat:∀ i,i < (ms.map lsM).flatten.length->∃ d ws,rws[i]?=some (d,ws)/\(ms.map lsM).flatten[i]?=some (ln d ws)/\GL ws:=fun i hi=>by
  rw [<- er',dw (by omega),aL (by omega)];refine ⟨_,_,rfl,?_,gr _ (ei _)⟩;rw [<- er,cb,aL (by omega)];rfl
 have row:∀ {G:Hp} {i:Nat},But fl G4 G->i < uss.length->∃ d ws v,rws[i]?=some (d,ws)/\uss[i]?=some v/\RowI G (d,ws) v/\ws≠[]:=fun {G i} b hi=>by
  obtain ⟨⟨d,ws⟩,h1,t,u,e,h2,h3⟩:=iw rows (aL hi);have hne:=rne _ (bw h1);refine ⟨d,ws,_,h1,aL hi,⟨t,u,e,b _ _ h2 (fun z=>?_),b _ _ h3 (fun z=>?_)⟩,hne⟩
  ·rw [z,hf4] at h2
   cases h2
  ·rw [z,hf4] at h3;have:=congrArg (fun x:Option HO=>match x with | some (.lst y)=>y.length | _=>0) h3;have:0=(ws.map V.str).length:=this;rw [aa] at this;exact hne (List.length_eq_zero_iff.mp this.symm)
 refine aH ⟨_,rfl,rr,_,rfl,.inl (SqL.of hr4),1,_,rfl,⟨by decide,by decide,by omega,by omega⟩,mC (lo:=1) (n:=((uss.length:Int) - 1).toNat) (fun i σ G=>∃ (fst:Nat) (fs:List V) (v6 v7 v8 v9 v10 v11 v12:Option V),σ=[some (.ref l),some (.int so),some (.int nu),some (.int fst),some (.ref fl),some (.ref rr),v6,v7,v8,v9,v10,v11,v12]/\fst<=i/\(∀ j ws,j < i + 1->(ms.map lsM).flatten[j]?=some (ln 0 ws)->GL ws->j<=fst)/\But fl G4 G/\G fl=some (.lst fs)/\fs.length<=i/\∀ u∈fs,PrI G fl u) ⟨0,[],none,none,none,none,none,none,none,rfl,ay _,fun j n h _ _=>by omega,But.refl _ _,hf4,ay _,fun u m=>by cases m⟩ ?_ ?_⟩
 ·rintro i σ G hi ⟨fst,fs,v6,v7,v8,v9,v10,v11,v12,rfl,fi,fp,bG,hG,fsl,pri⟩;have ki:i + 1<=(ms.map lsM).flatten.length:=by omega
  refine aF ?_;rw [show (1:Int) + (i:Int)=((i + 1:Nat):Int) by omega];dsimp only;obtain ⟨d,ws,v,hrw,hv,⟨t,u,rfl,ht,hu⟩,wne⟩:=row (i:=i + 1) bG (by omega);refine aH (bW ⟨_,rfl,_,rfl,rr,uss,_,_,rfl,rfl,SqL.of (bG _ _ hr4 nrr),dg hv,t,_,rfl,SqL.of ht,rfl,_,_,rfl,aF ⟨_,_,rfl,aF ⟨rfl,?_⟩⟩⟩);dsimp only [jx];obtain ⟨wd,hwd⟩:∃ wd,kinds3[so]?=some wd:=⟨_,aL (show so < 3 from so3)⟩;refine aH (bW ⟨by show 3<=aw; omega,fun b hb=>⟨_,rfl,b,kinds3.map V.str,_,.str wd,rfl,rfl,SqL.of ao,dg (by rw [cb,hwd]; rfl),aF ?_⟩⟩);have sb:=ax hb (.lst [.str "box",.str "queue",.str "on"]);have bG2:=bG.same sb;have hG2:=sb _ _ hG;have ht2:=sb _ _ ht;have hu2:=sb _ _ hu;have pri2:∀ u∈fs,PrI (upd G b (.lst [.str "box",.str "queue",.str "on"])) fl u:=fun u m=>(pri u m).but (fU sb);have nG2:∀ {a:ak},(upd G b (.lst [.str "box",.str "queue",.str "on"])) a=none->a≠fl:=fun {a} h z=>by rw [z,hG2] at h; cases h
  dsimp only;generalize upd G b (.lst [.str "box",.str "queue",.str "on"])=G2 at bG2 hG2 ht2 hu2 pri2 nG2;have km:wd∈kinds3:=bw hwd;have row2:=fun {j:Nat} (h:j < uss.length)=>row (i:=j) bG2 h;refine aH (bW (nz (K:=K) (xs:=gU uss (some (fst:Int)) (some ((i + 1:Nat):Int))) (fun a G'=>cO G2 G'/\G' a=some (.lst (gU uss (some (fst:Int)) (some ((i + 1:Nat):Int))))) (fun R hR=>⟨_,rfl,_,rfl,_,rfl,_,rfl,_,rfl,rr,uss,rfl,SqL.of (bG2 _ _ hr4 nrr),fun a' ha'=>hR a' _ ⟨ax ha' _,ao⟩⟩) (fun a G' h=>SqL.of h.2)
   (fun a G3 j ys G'=>G'=G3/\∃ ns:List Str,ys=ns.map V.str/\ns.length<=j/\∀ n∈ns,∃ i' fst' ws r,fst'<=i'/\i' < i + 1/\(∀ j ws,j < i + 1->(ms.map lsM).flatten[j]?=some (ln 0 ws)->GL ws->j<=fst')/\(ms.map lsM).flatten[i']?=some (ln 1 ws)/\GL ws/\ws=wd :: n :: r) (fun a G' h=>⟨rfl,[],rfl,ay _,fun n m=>by cases m⟩) ?_ ?_ ?_))
  ·rintro a G3 ⟨s3,ha⟩ j ys G' hj ⟨rfl,ns,rfl,nl,_⟩;refine ⟨SqL.of ha,?_⟩;have:(gU uss (some (fst:Int)) (some ((i + 1:Nat):Int))).length<=uss.length:=by
    unfold gU;rw [bP,ee];omega
   rw [aa];omega
  ·rintro a G3 ⟨s3,ha⟩ j x ys G' hx ⟨rfl,ns,rfl,nl,np⟩;obtain ⟨hx2,jk⟩:=cut_at hx (by omega) (by omega);obtain ⟨d',ws',v',hr',hv',⟨t',u',e',ht',hu'⟩,wne'⟩:=row2 (j:=fst + j) (by omega);rw [hx2] at hv'
   cases hv';subst e';obtain ⟨d2,ws2,hr2,hl2,g2⟩:=rat (fst + j) (by omega);rw [hr'] at hr2
   cases hr2
   cases ws' with
   | nil=>exact absurd rfl wne'
   | cons w0' wr =>
   have ht3:=s3 _ _ ht';have hu3:=s3 _ _ hu';refine aF ⟨rfl,?_⟩;refine ⟨_,rfl,t',_,_,_,rfl,rfl,SqL.of ht3,rfl,rfl,_,rfl,?_⟩
   by_cases c1:d'=1
   ·rw [decide_eq_true (show V.int ((2 * (d',w0' :: wr).1:Nat):Int)=V.int 2 by rw [show (d',w0' :: wr).1=1 from c1]; rfl)];refine cT ⟨_,rfl,t',_,_,_,rfl,rfl,SqL.of ht3,rfl,u',_,_,.str w0',rfl,rfl,SqL.of hu3,dg (j:=0) rfl,_,rfl,rfl,_,rfl,?_⟩
    by_cases c2:w0'=wd
    ·rw [decide_eq_true (show V.str w0'=V.str wd by rw [c2])];refine cT ?_;subst c1 c2;obtain ⟨n,r,en⟩:=two_of md hl2 g2 rfl km
     cases en;refine ⟨_,rfl,t',_,_,_,rfl,rfl,SqL.of ht3,rfl,u',_,_,_,rfl,rfl,SqL.of hu3,dg (j:=1) rfl,rfl,ns++[n],by rw [bA]; rfl,by rw [af]; exact gQ nl,fun m mm=>?_⟩
     rcases aN.mp mm with mm | mm
     ·exact np m mm
     ·rw [au.mp mm];exact ⟨fst + j,fst,_,r,by omega,jk,fp,hl2,g2,rfl⟩
    ·rw [decide_eq_false (fun z=>c2 (V.str.inj z))];exact c9 ⟨rfl,ns,rfl,by omega,np⟩
   ·rw [decide_eq_false (show ¬ V.int ((2 * (d',w0' :: wr).1:Nat):Int)=V.int 2 from fun z=>c1 (by have:=V.int.inj z; have:((2 * d':Nat):Int)=2:=this; omega))];exact c9 (c9 ⟨rfl,ns,rfl,by omega,np⟩)
  rintro a G3 ⟨s3,ha⟩ ys G' ⟨rfl,ns,rfl,nl,np⟩ na hna;have s5:=s3.trans (ax hna (.lst (ns.map V.str)));have hn5:(upd G' na (.lst (ns.map V.str))) na=some (.lst (ns.map V.str)):=ao;have nlen:ns.length<=2500:=by
   have:(gU uss (some (fst:Int)) (some ((i + 1:Nat):Int))).length<=uss.length:=by
    unfold gU;rw [bP,ee];omega
   omega
  generalize upd G' na (.lst (ns.map V.str))=G5 at s5 hn5;have bG5:=bG2.same s5;have hG5:=s5 _ _ hG2;have hu5:=s5 _ _ hu2;have pri5:∀ u∈fs,PrI G5 fl u:=fun u m=>(pri2 u m).but (fU s5);have nna:na≠fl:=nG2 (eF fun o z=>by rw [s3 _ _ z] at hna; cases hna);refine aF ?_;dsimp only [jx];refine aH (bW ⟨_,rfl,rfl,aF ?_⟩);dsimp only [jx];have hr5:=bG5 _ _ hr4 nrr;refine aH (join_i (fun σ' H'=>∃ bb:Bool,H'=G5/\σ'=[some (.ref l),some (.int so),some (.int nu),some (.int fst),some (.ref fl),some (.ref rr),some (.int ((i + 1:Nat):Int)),some (.int ((2 * d:Nat):Int)),some (.ref u),some (.str wd),some (.ref na),some (.bl bb),v12]) ?_ fun jn=>⟨_,rfl,_,_,rfl,rfl,_,rfl,?_⟩)
  rotate_left
  ·by_cases c:(so:Int) < 2
   ·rw [decide_eq_true c];obtain ⟨d1,ws1,v1,hr1',hv1,⟨t1,u1,e1,ht1,hu1⟩,wne1⟩:=row (G:=G5) (i:=i) bG5 (by omega);subst e1
    cases ws1 with
    | nil=>exact absurd rfl wne1
    | cons w1 q1 =>
    cases ws with
    | nil=>exact absurd rfl wne
    | cons w2 q2 =>
    refine cT (bW ⟨_,rfl,_,rfl,_,_,rfl,rfl,rr,uss,_,_,rfl,rfl,SqL.of hr5,(show atI uss (((i + 1:Nat):Int) - 1)=some (.ref t1) from by rw [show ((i + 1:Nat):Int) - 1=(i:Int) by omega]; exact dg hv1),t1,_,_,_,rfl,rfl,SqL.of ht1,rfl,u1,_,_,.str w1,rfl,rfl,SqL.of hu1,dg (j:=0) rfl,_,rfl,rfl,?_⟩);exact ⟨_,rfl,E3 (fun _=>⟨_,rfl,u,_,_,.str w2,rfl,rfl,SqL.of hu5,dg (j:=0) rfl,_,rfl,rfl,aF (jn _ _ ⟨_,rfl,rfl⟩)⟩) (fun _=>aF (jn _ _ ⟨_,rfl,rfl⟩))⟩
   ·rw [decide_eq_false c];exact c9 (jn _ _ ⟨_,rfl,rfl⟩)
  rintro σ' H' ⟨bb,rfl,rfl⟩;dsimp only;refine aH (join_i (fun σ' H'=>∃ (fs':List V) (bb:Bool) (v12:Option V),σ'=[some (.ref l),some (.int so),some (.int nu),some (.int fst),some (.ref fl),some (.ref rr),some (.int ((i + 1:Nat):Int)),some (.int ((2 * d:Nat):Int)),some (.ref u),some (.str wd),some (.ref na),some (.bl bb),v12]/\But fl G4 H'/\H' fl=some (.lst fs')/\fs'.length<=i + 1/\∀ u∈fs',PrI H' fl u) ?_ fun jn=>⟨_,rfl,bb,rfl,?_⟩)
  rotate_left
  ·cases bb with
   | false=>exact c9 (c9 (jn _ _ ⟨fs,false,_,rfl,bG5,hG5,by omega,pri5⟩))
   | true =>
   refine cT ⟨_,rfl,aU _,fun l0 hl0=>⟨na,l0,_,rfl,rfl,ax hl0 _ _ _ hn5,ao,_,rfl,?_⟩⟩;have s6:=ax hl0 (.lst []);have bG6:=bG5.same s6;have hG6:=s6 _ _ hG5;have hn6:=s6 _ _ hn5;have pri6:∀ u∈fs,PrI (upd _ l0 (.lst [])) fl u:=fun u m=>(pri5 u m).but (fU s6);generalize upd _ l0 (.lst [])=G6 at bG6 hG6 hn6 pri6
   by_cases c:ns=[]
   ·rw [c];exact c9 (jn _ _ ⟨fs,true,_,rfl,bG6,hG6,by omega,pri6⟩)
   rw [show (!(ns.map V.str).isEmpty)=true by cases ns with
    | nil=>exact absurd rfl c
    | cons a b=>rfl]
   refine cT ?_;obtain ⟨px,hpx⟩:∃ px,pre3[so]?=some px:=⟨_,aL (show so < 3 from so3)⟩;have pxl:px.length<=10:=by
    have:∀ y∈pre3,y.length<=10:=by decide
    exact this px (bw hpx)
   refine aH (bW ⟨by show 3<=aw; omega,fun cc hcc=>⟨_,rfl,cc,pre3.map V.str,_,.str px,rfl,rfl,SqL.of ao,dg (by rw [cb,hpx]; rfl),aF ?_⟩⟩);dsimp only [jx];have s7:=ax hcc (.lst [.str "  queue ",.str "  queue ",.str "  on "]);have bG7:=bG6.same s7;have hG7:=s7 _ _ hG6;have hn7:=s7 _ _ hn6;have pri7:∀ u∈fs,PrI (upd G6 cc (.lst [.str "  queue ",.str "  queue ",.str "  on "])) fl u:=fun u m=>(pri6 u m).but (fU s7);generalize upd G6 cc (.lst [.str "  queue ",.str "  queue ",.str "  on "])=G7 at bG7 hG7 hn7 pri7;obtain ⟨v,hv',mv⟩:=DY (xs:=ns.map V.str) (by simpa using c) nu;obtain ⟨n,mn,rfl⟩:=cu.mp mv;have rf:=tw_ok md (k:=i + 1) (s:=so) (x:=px) (by omega) ki hwd hpx (np n mn);have nl20:n.length<=2000:=by
    obtain ⟨i',fst',ws',r',_,_,_,hl',g',e'⟩:=np n mn;have:=(g'.ok n (by rw [e']; simp)).2.2;omega
   have n0:0 < (ns.map V.str).length:=dH.mpr (by simpa using c);refine aH (bW ⟨_,rfl,_,rfl,_,rfl,_,rfl,na,_,rfl,.inl (SqL.of hn7),nu,_,rfl,rfl,by show (0:Int) < _; omega,na,_,_,_,rfl,rfl,SqL.of hn7,hv',px,n,rfl,rfl,by omega,aF ?_⟩);dsimp only [jx];have hl7:=bG7 _ _ hl4 nlf;refine ⟨_,rfl,.inl ⟨rfl,_,SqL.of hG7⟩,put_in (k:=i + 1) (x:=px++n) rfl rfl rfl rfl hl7 ki n24 fun e5 G9 u15 he5 h5=>?_⟩;have n5:e5≠fl:=fun z=>by
    rw [z,hG7] at he5
    cases he5
   refine ⟨_,rfl,_,_,rfl,rfl,by show 2<=aw; omega,fun e6 he6=>?_⟩;have u6:=ax he6 (.lst [.ref e5,.int (((i + 1:Nat):Int) + 1)]);have u16:=u15.trans u6;have n6:e6≠fl:=fun z=>by
    rw [z,u15 _ _ hG7] at he6
    cases he6
   refine ⟨fl,fs,_,rfl,rfl,u16 _ _ hG7,by omega,jn _ _ ⟨fs++[.ref e6],true,_,rfl,?_,ao,by rw [af]; exact gQ fsl,fun v m=>?_⟩⟩
   ·intro a o ea na';rw [aT na'];exact u16 _ _ (bG7 _ _ ea na')
   ·have bu:But fl (upd G9 e6 (.lst [.ref e5,.int (((i + 1:Nat):Int) + 1)])) (upd (upd G9 e6 (.lst [.ref e5,.int (((i + 1:Nat):Int) + 1)])) fl (.lst (fs++[.ref e6]))):=fun a o ea na'=>by rw [aT na']; exact ea
    rcases aN.mp m with m | m
    ·exact ((pri7 v m).but (fU u16)).but bu
    ·rw [au.mp m];exact ⟨e6,e5,_,i + 2,rfl,n6,n5,bu _ _ ao n6,bu _ _ (u6 _ _ h5) n5,rf⟩
  rintro σ' H' ⟨fs',bb',v12',rfl,bG8,hG8,fl8,pri8⟩;dsimp only;refine ⟨_,rfl,rfl,_,rfl,?_⟩
  by_cases c0:d=0
  ·rw [decide_eq_true (show V.int ((2 * d:Nat):Int)=V.int 0 by rw [c0]; rfl)];refine cT (bW ⟨_,rfl,aF ?_⟩);dsimp only [jx];exact ⟨i + 1,fs',_,_,_,_,_,_,_,rfl,ay _,fun j n hj _ _=>by omega,bG8,hG8,fl8,pri8⟩
  ·rw [decide_eq_false (show ¬ V.int ((2 * d:Nat):Int)=V.int 0 from fun z=>c0 (by have:=V.int.inj z; omega))];refine c9 ?_;dsimp only [dX];refine ⟨fst,fs',_,_,_,_,_,_,_,rfl,by omega,fun j n hj he gn=>?_,bG8,hG8,fl8,pri8⟩
   by_cases cj:j=i + 1
   ·subst cj;have hjl:=(bg.mp he).1;obtain ⟨d2,ws2,hr2,hl2,g2⟩:=rat (i + 1) hjl;rw [hrw] at hr2
    cases hr2;rw [hl2] at he;exact absurd (ln_inj g2 gn (bC he)).1 c0
   ·exact fp j n (by omega) he gn
 ·rintro σ G ⟨fst,fs,v6,v7,v8,v9,v10,v11,v12,rfl,fi,fp,bG,hG,fsl,pri⟩;dsimp only;exact dR ⟨_,rfl,q fl fs G (fun a o e=>bG _ _ (s4 _ _ e) (fun z=>by rw [z,hfl] at e; cases e)) hG pri⟩
end
theorem ms_mo {H:Hp} {Mt:List Mc} {us:List V} (h:MsIn H Mt us):∃ Xs:List Mo,(∀ M∈Xs,OkM M)/\(Xs.map lsM).flatten=Mt.flatMap Mc.lines/\Xs.map (·.nm)=Mt.map (·.nm):=by
 induction h with
 | nil=>exact ⟨[],(fun M m=>by cases m),rfl,rfl⟩
 | cons a _ ih =>
  obtain ⟨X,fp,h1,h2,h3,h4⟩:=a.1.mo a.2;obtain ⟨Xs,k2,k3,k4⟩:=ih;refine ⟨X :: Xs,fun M m=>?_,?_,?_⟩
  ·rcases ar.mp m with rfl | m
   ·exact h2
   ·exact k2 M m
  ·rw [bY,kD,pk,h3,k3]
  ·rw [bY,bY,h4,k4]
theorem at_of {ms:List Mo} (md:Mds ms) {k:Nat} (h:k < (ms.map lsM).flatten.length):∃ e ws w0,At (ms.map lsM).flatten k e ws w0:=by
 have lg:=(jT md.ok).2;have hk:=aL h;have m:=ei h;have hl:=(LG.x (lg _ m)).len;obtain ⟨e,ws,ex,g,_⟩:=lg _ m;rw [ex] at hk hl m;obtain ⟨c,cs,r,ew,_⟩:=g.w0;refine ⟨e,ws,c,hk,g,hl,by rw [ew]; rfl,fun e1=>?_⟩;obtain ⟨M,mM,mm⟩:=line_in md.ok m
 rcases in_ma (md.ok M mM) g mm with ⟨z,_⟩ | ⟨_,i1⟩ | ⟨z,_⟩
 ·omega
 ·rw [ew] at i1
  rcases i1 with ⟨b,_,z⟩ | ⟨q,_,z⟩ | ⟨_,z⟩ | ⟨y,my,z⟩
  ·rw [(aV z).1]; decide
  ·rw [(aV z).1]; decide
  ·rw [(aV z).1]; decide
  ·rw [(aV z).1]; decide
 ·omega
theorem rfd_sg {ms:List Mo} (md:Mds ms) {k e:Nat} {ws:List Str} {w0 x:Str} (at_:At (ms.map lsM).flatten k e ws w0) (h:Sg (ms.map lsM).flatten e ws x):Rfd ((ms.map lsM).flatten.take (k + 1)++x :: (ms.map lsM).flatten.drop (k + 1)) (k + 2):=by
 have lg:=(jT md.ok).2;have hl:=(bg.mp at_.h).1;obtain ⟨xs,ks,b⟩:=beg_of (k:=k + 1) md.ok (by omega) md.nd md.l6;exact rfd_in lg (h.lx lg (bw at_.h) at_.g) md.n24 md.j10 (by omega) (by omega) (sg_ref lg b at_.h at_.g h)
theorem rfd_end {ms:List Mo} (md:Mds ms) (ne:(ms.map lsM).flatten≠[]):Rfd ((ms.map lsM).flatten++[("":Str)]) ((ms.map lsM).flatten.length + 1):=by
 have n1:=dH.mpr ne;obtain ⟨k,hk⟩:∃ k,(ms.map lsM).flatten.length=k + 1:=⟨(ms.map lsM).flatten.length - 1,by omega⟩;obtain ⟨e,ws,w0,a⟩:=at_of md (k:=k) (by omega);have z:=rfd_sg md a (x:="") (by
  have:=Sg.odd (L:=(ms.map lsM).flatten) (e:=e) (ws:=ws) (m:=0) (us:=[("":Str)]) bad0 (wx_of (by decide +kernel)) (by omega)
  rwa [show bl (2 * 0)++jn [("":Str)]=("":Str) by decide] at this)
 rw [<- hk,cD,lC] at z;rw [hk];exact z
theorem rfd_again {ms:List Mo} (md:Mds ms) {x:Str} (h:(ms.map lsM).flatten[0]?=some x):Rfd ((ms.map lsM).flatten++[x]) ((ms.map lsM).flatten.length + 1):=by
 have lg:=(jT md.ok).2;have n1:=(bg.mp h).1;obtain ⟨xs,ks,b⟩:=beg_of (k:=(ms.map lsM).flatten.length) md.ok (ay _) md.nd md.l6;obtain ⟨nd,l6,ok,be⟩:=b;rw [cD] at be;obtain ⟨X,xr,rfl⟩:∃ X xr,xs=X :: xr:=by
  cases xs with
  | nil =>
   have:=congrArg iK be;rw [af] at this;have:0=(ms.map lsM).flatten.length + _:=this;omega
  | cons X xr=>exact ⟨X,xr,rfl⟩
 have hx:x=ln 0 ["machine",X.nm]:=by
  have:=congrArg (fun l=>l[0]?) be;rw [dw n1,h] at this;exact (bC this).symm
 have oX:=ok X aA;have mx:x∈(ms.map lsM).flatten:=bw h;have wx:WX [("machine":Str),X.nm]:=(lg_at (hx ▸ lg x mx) (pY oX.nm)).1;have rd:=ref_mac (B:=[]) be rfl l6 ok nd wx (hx.trans (ln_bl 0 _)) (by simp);have z:=rfd_in (k:=(ms.map lsM).flatten.length) lg (LG.x (lg x mx)) md.n24 md.j10 n1 (ay _) (by rw [cD,lC]; exact rd);rw [cD,lC] at z;exact z
section
variable {P:aQ} {w:bT} {K:ai} {mg:Str->Option ag} {base:cP} {f fP fT fMs fFe fLl fSt fRf fTw fOd fWd fAg fSo:ak} {fd fdP fdT fdMs fdFe fdLl fdSt fdRf fdTw fdOd fdWd fdAg fdSo:cF}
seal PS PSs PE PA PT PW PI PG PGs PC PSC PSsC PEC PTC PAC PPs
abbrev nL:List Str:=["_law_script","_law_purse_here","_law_lines_here","_law_k","_law_at","_law_strange_here","_law_sort","_law_other","_law_line","_law_again_here","_law_first"]
abbrev pL:List Str:=["_law_script"]
theorem scL:cK nL pL (aZ DV):={}
inductive spLawI (K:ai) (vs:List V) (H:Hp) (Q:VK) (_e:XK):Prop where
 | mk (a:ak) (ns:List Int) (_:vs=[.ref a]) (_:SqL K H a (ns.map V.int)) (_:ns.length<=63) (_:(∀ x∈ns,hV x<=1048576)) (_:∀ H',Q (.bl true) H'):spLawI K vs H Q _e
def spLaw (K:ai):Sp:=fun vs H Q _e=>spLawI K vs H Q _e
theorem ok_law (D:Df K mg "law" DV pL f fd) (DP:Df K mg "_law_purse" oA pP fP fdP) (DT:Df K mg "_law_take" fc pT fT fdT) (DMs:Df K mg "_law_machines" jh pMs fMs fdMs) (GMs:cW P w K mg base CX0 31 fMs fdMs pMs spMs) (DFe:Df K mg "_law_few" qV pFe fFe fdFe) (DLl:Df K mg "_law_lines" jQ pLl fLl fdLl) (GLl:cW P w K mg base CX0 28 fLl fdLl pLl spLl)
  (DSt:Df K mg "_law_strange" kS pSt fSt fdSt) (DOd:Df K mg "_law_odd" o8 pOd fOd fdOd) (DWd:Df K mg "_law_word" kM pWd fWd fdWd) (DAg:Df K mg "_law_again" lp pAg fAg fdAg) (DRf:Df K mg "_law_refused" kT pRf fRf fdRf) (GRf:dP P w K mg base CX0 80 fRf fdRf pRf spRf) (DTw:Df K mg "_law_twice" lr pTw fTw fdTw) (DSo:Df K mg "_law_sorts" jR pSo fSo fdSo) (B:Bl mg):dP P w K mg base CX0 81 f fd pL (spLaw K):=by
 have GP:cW P w K mg base CX0 1 fP fdP pP (AY K):=DZ DP B;have GT:cW P w K mg base CX0 1 fT fdT pT lK:=lW DT B;have GFe:cW P w K mg base CX0 29 fFe fdFe pFe spFe:=ok_fe DFe DLl GLl B;have GSt:cW P w K mg base CX0 3 fSt fdSt pSt spSt:=ok_st DSt DT DOd DWd DAg B;have GTw:cW P w K mg base CX0 2 fTw fdTw pTw spTw:=ok_tw DTw DSo B;refine D.F.okC scL (fun vs H Q E h=>?_) (fun cdv A outer s H vs Q E hr h=>?_)
 ·obtain ⟨a,ns,rfl,_⟩:=h;rfl
 obtain ⟨a,ns,rfl,hS,hlen,hbits,q⟩:=h;have r1:dj 1 _:=hr.mono (by decide);have r2:dj 2 _:=hr.mono (by decide);have r3:dj 3 _:=hr.mono (by decide);have r28:dj 28 _:=hr.mono (by decide);have r29:dj 29 _:=hr.mono (by decide);have r31:dj 31 _:=hr.mono (by decide);have r80:dj 80 _:=hr;have h50:=C6 hr;refine ⟨_,aR (bJ (i:=1) scL.nd rfl (Or.inl rfl) (br GP r1 (by rfl) DP.m DP.F.kp DP.b .nil bM (bD (pv 0) aj))).c
  (aR (bJ (i:=2) scL.nd rfl (Or.inl rfl) (br GLl r28 (by rfl) DLl.m DLl.F.kp DLl.b .nil bM (iM (br GFe r29 (by rfl) DFe.m DFe.F.kp DFe.b .nil bM (iM (br GMs r31 (by rfl) DMs.m DMs.F.kp DMs.b .nil bM (bD (pv 1) aj)) aj)) aj))).c
  (aR (du (bh (I0 h50) (pv 2) (cA aj) (bR _)) (aO (bO yu)) bX).c
  (aR (ur c8 rfl (kH (by rfl) B.range (bo aq aj)) (df (i:=3) scL.nd rfl (Or.inl rfl)) (aR (bJ (i:=4) scL.nd rfl (Or.inl rfl) (bI fJ aq (bI mL (br GT r1 (by rfl) DT.m DT.F.kp DT.b .nil bM (bD (pv 1) (bo aq aj))) (cR (dz K (by rfl)) (by rfl) B.len bE (bD (pv 2) aj))))).c
  (aR (bJ (i:=5) scL.nd rfl (Or.inl rfl) (br GSt r3 (by rfl) DSt.m DSt.F.kp DSt.b .nil bM (bD (pv 1) (bD (pv 2) (bD (pv 4) aj))))).c
  (hJ (ux (sJ (sI (dq GRf r80 (by rfl) DRf.m DRf.F.kp DRf.b .nil bM (hU (bI e9 (bI e9 (gu jq (pv 2) iY (gM (pv 4))) (cA (bD (pv 5) aj))) (gu jq (pv 2) (gM (pv 4)) iY)) (hU (bI fJ (pv 4) aq) aj))))) ((aO (bO yu)).c) bX.c)))))
  (aR (ur c8 rfl (kH (by rfl) B.range (bo aq aj)) (df (i:=6) scL.nd rfl (Or.inl rfl)) (hJ (ur c8 rfl (gx (br GTw r2 (by rfl) DTw.m DTw.F.kp DTw.b .nil bM (bD (pv 2) (bD (pv 6) (iM (br GT r1 (by rfl) DT.m DT.F.kp DT.b .nil bM (bD (pv 1) (bo aq aj))) aj))))) (DJ rfl (ie (df (i:=7) scL.nd rfl (Or.inl rfl)) (ie (df (i:=8) scL.nd rfl (Or.inl rfl)) se))) (hJ (ux (sJ (sI (dq GRf r80 (by rfl) DRf.m DRf.F.kp DRf.b .nil bM (bD (pv 7) (bD (pv 8) aj))))) ((aO (bO yu)).c) bX.c)))))
  (aR (bJ (i:=9) scL.nd rfl (Or.inl rfl) (bI e9 (pv 2) (cA (gF (cg cw (pv 2) aq (fun _ _=>rfl)) aj)))).c
  (aR (ux (IJ (sJ (sI (dq GRf r80 (by rfl) DRf.m DRf.F.kp DRf.b .nil bM (bD (pv 9) (iM (cR (dz K (by rfl)) (by rfl) B.len bE (bD (pv 9) aj)) aj))))) (FG (sJ (sI (dq GRf r80 (by rfl) DRf.m DRf.F.kp DRf.b .nil bM (hU (bI e9 (pv 2) (cA (bo aB aj))) (hU (bI fJ (cR (dz K (by rfl)) (by rfl) B.len bE (bD (pv 2) aj)) aq) aj))))))) ((aO (bO yu)).c) bX.c)
  (aR (bJ (i:=10) scL.nd rfl (Or.inl rfl) (cA (bo aB (bo aB (bo aB (bo aB (bo aB (bo aB (bo aB aj))))))))).c
  (aR (bJ (i:=10) scL.nd rfl (Or.inl rfl) (bI e9 (pv 10) (cA (bo aB (bo aB (bo aB aj)))))).c
  (aR (ux (sJ (sI (dq GRf r80 (by rfl) DRf.m DRf.F.kp DRf.b .nil bM (hU (bI e9 (cA (gF (cg cw (pv 10) (br GT r1 (by rfl) DT.m DT.F.kp DT.b .nil bM (bD (pv 1) (bo aq aj))) (fun _ _=>rfl)) aj)) (gu jq (pv 2) (gM aq) iY)) (bo aq aj))))) ((aO (bO yu)).c) bX.c)
  (hJ (pQ (FJ (dq GRf r80 (by rfl) DRf.m DRf.F.kp DRf.b .nil bM (rO (cA aj) (bo aq aj))) (FH (dq GRf r80 (by rfl) DRf.m DRf.F.kp DRf.b .nil bM (rO (cA (bo aB (bo aB aj))) (bo aq aj)))))))))))))))),?_⟩
 have big:100000 < aw:=by decide
 refine aH (bW ⟨_,rfl,a,ns,rfl,hS,hlen,hbits,fun p G1 hp pu s1=>aF ?_⟩);dsimp only;refine aH (bW ⟨_,rfl,p,rfl,pu,fun l ms Ms G2 hl hMs l6 nd pu2=>⟨l,ms,Ms,rfl,hl,hMs,l6,fun m us Mt G3 s3 hm pM sub lt=>⟨m,us,Mt,rfl,hm,pM,bN sub.length_le l6,fun m4 G4 hm4 h4 s4=>aF ?_⟩⟩⟩);dsimp only;have mt6:Mt.length<=6:=bN sub.length_le l6;have pu4:=(pu2.same s3).same s4;have n4:m4≠p:=nY (pu2.same s3) hm4;obtain ⟨b1,b2⟩:=ms_bound pM mt6;obtain ⟨Xs,oX,eL,eN⟩:=ms_mo pM;have lt:(cq "\n" (Mt.flatMap Mc.lines)).length<=9000:=lt;rw [<- eL] at h4 b1 lt;refine aH ⟨_,rfl,⟨aU _,fun l0 hl0=>?_⟩⟩;have t0:=ax hl0 (.lst []);refine ⟨m4,l0,_,rfl,rfl,t0 _ _ h4,ao,_,rfl,?_⟩;have h5:=t0 _ _ h4;have pu5:=pu4.same t0;generalize upd G4 l0 (.lst [])=G5 at h5 pu5
 by_cases ne:(Xs.map lsM).flatten=[]
 ·rw [ne];exact cT (dR (q _))
 have md:Mds Xs:=⟨oX,by rw [eN]; exact ff (sub.map _) nd,by
  have:=congrArg iK eN;rw [aa,aa] at this;omega,b1,by
  have:=join_sum ne;omega⟩
 have lg:=(jT oX).2;rw [show ((Xs.map lsM).flatten.map V.str).isEmpty=false by
  generalize (Xs.map lsM).flatten=L at ne
  cases L with
  | nil=>exact absurd rfl ne
  | cons a b=>rfl]
 refine c9 ?_;dsimp only [dX];have n1:=dH.mpr ne;clear eL eN pM hm s3 s4 hm4 b2;have n24:=md.n24;refine aH ⟨8,rfl,by decide,by decide,mC (n:=8) (fun i σ G=>∃ v3 v4 v5 v6 v7 v8 v9 v10:Option V,σ=[some (.ref a),some (.ref p),some (.ref m4),v3,v4,v5,v6,v7,v8,v9,v10]/\G m4=some (.lst ((Xs.map lsM).flatten.map V.str))/\eU G p) ⟨none,none,none,none,none,none,none,none,rfl,h5,pu5⟩ ?_ ?_⟩
 ·rintro i σ G hi ⟨v3,v4,v5,v6,v7,v8,v9,v10,rfl,hG,puG⟩;refine aF ?_;dsimp only;refine aH (bW ⟨_,rfl,p,4000,rfl,puG,by decide,by decide,fun r G1 r0 r4 pu1 b1=>?_⟩);have hG1:=b1 _ _ hG n4;refine ⟨_,rfl,m4,_,rfl,.inl (SqL.of hG1),r,_,rfl,rfl,by rw [aa]; omega,1,_,rfl,rfl,aF ?_⟩;dsimp only [jx];rw [aa];have e1:=gz r (b:=((Xs.map lsM).flatten.length:Int)) (by omega);have e2:=eS r (b:=((Xs.map lsM).flatten.length:Int)) (by omega);obtain ⟨k,hk⟩:∃ k:Nat,r % ((Xs.map lsM).flatten.length:Int)=(k:Int):=⟨(r % ((Xs.map lsM).flatten.length:Int)).toNat,by omega⟩;rw [hk,Int.add_comm 1 (k:Int)];obtain ⟨e,ws,w0,at_⟩:=at_of md (k:=k) (by omega);refine aH (bW ⟨_,rfl,_,rfl,_,rfl,p,m4,_,k,e,ws,w0,rfl,pu1,n4,hG1,at_,lg,fun x G2 sg pu2 b2=>aF ?_⟩);dsimp only [jx];have hG2:=b2 _ _ hG1 n4;refine put_in (k:=k + 1) (x:=x) rfl rfl rfl rfl hG2 (by omega) n24 fun c G3 s3 _ hc=>?_;refine ⟨_,rfl,_,_,rfl,rfl,c,_,k + 2,rfl,hc,rfd_sg md at_ sg,fun G4 s4=>⟨_,rfl,c9 ?_⟩⟩;dsimp only [dX];exact ⟨_,_,_,_,_,_,_,_,rfl,s4 _ _ (s3 _ _ hG2),(pu2.same s3).same s4⟩
 rintro σ G ⟨v3,v4,v5,v6,v7,v8,v9,v10,rfl,hG,puG⟩;dsimp only;refine aH ⟨3,rfl,by decide,by decide,mC (n:=3) (fun i σ G=>∃ v3 v4 v5 v6 v7 v8 v9 v10:Option V,σ=[some (.ref a),some (.ref p),some (.ref m4),v3,v4,v5,v6,v7,v8,v9,v10]/\G m4=some (.lst ((Xs.map lsM).flatten.map V.str))/\eU G p) ⟨_,_,_,_,_,_,_,_,rfl,hG,puG⟩ ?_ ?_⟩
 ·clear hG puG;rintro i σ G hi ⟨v3,v4,v5,v6,v7,v8,v9,v10,rfl,hG,puG⟩;refine aF ?_;rw [Int.zero_add];dsimp only;refine ⟨_,rfl,_,rfl,_,rfl,p,12,rfl,puG,by decide,by decide,fun nu G1 nu0 nu1 pu1 b1=>?_⟩;have hG1:=b1 _ _ hG n4;refine ⟨m4,Xs,i,nu,rfl,hi,hG1,md,fun r us G2 s2 hr2 pri=>⟨r,rfl,⟨us,SqL.of hr2⟩,kX (xs:=us) (fun j σ G'=>∃ v7 v8:Option V,σ=[some (.ref a),some (.ref p),some (.ref m4),v3,v4,v5,some (.int i),v7,v8,v9,v10]/\cO G2 G') ⟨_,_,rfl,cO.refl _⟩ ?_ ?_ ?_⟩⟩
  ·rintro j σ G' hj ⟨v7,v8,rfl,sg⟩;exact SqL.of (sg _ _ hr2)
  ·rintro j u σ G' hu ⟨v7,v8,rfl,sg⟩;obtain ⟨t,lo,ls,n,rfl,_,_,ht,hlo,rf⟩:=pri u (bw hu);refine ⟨t,_,rfl,SqL.of (sg _ _ ht),rfl,_,_,rfl,aF ⟨_,_,rfl,aF ⟨rfl,?_⟩⟩⟩;dsimp only [jx];refine ⟨_,rfl,_,rfl,lo,ls,n,rfl,sg _ _ hlo,rf,fun G4 s4=>⟨_,rfl,c9 ?_⟩⟩;dsimp only [dX];exact ⟨_,_,rfl,sg.trans s4⟩
  ·rintro σ G' ⟨v7,v8,rfl,sg⟩;exact ⟨_,_,_,_,_,_,_,_,rfl,sg _ _ (s2 _ _ hG1),(pu1.same s2).same sg⟩
 clear hG puG;rintro σ G ⟨v3,v4,v5,v6,v7,v8,v9,v10,rfl,hG,puG⟩;dsimp only;obtain ⟨x0,hx0⟩:∃ x0,(Xs.map lsM).flatten[0]?=some x0:=⟨_,aL n1⟩;refine aH (bW ⟨_,rfl,_,rfl,m4,_,_,.str x0,rfl,rfl,SqL.of hG,dg (j:=0) (by rw [cb,hx0]; rfl),by show 1<=aw; omega,fun e1 he1=>?_⟩);have u1:=ax he1 (.lst [.str x0]);refine ⟨m4,e1,_,_,rfl,rfl,u1 _ _ hG,ao,by rw [aa]; show _ + 1<=_; omega,fun e2 he2=>aF ?_⟩;have u2:=u1.trans (ax he2 (.lst ((Xs.map lsM).flatten.map V.str++[.str x0])));have h2:(upd (upd G e1 (.lst [.str x0])) e2 (.lst ((Xs.map lsM).flatten.map V.str++[.str x0]))) e2=some (.lst ((Xs.map lsM).flatten.map V.str++[.str x0])):=ao;dsimp only [jx];generalize upd (upd G e1 (.lst [.str x0])) e2 (.lst ((Xs.map lsM).flatten.map V.str++[.str x0]))=G2 at u2 h2;have hG2:=u2 _ _ hG;have pu2':=puG.same u2;have el:(((Xs.map lsM).flatten.map V.str++[V.str x0]).length:Int)=(((Xs.map lsM).flatten.length + 1:Nat):Int):=by
  rw [af,aa];rfl
 refine aH ⟨_,rfl,_,rfl,e2,_,rfl,.inl (SqL.of h2),e2,(Xs.map lsM).flatten++[x0],(Xs.map lsM).flatten.length + 1,by rw [el]; rfl,by rw [h2,bA]; rfl,rfd_again md hx0,fun G3 s3=>⟨_,rfl,c9 ?_⟩⟩;have hG3:=s3 _ _ hG2;refine ⟨_,rfl,by show 1<=aw; omega,fun e3 he3=>?_⟩;have u3:=ax he3 (.lst [.str ""]);refine ⟨m4,e3,_,_,rfl,rfl,u3 _ _ hG3,ao,by rw [aa]; show _ + 1<=_; omega,fun e4 he4=>?_⟩;have u4:=u3.trans (ax he4 (.lst ((Xs.map lsM).flatten.map V.str++[.str ""])));refine ⟨_,rfl,m4,_,rfl,.inl (SqL.of (u4 _ _ hG3)),_,_,rfl,rfl,e4,(Xs.map lsM).flatten++[("":Str)],(Xs.map lsM).flatten.length + 1,by rw [aa]; rfl,by rw [ao,bA]; rfl,rfd_end md ne,fun G5 s5=>⟨_,rfl,c9 ?_⟩⟩;have s35:=(s3.trans u4).trans s5;have hG5:=s35 _ _ hG2;have pu5':=pu2'.same s35;dsimp only [dX];refine aH (bW ⟨by show 7<=aw; omega,fun f1 hf1=>aF ?_⟩);dsimp only [jx];refine aH (bW ⟨_,rfl,cat_step (H:=G5) (xs:=["","machine","machine A"," machine a","Machine a","machine a b","box a 1"]) (ys:=["  machine a","end","on a"]) (ax hf1 _) ao (by decide) fun G6 f2 s6 hf2=>aF ?_⟩);dsimp only [jx];have hG6:=s6 _ _ hG5;have pu6:=pu5'.same s6;have hf2:G6 f2=some (.lst (firstT.map V.str)):=hf2;have nf2:f2≠p:=fun z=>by
  obtain ⟨x,y,ep⟩:=pu6;rw [z,ep] at hf2
  cases hf2
 refine aH ⟨_,rfl,_,rfl,p,10,rfl,pu6,by decide,by decide,fun m G7 m0 m10 pu7 b7=>?_⟩;obtain ⟨i,rfl⟩:∃ i:Nat,m=i:=⟨m.toNat,by omega⟩;have il:i < firstT.length:=by show i < 10; omega
 have hG7:=b7 _ _ hG6 n4;refine ⟨f2,_,_,.str firstT[i],rfl,rfl,SqL.of (b7 _ _ hf2 nf2),dg (by rw [cb,aL il]; rfl),by show 1<=aw; omega,fun e6 he6=>?_⟩;have u6:=ax he6 (.lst [.str firstT[i]]);refine ⟨_,rfl,_,rfl,m4,_,rfl,SqL.of (u6 _ _ hG7),fun e7 he7=>?_⟩;have u7:=ax he7 (.lst (gU ((Xs.map lsM).flatten.map V.str) (some 1) none));have ed:gU ((Xs.map lsM).flatten.map V.str) (some 1) none=((Xs.map lsM).flatten.drop 1).map V.str:=cut_drop (k:=1) (by omega);refine ⟨e6,e7,_,_,rfl,rfl,u7 _ _ ao,ao,by rw [ed,aa,ee]; show 1 + _<=_; omega,fun e8 he8=>⟨e8,firstT[i] :: (Xs.map lsM).flatten.drop 1,1,rfl,by rw [ao,ed]; rfl,rfd_first (ei il) lg md.n24 md.j10,fun G8 s8=>⟨_,rfl,c9 ?_⟩⟩⟩;dsimp only [dX];refine dR ⟨aU _,fun g1 hg1=>⟨g1,[],1,rfl,ao,rfd_nil,fun G9 s9=>⟨_,rfl,cT ⟨by show 2<=aw; omega,fun g2 hg2=>⟨g2,["",""],1,rfl,ao,rfd_two,fun G10 s10=>q _⟩⟩⟩⟩⟩
end
end My.Dr
namespace My
open PySem L2
theorem sU {α:Type} {n:Nat} {us:List α} (h:us.length=n + 1):∃ a l,us=a :: l/\l.length=n:=by
 cases us with
 | nil=>cases h
 | cons a l=>exact ⟨a,l,rfl,Nat.succ.inj h⟩
theorem ye {α:Type} {us:List α} (h:us.length=1):∃ a,us=[a]:=by
 obtain ⟨a,l,rfl,h⟩:=sU h
 cases l with
 | nil=>exact ⟨a,rfl⟩
 | cons b l=>cases h
theorem yf {α:Type} {us:List α} (h:us.length=2):∃ a b,us=[a,b]:=by
 obtain ⟨x,l,rfl,h'⟩:=sU h;obtain ⟨a1,rfl⟩:=ye h';exact ⟨x,a1,rfl⟩
theorem yg {α:Type} {us:List α} (h:us.length=3):∃ a b c,us=[a,b,c]:=by
 obtain ⟨x,l,rfl,h'⟩:=sU h;obtain ⟨a1,b1,rfl⟩:=yf h';exact ⟨x,a1,b1,rfl⟩
theorem yh {α:Type} {us:List α} (h:us.length=4):∃ a b c d,us=[a,b,c,d]:=by
 obtain ⟨x,l,rfl,h'⟩:=sU h;obtain ⟨a1,b1,c1,rfl⟩:=yg h';exact ⟨x,a1,b1,c1,rfl⟩
theorem Bg {α:Type} {us:List α} (h:us.length=5):∃ a b c d e,us=[a,b,c,d,e]:=by
 obtain ⟨x,l,rfl,h'⟩:=sU h;obtain ⟨a1,b1,c1,d1,rfl⟩:=yh h';exact ⟨x,a1,b1,c1,d1,rfl⟩
def Dn (K:ai) (x:Str) (st:di) (f:ak):Prop:=cN K bS x=some (some (.ref f))/\∃ fd,Fun K x x st f fd
def Mn (K:ai) (C:ak) (x q:Str) (st:di) (f:ak):Prop:=(cf K (.ref C) x=some (some (.ref f))/\j6 K (.ref f)=true)/\∃ fd,Fun K x q st f fd
structure Cn (K:ai) (C:ak):Prop where
 c:Cls K C
 m:tY K C=true
 k:dY K (.ref C)=true
theorem dn_i {K:ai} {x:Str} {st:di} {f:ak} {oc:ag} {od an:Option ak} {sl:Array (Option ag)} {kV dc pm cd ct:ag} (a:cN K bS x=some (some (.ref f))) (l:K.lookup f=some ⟨oc,od,.func (eZ x x (lQ st) (jB st) (aZ st) .none kV dc pm an cd ct),sl⟩) (c:j8 K cd x=true) (k:dY K (.ref f)=true):Dn K x st f:=⟨a,_,CW l c k⟩
theorem mn_i {K:ai} {x q:Str} {st:di} {f C:ak} {oc:ag} {od an:Option ak} {sl:Array (Option ag)} {kV dc pm cd ct:ag} (a:cf K (.ref C) x=some (some (.ref f))) (i:j6 K (.ref f)=true) (l:K.lookup f=some ⟨oc,od,.func (eZ x q (lQ st) (jB st) (aZ st) .none kV dc pm an cd ct),sl⟩) (c:j8 K cd q=true) (k:dY K (.ref f)=true):Mn K C x q st f:=⟨⟨a,i⟩,_,CW l c k⟩
theorem dfx {K:ai} {h:cP} {mg:Str->Option ag} {x:Str} {st:di} {f:ak} (ps:List Str) (X:K.In h) (G:h.Ns bS mg) (a:Dn K x st f) (hb:∀ (kV doc pm:ag) (an:Option ak) (cdv ct:ag) (us:List ag),us.length=ps.length->vR (eZ x x (lQ st) (jB st) (aZ st) .none kV doc pm an cdv ct) ⟨us,[]⟩=pure (ps.zip us):=by intro _ _ _ _ _ _ us hl; first | (obtain ⟨a,rfl⟩:=ye hl; rfl) | (obtain ⟨a,b,rfl⟩:=yf hl; rfl) | (obtain ⟨a,b,c,rfl⟩:=yg hl; rfl) | (obtain ⟨a,b,c,d,rfl⟩:=yh hl; rfl) | (obtain ⟨a,b,c,d,e,rfl⟩:=Bg hl; rfl)):∃ fd,Df K mg x st ps f fd:=by
 obtain ⟨a,fd,F⟩:=a;exact ⟨fd,F,F.binds hb,fC X G a⟩
theorem mfx {K:ai} {x q:Str} {st:di} {f C:ak} (ps:List Str) (a:Mn K C x q st f) (hb:∀ (kV doc pm:ag) (an:Option ak) (cdv ct:ag) (us:List ag),us.length=ps.length->vR (eZ x q (lQ st) (jB st) (aZ st) .none kV doc pm an cdv ct) ⟨us,[]⟩=pure (ps.zip us):=by intro _ _ _ _ _ _ us hl; first | (obtain ⟨a,rfl⟩:=ye hl; rfl) | (obtain ⟨a,b,rfl⟩:=yf hl; rfl) | (obtain ⟨a,b,c,rfl⟩:=yg hl; rfl) | (obtain ⟨a,b,c,d,rfl⟩:=yh hl; rfl) | (obtain ⟨a,b,c,d,e,rfl⟩:=Bg hl; rfl)):∃ fd,Fun K x q st f fd/\Binds K fd ps []/\Bp K C x f:=by
 obtain ⟨⟨a,i⟩,fd,F⟩:=a;exact ⟨fd,F,F.binds hb,a,i,F.kp⟩
theorem law_b {K:ai} {x q:Str} {st:di} {f:ak} {fd:cF} {y:Str} (F:Fun K x q st f fd) (hb:∀ (kV doc pm:ag) (an:Option ak) (cdv ct v:ag),vR (eZ x q (lQ st) (jB st) (aZ st) .none kV doc pm an cdv ct) ⟨[v],[]⟩=pure [(y,v)]) (s:ah) (v:ag):tN s fd ⟨[v],[]⟩ [(y,v)]:=by
 obtain ⟨oc,od,kV,doc,pm,an,cdv,ct,osl,rfl,_⟩:=F.ex;exact .of_eq (hb kV doc pm an cdv ct v)
theorem all_mk {l:Cg} {w:bT} {K:ai} {h:cP} {mg:Str->Option ag} {fa f1 f2 f3 f4 f5 f6 f7 f8 f9 f10 f11 f12 f13 f14 f15 f16 f17 f18 f19 f20 f21 f22 f23 f24 f25 f26 f27 f28 f29 f30 f31 f32 f33 f34 f35 f36 f37 f38 f39 f40 C f41 f42 f43 f44 f45:ak} {aK CN D' fIn CFault CNoMark CNoModel CNoRoom CTooLate:ak} {tMP:Tok} (X:K.In h) (G:h.Ns bS mg) (hfa:mg "law"=some (.ref fa))
  (a1:Dn K "formulas_in" iQ f1) (a2:Dn K "leaf_of" qT f2) (a3:Dn K "parts_in" mZ f3) (a4:Dn K "lines_of" pR f4) (a5:Dn K "is_name" jM f5) (a6:Dn K "worth_in" ng f6) (a7:Dn K "number_in" jf f7) (a8:Dn K "read_model" ka f8) (a9:Dn K "machine_from" jg f9) (a10:Dn K "boxes_from" kb f10) (a11:Dn K "queues_from" kQ f11) (a12:Dn K "draws_from" kd f12) (a13:Dn K "hears_from" kf f13) (a14:Dn K "deeds_from" ju f14) (a15:Dn K "deed_from" la f15) (a16:Dn K "deed_of" o7 f16) (a17:Dn K "send_of" qU f17) (a18:Dn K "_law_purse" oA f18) (a19:Dn K "_law_take" fc f19) (a20:Dn K "_law_names" jN f20) (a21:Dn K "_law_worth" iB f21) (a22:Dn K "_law_formula" iR f22) (a23:Dn K "_law_deed" nj f23) (a24:Dn K "_law_deeds" jO f24) (a25:Dn K "_law_machine" iS f25) (a26:Dn K "_law_machines" jh f26) (a27:Dn K "_law_words" jP f27) (a28:Dn K "_law_deed_lines" ip f28) (a29:Dn K "_law_deeds_lines" gf f29) (a30:Dn K "_law_lines" jQ f30) (a31:Dn K "_law_few" qV f31) (a32:Dn K "_law_tried" oB f32) (a33:Dn K "_law_odd" o8 f33) (a34:Dn K "_law_word" kM f34) (a35:Dn K "_law_again" lp f35) (a36:Dn K "_law_strange" kS f36) (a37:Dn K "_law_refused" kT f37) (a38:Dn K "_law_sorts" jR f38) (a39:Dn K "_law_twice" lr f39) (a40:Dn K "law" DV f40) (aC:cN K bS "Lines"=some (some (.ref C))) (a41:Mn K C "__init__" "Lines.__init__" lU f41) (a42:Mn K C "is_behind" "Lines.is_behind" gd f42) (a43:Mn K C "words" "Lines.words" gC f43) (a44:Mn K C "named" "Lines.named" gD f44) (a45:Mn K C "pass_by" "Lines.pass_by" dQ f45) (pC:Cn K C) (nClines:cf K (.ref C) "lines"=some none) (nCplace:cf K (.ref C) "place"=some none) (nCdeed_count:cf K (.ref C) "deed_count"=some none) (gFault:cN K bS "Fault"=some (some (.ref CFault))) (gNoMark:cN K bS "NoMark"=some (some (.ref CNoMark))) (gNoModel:cN K bS "NoModel"=some (some (.ref CNoModel))) (gNoRoom:cN K bS "NoRoom"=some (some (.ref CNoRoom))) (gTooLate:cN K bS "TooLate"=some (some (.ref CTooLate))) (gMomentError:cN K bS "MomentError"=some (some (.ref D'))) (gNoText:cN K bS "NoText"=some (some (.ref CN))) (hmro:(iP K CN).any (fun cd=>cd.mro == [.ref CN,.ref D',.type "ValueError",.type "Exception",.type "BaseException",.type "object"] && cd.hasDict)=true) (hmade:(K.lookup CN).any (fun ob=>ob.cls == .type "type" && (match ob.data,ob.slots.toList with | .cls cd,[_,_,_,_,some (.builtin n),_]=>n == "ValueError.__new__" && !cd.hasDel | _,_=>false))=true) (htail:rq K D' Im "ValueError.__new__"=true) (hinit:cf K (.ref CN) "__init__"=some (some (.ref fIn))) (hfn:j6 K (.ref fIn)=true) (hkp:dY K (.ref CN)=true) (hsa:cf K (.ref CN) "__setattr__"=some (some (.builtin "object.__setattr__"))) (hnl:cf K (.ref CN) "line"=some none) (xga:cf K (.ref CN) "__getattribute__"=some (some (.builtin "BaseException.__getattribute__"))) (xgh:cf K (.ref CN) "__getattr__"=some none) (xcl:cf K (.ref CN) "__class__"=some (some (.builtin "object.__class__"))) (xcn:si K (.builtin "object.__class__") "__get__"=some (some (.builtin "getset_descriptor.__get__"))) (xck:tZ K (.builtin "object.__class__")=some true) (xob:oH K CN (.type "object")=some true) (xbe:oH K CN (.type "BaseException")=some true) (ono:vg K (.ref CN) [.ref CFault,.ref CNoMark,.ref CNoModel,.ref CNoRoom,.ref CTooLate]=some false) (oyes:mW K (.ref CN) (.ref CN)=some true) (ove:mW K (.ref CN) (.type "ValueError")=some true) (oex:qD K (.ref CN) (.ref D')=some true) (aIn:Mn K CN "__init__" "NoText.__init__" oP fIn) (aKi:cN K bS "KINDS"=some (some (.ref aK))) (hTK:Tab K aK wW) (aMp:cN K bS "MOST_PARTS"=some (some (.int 15 tMP))) (zlen:cN K bS "len"=some none) (zabs:cN K bS "abs"=some none) (zisinstance:cN K bS "isinstance"=some none) (zlist:cN K bS "list"=some none) (ztuple:cN K bS "tuple"=some none) (zstr:cN K bS "str"=some none) (zint:cN K bS "int"=some none) (zbool:cN K bS "bool"=some none) (zrange:cN K bS "range"=some none) (zmax:cN K bS "max"=some none) (zdict:cN K bS "dict"=some none) (zenumerate:cN K bS "enumerate"=some none) (zall:cN K bS "all"=some none) (zValueError:cN K bS "ValueError"=some none) (zreversed:cN K bS "reversed"=some none) :
  ∃ fd:cF,(∀ (s:ah) (v:ag),tN s fd ⟨[v],[]⟩ [("_law_script",v)])/\∀ base:cP,K.In base->base.Ns bS mg->dP l.prog w K mg base CX0 81 fa fd ["_law_script"] (Dr.spLaw K):=by
 obtain ⟨_,D1⟩:=dfx ["words","count"] X G a1;obtain ⟨_,D2⟩:=dfx ["word"] X G a2;obtain ⟨_,D3⟩:=dfx ["formula"] X G a3;obtain ⟨_,D4⟩:=dfx ["text"] X G a4;obtain ⟨_,D5⟩:=dfx ["word"] X G a5;obtain ⟨_,D6⟩:=dfx ["word"] X G a6;obtain ⟨_,D7⟩:=dfx ["word","least","most"] X G a7;obtain ⟨_,D8⟩:=dfx ["text"] X G a8;obtain ⟨_,D9⟩:=dfx ["lines","name"] X G a9;obtain ⟨_,D10⟩:=dfx ["lines"] X G a10;obtain ⟨_,D11⟩:=dfx ["lines","names"] X G a11;obtain ⟨_,D12⟩:=dfx ["lines"] X G a12;obtain ⟨_,D13⟩:=dfx ["lines"] X G a13;obtain ⟨_,D14⟩:=dfx ["lines","depth"] X G a14;obtain ⟨_,D15⟩:=dfx ["lines","depth"] X G a15;obtain ⟨_,D16⟩:=dfx ["words"] X G a16;obtain ⟨_,D17⟩:=dfx ["words"] X G a17;obtain ⟨_,D18⟩:=dfx ["_law_script"] X G a18;obtain ⟨_,D19⟩:=dfx ["_law_purse_here","_law_many"] X G a19;obtain ⟨_,D20⟩:=dfx ["_law_purse_here","_law_many"] X G a20;obtain ⟨_,D21⟩:=dfx ["_law_purse_here"] X G a21;obtain ⟨_,D22⟩:=dfx ["_law_purse_here","_law_names_here","_law_most"] X G a22;obtain ⟨_,D23⟩:=dfx ["_law_purse_here","_law_names_here","_law_left","_law_deep"] X G a23;obtain ⟨_,D24⟩:=dfx ["_law_purse_here","_law_names_here","_law_left","_law_deep"] X G a24;obtain ⟨_,D25⟩:=dfx ["_law_purse_here","_law_name"] X G a25;obtain ⟨_,D26⟩:=dfx ["_law_purse_here"] X G a26;obtain ⟨_,D27⟩:=dfx ["_law_formula_here"] X G a27;obtain ⟨_,D28⟩:=dfx ["_law_deed_here","_law_ahead"] X G a28;obtain ⟨_,D29⟩:=dfx ["_law_deeds_here","_law_ahead"] X G a29;obtain ⟨_,D30⟩:=dfx ["_law_machines_here"] X G a30;obtain ⟨_,D31⟩:=dfx ["_law_machines_here"] X G a31;obtain ⟨_,D32⟩:=dfx ["_law_lines_here"] X G a32;obtain ⟨_,D33⟩:=dfx ["_law_number"] X G a33;obtain ⟨_,D34⟩:=dfx ["_law_line"] X G a34;obtain ⟨_,D35⟩:=dfx ["_law_lines_here","_law_at"] X G a35;obtain ⟨_,D36⟩:=dfx ["_law_purse_here","_law_lines_here","_law_at"] X G a36;obtain ⟨_,D37⟩:=dfx ["_law_lines_here","_law_line"] X G a37;obtain ⟨_,D38⟩:=dfx ["_law_lines_here"] X G a38;obtain ⟨_,D39⟩:=dfx ["_law_lines_here","_law_sort","_law_number"] X G a39;obtain ⟨_,D40⟩:=dfx ["_law_script"] X G a40;obtain ⟨_,FLi,bLi,mLi⟩:=mfx ["self","text"] a41;obtain ⟨_,FBe,bBe,mBe⟩:=mfx ["self"] a42;obtain ⟨_,FWd,bWd,mWd⟩:=mfx ["self","depth"] a43;obtain ⟨_,FNd,bNd,mNd⟩:=mfx ["self","depth","kind","count","names"] a44;obtain ⟨_,FPb,bPb,mPb⟩:=mfx ["self"] a45;have MC:Mk K C _:=⟨pC.m,mLi.at_,mLi.fn,pC.k⟩;have e:=hfa.symm.trans D40.m
 cases e;have B:Bl mg:=⟨cX X G zlen,cX X G zabs,cX X G zisinstance,cX X G zlist,cX X G ztuple,cX X G zstr,cX X G zint,cX X G zbool,cX X G zrange,cX X G zmax,cX X G zdict⟩;obtain ⟨fdIn,FIn,bIn,mIn⟩:=mfx ["self","line"] aIn;have N:NT K mg CN D' fIn fdIn:=⟨⟨hmro,hmade,htail,hinit,hfn,hkp,hsa,hnl,⟨xga,xgh,xcl,xcn,xck,xob,xbe⟩⟩,FIn,bIn,(fC X G gNoText)⟩;have O:Oth K mg CN D' CFault CNoMark CNoModel CNoRoom CTooLate:=⟨(fC X G gFault),(fC X G gNoMark),(fC X G gNoModel),(fC X G gNoRoom),(fC X G gTooLate),(fC X G gMomentError),ono,oyes,ove,oex⟩;have T:LT K mg C:=⟨pC.c,nClines,nCplace,nCdeed_count,fC X G aC⟩;have hK:mg "KINDS"=some (.ref aK):=fC X G aKi;have hMP:mg "MOST_PARTS"=some (.int 15 tMP):=fC X G aMp;have ME:mg "enumerate"=none:=cX X G zenumerate;have MA:mg "all"=none:=cX X G zall;have MV:mg "ValueError"=none:=cX X G zValueError;have MR:mg "reversed"=none:=cX X G zreversed;have tBe:Mt K C "is_behind" "Lines.is_behind" gd pBe _ _:=⟨FBe,bBe,mBe⟩;have tWd:Mt K C "words" "Lines.words" gC pWd _ _:=⟨FWd,bWd,mWd⟩;have tNd:Mt K C "named" "Lines.named" gD pNd _ _:=⟨FNd,bNd,mNd⟩;have tPb:Mt K C "pass_by" "Lines.pass_by" dQ pPb _ _:=⟨FPb,bPb,mPb⟩;have tLi:Mt K C "__init__" "Lines.__init__" lU pLi _ _:=⟨FLi,bLi,mLi⟩;exact ⟨_,law_b D40.F fun _ _ _ _ _ _ _=>rfl,fun base _ _=>Dr.ok_law D40 D18 D19 D26 (Dr.ok_ms D26 D19 D20 D25 (Dr.ok_ma D25 D19 D21 D20 D24 (Dr.ok_dsde D23 D24 D19 D21 D22 B 5).2 B) B) D31 D30 (Dr.ok_ll D30 D29 (Dr.ok_slel D28 D29 D27 B 5).2 B) D36 D33 D34 D35 D37 (Dr.ok_rf D37 D32 (Dr.ok_tr D32 D8 (ok_rm D8 MC (ok_li tLi D4 T) bLi tNd (A4 tNd tWd (w8 tWd tBe T B) D5 T B MA) tPb tBe D9 (ok_mf D9 D10 (ok_bf D10 tNd (A4 tNd tWd (w8 tWd tBe T B) D5 T B MA) tPb D6 (Hd D6 D7 B MV) T B) D11 (ok_qf D11 tNd (A4 tNd tWd (w8 tWd tBe T B) D5 T B MA) tPb T B) D12 (ok_df D12 tWd (w8 tWd tBe T B) tPb D7 (Ek D7 B MV) T B) D13 (ok_hf D13 tNd (A4 tNd tWd (w8 tWd tBe T B) D5 T B MA) tPb D14 (Bb D15 D14 D16 (ok_do D16 D17 (ok_so D17 D7 (Ek D7 B MV) D5 D1 (Hg D1 D2 (He D2 D6 D7 D5 B MV MA) D3 B MR hK hTK hMP) B MA) D5 D1 (Hg D1 D2 (He D2 D6 D7 D5 B MV MA) D3 B MR hK hTK hMP) B MA) tWd (w8 tWd tBe T B) tPb N T B 5).2 T B) T B) N T B) N O B MV) B) D39 D38 B⟩
theorem walk {l:Cg} {q:aQ} {loose:List Str} {XP:(Str->Option ag)->cP->Prop} {YP:bT->cP->Prop} {d:Iz} {K:Params->ai} (hn:l.most=some 63) (hdf:d.params.defaults=[])
  (hY:∀ (w:bT) (h:cP),YP w h->(K w.params).In h)
  (F:∀ (w:bT) (mg:Str->Option ag) (fa:ak) (h:cP),(K w.params).In h->h.Ns bS mg->mg d.name=some (.ref fa) ->
   ∃ fd:cF,(∀ (s:ah) (u:ag),tN s fd ⟨[u],[]⟩ [("_law_script",u)])/\∀ base:cP,(K w.params).In base->base.Ns bS mg->dP l.prog w (K w.params) mg base CX0 81 fa fd ["_law_script"] (Dr.spLaw (K w.params))) :
  L2.WalkC q loose XP YP l.row.toRowW d:=
 L2.walkC_of (n:=63) (k:=81) (x:="_law_script") (CX:=fun _=>CX0) (sp:=fun w=>Dr.spLaw (K w.params)) hn (by decide) hdf ⟨rfl,by decide,by decide⟩ hY F (fun _ _ a ns hl hb hS=>⟨a,ns,rfl,hS,hl,hb,fun _=>rfl⟩) fun _ _ _ _ _ z=>z
end My
namespace PySem.W.Fast
def tw3970590211521655821:=0
def tw8158118882311021601:=0
def tw5601435594563560480:=0
def tw5174019687030105259:=0
def tw4344840449923436987:=0
def tw4202556311122260154:=0
def tw2547549953725566100:=0
def tw2465132886732477269:=0
def tw11337880197422060832:=0
def tw9958563648476051214:=0
def tw9772280906239910072:=0
def tw3520607389937608168:=0
def tw12541155312611254106:=0
def tw16866651389568454817:=0
def tw17825373316964424184:=0
def tw1370637671395078530:=0
def tw17801185188358889567:=0
def tw7830660709027901473:=0
def tw7217738351699991953:=0
def tw4871276341582632321:=0
def tw17100356406699504526:=0
def tw16325329130907618254:=0
def tw1060457311784927094:=0
def tw3512350166728568216:=0
def tw4957217934367157746:=0
def tw3345245078247192633:=0
def tw3033509197145944891:=0
def tw18047422120625500861:=0
def tw15815627122051410766:=0
def tw15112932167873566288:=0
def tw14136323941166445924:=0
def tw12101339428606600740:=0
def tw9589238959990798328:=0
def tw3608189045499498625:=0
def tw10079400093743176157:=0
def tw5101409761719611567:=0
def tw17314862748224203866:=0
def tw16366209472564576608:=0
def tw6151648524703712723:=0
def tw11958996383251664889:=0
def tw1401771795163601040:=0
def tw2313733349599269293:=0
def tw10350548337318704007:=0
def tw17375106774169172177:=0
def tw15760883673481798433:=0
def tw17577788956626242445:=0
def tw10357947378106554810:=0
def tw17743244039095434897:=0
def tw12915582430233115141:=0
def tw11913040203472365540:=0
def tw4622092444286233399:=0
def tw9434059829019643720:=0
def tw9132012161694697947:=0
def tw430427993595940995:=0
def tw17468857126258192408:=0
def tw13724786580042544567:=0
def tw1957220433688722653:=0
def tw17602100274581462132:=0
def tw10882991530765570420:=0
def tw16557519607556425087:=0
def tw5854454702623284979:=0
def tw356892536791156275:=0
def tw12177427145227726938:=0
def tw17200472521287511262:=0
def tw7476079995634980268:=0
def tw14836509954091083395:=0
def tw3299261611347230892:=0
def tw18124802694428031812:=0
def tw12156633390652759391:=0
def tw18108164122912572896:=0
def tw16549328332140754857:=0
def tw9009837198714049498:=0
def tw8085948474461325802:=0
def tw7109260699882335827:=0
def tw14006044781461020947:=0
def tw14927064669336965515:=0
def tw2616330540399262908:=0
def tw7444242129287197212:=0
def tw17877807161612933967:=0
def tw4589518886091818819:=0
def tw8039246937898179485:=0
def tw12215829232616591564:=0
def tw11996342652030833313:=0
def tw10815473593859577421:=0
def tw4631224756741941101:=0
def tw9123734569006502916:=0
def tw4323554707501359378:=0
def tw8497245404397991633:=0
def tw12590400734459629665:=0
def tw7772620104239181080:=0
def tw12427998139568174186:=0
def tw2036648357721428358:=0
def tw5803788626709723656:=0
def tw9375681152253656987:=0
def tw8620705110211934601:=0
def tw794257279021286141:=0
def tw3559791954448547122:=0
def tw11023350471386717371:=0
def tw1218457115543694245:=0
def tw16354173978229267236:=0
def tw81105070444099816:=0
def tw8818502727711911124:=0
def tw3153342130858258314:=0
def tw9448540045168226849:=0
def tw4610310192534782359:=0
def tw763719266479794229:=0
def tw3220686014076785697:=0
def tw10308748871783903380:=0
def tw1728629489443106335:=0
def tw6277281740218455434:=0
def tw3738268163425559536:=0
def tw8774295640720977811:=0
def tw14302488619191970915:=0
def tw1744572666848025655:=0
def tw6387222508907039125:=0
def tw14295273040013006154:=0
def tw12978210930387964798:=0
def tw14412042002888903750:=0
def tw2712826417113295048:=0
def tw15282084097735190559:=0
def tw17125109632744305322:=0
def tw11975973318858150160:=0
def tw13123920950199676942:=0
def tw285400697651961239:=0
def tw5995231257089432822:=0
def tw35049996606606888:=0
def tw11881551356526152669:=0
def tw10012585790996746252:=0
def tw10449347904376627341:=0
def tw2696990731778289339:=0
def tw9377366242644522901:=0
def tw9783836923284945417:=0
def tw12189549725240487547:=0
def tw14944546236574821714:=0
def tw16399952825362305908:=0
def tw16856630485972142204:=0
def tw9012853261431485762:=0
def tw15535874500415036455:=0
def tw9950384925759047951:=0
def tw3670295055412746783:=0
def tw8211577265219108329:=0
def tw16256831625268126277:=0
def tw6226129280478625493:=0
def tw15717700123893284438:=0
def tw10220606527195606598:=0
def tw1332405991842432950:=0
def tw11075511970729738090:=0
def tw2948134760787334346:=0
def tw5122795967357288046:=0
def tw10522699495600283862:=0
def tw15676616716307473527:=0
def tw952457727029654571:=0
def tw17441081817092769805:=0
def tw379504475134300435:=0
def tw10539177378756648990:=0
def tw5192924118906747077:=0
def tw2123739575212354093:=0
def tw5482046898820280744:=0
def tw3122332207701051838:=0
def tw17515087072405954518:=0
def tw3680782148150596129:=0
def tw9323092432834303661:=0
def tw17686677610224024485:=0
def tw8312587896432325811:=0
def tw13566223948712259532:=0
def tw9361909156153831268:=0
def tw8312939478170010725:=0
def tw7452467568605921451:=0
def tw12588655285748216360:=0
def tw17317220528400190886:=0
def tw17898964166252852679:=0
def tw7803600659159821412:=0
def tw8399170399428842769:=0
def tw12582863832359838216:=0
def tw5364187196203417515:=0
def tw3890716549388976044:=0
def tw7759968852111565091:=0
def tw3536657860013156053:=0
def tw2940411475831295225:=0
def tw13855713262275716800:=0
def tw17997229566395887058:=0
def tw13328753838584797430:=0
def tw10565803034625973187:=0
def tw14334300780906325317:=0
def tw13763454781469223824:=0
def tw14360088885549718291:=0
def tw10945138961354346477:=0
def tw1418688727555654093:=0
def tw17010307319543839194:=0
def tw9196747248682113085:=0
def tw6268388288212205387:=0
def tw8497944397998301260:=0
def tw895323165549426290:=0
def tw9049227607889741100:=0
def tw13632657995555247688:=0
def tw8637082329635474206:=0
def tw7057723880564831622:=0
def tw16651993168316928877:=0
def tw5368608142900947064:=0
def tw12867958521440197466:=0
def tw8188719382454141293:=0
def tw15810154039945464033:=0
def tw9225102518930584303:=0
def tw5789416274526029060:=0
def tw6869484979251589756:=0
def tw2055694164029119670:=0
def tw2157363920975297334:=0
def tw6221687489130337531:=0
def tw16203753728649271101:=0
def tw6042918827255423818:=0
def tw11258722915789136833:=0
def tw18127377142692877660:=0
def tw14988997558541757005:=0
def tw11566879400158238106:=0
def tw12974165366106719595:=0
def tw794347828224718249:=0
def tw10320890521497890085:=0
def tw17691006547317482749:=0
def tw4949657207638221473:=0
def tw5385222433836150249:=0
def tw13901021561943712510:=0
def tw13784171189941444464:=0
def tw16201127706397304943:=0
def tw8032338822643686898:=0
def tw8722456673420374171:=0
def tw10266827220051714533:=0
def tw5423568333601600892:=0
def tw7907050587162206592:=0
def tw14826410497194539836:=0
def tw17757759472500875678:=0
def tw11436937168805140491:=0
def tw18020685687376100016:=0
def tw12022339086266864218:=0
def tw10406589227352729395:=0
def tw9355883138288926535:=0
def tw5631438643139510374:=0
def tw5816303271541884155:=0
def tw13865034111672585652:=0
def tw7062947938058894519:=0
def tw3363903019267369485:=0
def tw16187682333890622907:=0
def tw14763483901729678352:=0
def tw1750463057641389282:=0
def tw17943199511967090126:=0
def tw3245728153382191921:=0
def tw8632242965486174376:=0
def tw7214959423214824085:=0
def tw5173797383122534911:=0
def tw16756711585645170018:=0
def tw4120785401299698753:=0
def tw16872813497933136303:=0
def tw10448965965771145804:=0
def tw636503223034055647:=0
def tw5065220919255671284:=0
def tw10776334124949657554:=0
def tw11565227088838575068:=0
def tw11354344876300253151:=0
def tw2068171977142285542:=0
def tw5438309188988641892:=0
def tw12584153810002583653:=0
def tw5253667448073617491:=0
def tw12896799158847791765:=0
def tw5386051489300342744:=0
def tw866016624705400255:=0
def tw5680410567817294914:=0
def tw9535051962603579888:=0
def tw7284555075183174767:=0
def tw7312292640551952658:=0
def tw8806374166257388126:=0
def tw9777846887711303567:=0
def tw14601649197487905162:=0
def tw13813000122027228148:=0
def tw4380892422823202613:=0
def tw14606283833032923737:=0
def tw18085609169604917568:=0
def tw9810554615640454236:=0
def tw2443586799314050675:=0
def tw18441462378876695022:=0
def tw13659722194896160218:=0
def tw1476643715101619840:=0
end PySem.W.Fast
namespace My
open PySem PySem.W L2
theorem PySem.W.holds_open {r:OpenRow} {q:aQ} {loose:List Str} {Xt:ah->Bool} {XP:(Str->Option ag)->cP->Prop} {α:Type} {Yf:ah->α} {Ya:bT->α} {YP:bT->cP->Prop} {d:Iz} {kwd:List (Str×cI)} {N:Nat} (left:LeftO r.prog q loose Xt Yf Ya N) (hY:∀ w s,Yf s=Ya w->YP w s.heap)
  (hYk:∀ w h h',YP w h->(∀ b o,h.get? b=some o->h'.get? b=some o)->YP w h') (hX:∀ s,Xt s=true->XP (s.heap.nsMap bS) s.heap) (hXk:∀ mg h h',XP mg h->(∀ b o,h.get? b=some o->h'.get? b=some o)->XP mg h') (hdef:defOf q r.name=some (d,kwd)) (hp:r.prog.theDef r.name=some (d.params,d.body,d.scope))
  (hk:kwWritten? d.params.kwonlyargs d.params.kw_defaults=some kwd) (hRf:∀ s,Xt s=true->RecFacts r.records s.heap) (hwr:(!r.writes || r.records.isEmpty)=true) (k1:r.wellSaid=true) (ok:(chainsOk q && opensWell r.prog && (frees r.toRowW && r.within.isEmpty))=true) (hb:r.prog.bare) (hw:r.toRowW.promised) (sX:WalkC q loose XP YP r.toRowW d):r.Holds:=
 headC left hY hYk hX hXk hdef hp hk hRf hwr k1 ok hb hw sX
open PyProof.Rows
set_option maxRecDepth 100000 in
set_option maxHeartbeats 0 in
theorem aux:PySem.Challenge.rw_momentloom_k75_lines_of_no_model.Holds:=by
 w_on; o_law; k_head; (case hw=>w_witness2)
 k_fill
 refine My.walk (l:=I9) rfl rfl (fun w h Y=>PySem.W.kIn_of Y) ?F
 case F =>
  intro w mg fa h KX G hmg;refine' My.all_mk KX G hmg ?a1 ?a2 ?a3 ?a4 ?a5 ?a6 ?a7 ?a8 ?a9 ?a10 ?a11 ?a12 ?a13 ?a14 ?a15 ?a16 ?a17 ?a18 ?a19 ?a20 ?a21 ?a22 ?a23 ?a24 ?a25 ?a26 ?a27 ?a28 ?a29 ?a30 ?a31 ?a32 ?a33 ?a34 ?a35 ?a36 ?a37 ?a38 ?a39 ?a40 ?aC ?a41 ?a42 ?a43 ?a44 ?a45 ?pC ?nClines ?nCplace ?nCdeed_count ?gFault ?gNoMark ?gNoModel ?gNoRoom ?gTooLate ?gMomentError ?gNoText ?hmro ?hmade ?htail ?hinit ?hfn ?hkp ?hsa ?hnl ?xga ?xgh ?xcl ?xcn ?xck ?xob ?xbe ?ono ?oyes ?ove ?oex ?aIn ?aKi ?hTK ?aMp ?zlen ?zabs ?zisinstance ?zlist ?ztuple ?zstr ?zint ?zbool ?zrange ?zmax ?zdict ?zenumerate ?zall ?zValueError ?zreversed
  case a1 | a2 | a3 | a4 | a5 | a6 | a7 | a8 | a9 | a10 | a11 | a12 | a13 | a14 | a15 | a16 | a17 | a18 | a19 | a20 | a21 | a22 | a23 | a24 | a25 | a26 | a27 | a28 | a29 | a30 | a31 | a32 | a33 | a34 | a35 | a36 | a37 | a38 | a39 | a40=>
   refine' My.dn_i ?a ?l ?c ?k
   case a=>k_is
   case l=>k_is
   case c=>k_is
   case k=>k_is
  case aC=>k_is
  case a41 | a42 | a43 | a44 | a45=>
   refine' My.mn_i ?a ?i ?l ?c ?k
   case a=>k_is
   case i=>k_is
   case l=>k_is
   case c=>k_is
   case k=>k_is
  case pC=>exact ⟨⟨by k_is,by k_is,by k_is,by k_is⟩,by k_is,by k_is⟩
  case nClines | nCplace | nCdeed_count | zlen | zabs | zisinstance | zlist | ztuple | zstr | zint | zbool | zrange | zmax | zdict | zenumerate | zall | zValueError | zreversed=>k_is
  case gFault | gNoMark | gNoModel | gNoRoom | gTooLate | gMomentError | gNoText | aKi | aMp=>k_is
  case hmro | hmade | hinit | hfn | hkp | hsa | hnl | xga | xgh | xcl | xcn | xck | xob | xbe | ono | oyes | ove | oex | hTK=>(first | k_is | rfl | decide | decide +kernel)
  case htail=>k_exc
  case aIn=>(refine' My.mn_i ?a ?i ?l ?c ?k; (case a=>k_is); (case i=>k_is); (case l=>k_is); (case c=>k_is); (case k=>k_is))
end My
theorem PySem.Challenge.cw_momentloom_k75_lines_of_no_model_holds : PySem.Challenge.rw_momentloom_k75_lines_of_no_model.Holds := by
 exact My.aux

