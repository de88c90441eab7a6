import PyProof.Rows.All
import Wide.All
import OpenK.AllK
import Wide.FinOn
import Lean
import PyProof.EqAt
import PyProof.EqKinds
import PyProof.TupleCall
import KE.KDictOf
import PyProof.AttrMissSeq
import PyProof.DictCopy
import PyProof.NeKinds
import KE.KTab
import PyProof.DictWalks
import PyProof.MinMaxWalk
import PyProof.MeetsDictList
import PyProof.DictFindH
import PyProof.DictTruth
import KE.KRevSl
import KE.KIntText
import PyProof.ExcAttrAll.ValueError
import PyProof.DictItems
import KE.KDictSum
import PyProof.Rows.SortStr
import PyProof.Rows.SortWalk
import PyProof.ExcArgsOwn
import PyProof.NsDelKeeps
import PyProof.EnumMake
import PyProof.EnumFor
import PyProof.EnumStmt
import PyProof.Rows.EnumRows
import PyProof.Rows.SortRev
import PyProof.StrBlockI
import PyProof.SliceStr2
import KE.KRevIter
import PyProof.StrBlockH
import PyProof.Rows.StrNews
import PyProof.StrLawsReplace
import PyProof.WalkInts
import PyProof.ConsumeWalk
import PyProof.ConsumeS
import PyProof.FString5
import PyProof.ListNew
import PyProof.CollectIter
import PyProof.Rows.CatFin
import PySem.Challenge.RW_momentloom_k74_whole_beginnings_of_model
open List renaming length_map->aa,length_append->ae,mem_cons_of_mem->ar,mem_cons->au,mem_cons_self->aw,mem_singleton->az,size_toArray->aA,length_cons->aE,replicate->aJ,getElem?_eq_getElem->aN,getElem?_eq_some_iff->aQ,mem_append_right->aT,mem_append->aU,append_assoc->bo,map_cons->bu,map_append->bA,length_take->bP,mem_of_getElem?->bS,append_nil->bW,take_length->bZ,getElem?_map->cw,mem_map->cO,length_replicate->cW,take_succ->cX,take_of_length_le->da,mem_append_left->dj,replicate_succ->dy,mem_of_mem_take->dC,getElem?_append_right->dJ,nodup_append->dM,lookup->dS,lookup_cons->eg,take_append_of_le_length->eH,nodup_cons->eO,length_pos_iff->fj,length_reverse->fk,sum_cons->fX,length->fZ,reverse_cons->gk,take_append->gB,mem_filterMap->gD,getElem?_eq_none->gF,getElem?_replicate->hZ,range->iz,length_nil->iJ,foldl_cons->iK,take_append_drop->iO,take_sublist->iS,flatten_cons->iZ,flatMap_cons->i4,getElem?_append_left->jv,mem_map_of_mem->jA,any_cons->jH,find?_cons->jP,getElem?_set_self->kj,length_singleton->kJ,length_drop->kO,all_eq_true->kQ,getElem_mem->kS,cons_append->kU,not_mem_nil->kW,map_take->lC,mem_of_mem_drop->lF,nil_append->lY,take_succ_cons->mC,map_congr_left->mP,mem_range->nz,head?->nU,drop_eq_getElem_cons->oA,mem_reverse->pz,mem_flatMap->pB,mem_flatten->pD,nil_sublist->pG,of_mem_zip->qh,sum_append->qx,getElem?_set_ne->qU,filterMap_cons->rE,flatMap_append->rJ,pairwise_cons->sF,mem_replicate->sI,replicate_append_replicate->t7,eraseIdx_eq_take_drop_succ->t8,drop_length->uq,mem_filter->vv,drop_left->wU,getElem?_take_of_lt->yc,map_drop->yh,getElem?_cons_succ->zk,map_nil->zx,getElem?_reverse->Aj,dropLast_concat->A9,drop_eq_nil_iff->Bo,set->Br,map_eq_nil_iff->B7,replicate_zero->Cj,takeWhile_cons->Ck,getElem?_drop->Ct,push_toArray->Dg,ext_getElem?->DX,take_add_one->Eu,take_left'->Gi,drop_zero->GK,take_left->HE,drop_drop->HH,nodup_nil->HP,all_cons->Iu,map_map->Jx
open PySem renaming wpAny_bind->af,Value->ag,Shared->ah,Addr->aj,wpAny_pure->av,sizeLine->ax,model->aM,Program->aS,wpAny->aY,mainGlobals->bF,Around->bJ,wpAny_holding->bK,starEach->bM,World->bN,wpAny_standAt->bU,boot_len->bX,FuncData->cf,wpAny_mono->cg,Expr->cA,Heap->cI,Paired->cK,Stmt->dw,compareOp->dF,intText?->dH,eval->d6,wpAny_passesOwn->eB,wpAny_loadPart'->eC,mem_of_lookup->eD,bootBuiltins->eE,wpAny_truthy_bool->eM,wpAny_of_eq->eP,backTo->fg,sysModules->fw,wpAny_execs_nil->fK,cLine->gp,foldedSetIterable->gv,wpAny_newObj_type->gw,wpAny_field->iN,letOwnedTupleGo->i6,attributeBase->jm,noteFrame->jq,assignEach->jD,binaryOp->jE,checkBuiltinCall->jQ,callWith->kg,Builtin->km,wpAny_call->kq,wpAny_Call_Name_kw->kr,Scope->kB,keywordEach->kC,rawInt->kX,NameKind->kY,reprText->k8,Model->lU,swapsWith->lZ,Result->ma,typeIs_str->mj,onTheHeap->mr,behindInMarks->mS,comprehension->mU,ExceptHandler->mV,sliceBounds->mZ,codeAny_call_builtin->nk,assign->nV,theTreesLotGoes->oa,call_meets->o9,wpAny_setField->pe,holding->pK,sizeLine_eq->pO,codeAny->pQ,valueAt->pR,wpAny_dictEntries->pU,notedBy->pV,wpAny_point->pX,strIterType->pY,wpAny_loadPart_at->pZ,plainId_quiet->qm,wpAny_attempt->qp,backToKw->qO,Keyword->rh,getItem->rj,callerA->rp,wpAny_specialOf->rF,codeAny_builtin->rG,leftWithCleanup->rH,call->rO,pythonCodeMadeTheCall->rZ,wpAny_loadPart->sN,unbindBehindTheSuite->sS,standAt->sZ,BindsTo->tD,leaving->tE,numSeenOf->tH,Ctx->tV,arm_eval_Call_Name'->tX,typeLookup->uF,closureFor->uM,execs->vy,wpAny_assign_Name->vB,wpAny_pyIter_list->vC,bindArgs->vD,plainObj_wpAny_Assign_Attribute->vW,isTrue->wY,PassesOwn->wZ,getMethod->xa,IsPart->xg,setFlight->xm,DictEntry->xp,callGetattribute->xG,wpAny_comp_letGo->xM,subscripted->yd,Within->yk,getAttrByItsOwn->yM,spliced->zu,wpAny_richCompare_same_room->zy,relabel->zA,builtinsNs->zC,Operator->zF,recursionLimit->zK,wpAny_newFunctionEnv_cells->zP,compPost->zW,wpAny_bindName->Aa,markTheRefusal->Ab,wpAny_rule->Ac,isInstance->Ag,boundAndCalled->Ah,Comprehension->B0,tupleKind->Cm,CmpOp->Co,bindL->Cp,bindC->Cq,cellsFrom->Cr,pyNext->CF,wpAny_pyNext_list_item->CG,getAttr->CL,codeAny_mono->CS,seqIndex_neg->CY,wpAny_mkText->Dy,wpAny_isTrue_Compare1->EK,wpAny_pyNext_list_end->EL,exec_Assign_Name_used->EN,builtinLookup_eq_fast->ER,GenState->EV,seqIndex_of->E6,atKey->Fb,wpAny_newFunctionEnv->Fi,getAttr?->Fx,wpAny_pyIter_revIter->FC,stripped->Gh,KeyKind->Gm,wpAny_raiseNew_none->Gy,wpAny_isSubtype_exc->GG,wpAny_Name->HW,pyIter->Ic,PlainAttrs->Iv,typeOf->Iw,wpAny_entryPlaceOf->IC,DefRec->IM,hookBefore->IQ,call_reversed_list->IR,operate->Jo,slot_list_getitem->Jp,wpAny_frameOf_fun->Jr,newList->Js,callAny->Jt,classAt->Jv
open PySem.W renaming Frag->ai,findIn->bV,nsIn->cC,mg_none_of->cP,keepIn->dZ,InstAt->eF,looks_findIn->eQ,mg_of->eT,emptyDict->eX,fnOf->eY,instObj->gH,hideAll->gI,clsIn->iA,lookIn->jU,hasDictIn->jV,isFn->jW,codeIn->jY,notCls->j5,callWith_K->mf,kitOne->mB,mroIn->nY,plainGet->oE,cellsFrom_some->o8,findObj->px,methodCall_KW->pI,hideAll_none->p8,exmOne->qr,hideAll_get->qL,plainGet_of->qM,looks_clsIn->qN,looks_mroIn->qP,excIn->qX,of_hideAll->q0,looks_find->rq,methodObj->rL,specialIn->rR,handed_on->r9,handedIn->sL,any_some->sM,takerIn->tO,makesIn->tP,takesIn->tQ,kitAny->uX,Looks->vL,funFrames_hide->xD,findObj_own->zv,codeRec_of->zO,plainOver->AJ,set_plain->AK,class_get->A0,exm_one->Cu,OpenLaw->Cv,KitX->Fy,pre_splitW->Iy
open PySem.Heap renaming get?_push_of_some->ay,lt_size->bb,get?_push_size->bH,get?_update_other->c9,get?_update_self->fJ,size_push->jk,get?_none_of_le->lD,SameBut->mQ,MadeExc->mW,get?_update_ne->BX,MadeExcOf->Gz
open Nat renaming le_refl->aF,zero_le->aR,lt_of_lt_of_le->bg,ne_of_lt->br,le_trans->bC,lt_irrefl->dz,mul_le_mul_right->ec,le_succ->gS,lt_succ_self->ju,succ_le_succ->jw,min_eq_left->jS,le_of_lt->kn,lt_succ_of_lt->ku,succ_mul->ky,add_assoc->lG,ne_of_gt->mX,lt_or_ge->nj,toDigits->nv,zero_add->ny,lt_trans->tT,isDigit_of_mem_toDigits->wH,add_sub_cancel_left->zB,le_of_eq->zI,sub_zero->zX,lt_of_succ_lt_succ->zY,sub_self->Au,log2_lt->BF,add_sub_cancel->Dk,le_succ_of_le->ET,le_add_right->Gd
open PySem.F renaming plainAttrs_list->aP,slot_list_append->bh,type_list_append->bj,plainAttrs_str->bz,slot_str_join->cF,type_str_join->cG,slot_list_extend->gQ,type_list_extend->gR,excAttr_ValueError->gY,slot_str_startswith->lQ,type_str_startswith->lR,args_str_split_2->t4,entry_str_split->uV,args_tuple_add_2->vE,slot_str_split->vJ,entry_tuple_add->we,slot_tuple_add->xf,entry_bexc_ga->xH,slot_str_split->xV,type_str_split->xW,slot_list_pop->yf,type_list_pop->yg,called_int->BJ
open PySem.Str renaming ofString->ba,ext'->kz,join->lN,empty->uA,length->C1
open Bool renaming false_ne_true->bc,and_eq_true->dA,and_eq_true_iff->gb,and_false->jo,false_eq_true->jR,eq_iff_iff->qf,false_and->qV,not_eq_true'->tF,noConfusion->t9,or_false->ye,or_true->zz,eq_false_iff->DA,true_and->IF
open PySem.Txt renaming join->bB,slice->dP,split->nJ,slice_le->tZ,lstripChars->vQ
open Array renaming length_toList->bY,getElem?_eq_some_iff->gC,toList_inj->hV,append_assoc->jO,size_append->kh,getElem?_toList->kD,eq_empty_of_size_eq_zero->kL,toArray_toList->lp,getElem?_eq_getElem->oi,toList_extract->qT,toList->yn,toList_append->A6
open Option.some renaming inj->b0
open False renaming elim->cL
open PySem.PassesOwn renaming never->cN
open Option renaming map_eq_some_iff->c8,isSome_iff_exists->ou,bind_eq_some_iff->oU,bind_some->oV,getD_none->Cs,map->Jw
open List.cons renaming inj->dv
open Int renaming toNat_natCast->eI,emod_lt_of_pos->gG,emod_nonneg->iM,toNat->Gf
open Ne renaming symm->eU
open List.Pairwise renaming sublist->e9
open PyProof.Rows renaming callWith_type1->fY,slot_tuple_getitem->jG,slice_from_eq->kT,envOfC->qi,toString_length_le->qR,AllBare->q8,signs_ofString->sv,StrsAre->tG,digit_range->tK,split_pos->uo,subscriptTail->BD,subscriptTail_builtinR->CZ,IntsAre->C6,Subscript_->Iq
open PySem.Builtin.Int renaming intBits->gP
open PySem.Builtin.List renaming listExtendWith->ik,listTooLong->lW,listSameRef->tI,listItems->uh
open PySem.Paired renaming mono->ip,length->kG
open Decidable renaming not_not->iF
open PySem.Obj renaming data_mapFields->iG,mapSeq->j0,isFreed_of_fields->kP,mapFields->lE,cls_mapFields->EM
open PySem.Builtin.Slice renaming slicePlaces->iI,sliceAdjust->kZ,sliceApplied->rS
open PySem.Builtin.Tuple renaming tupleExact->iT
open PySem.Around renaming under_plainId->i5,under->yb
open List.Sublist renaming refl->jB,append->vP
open PySem.W.Looks renaming here->kI
open PySem.EntryCells renaming newEntry->kK
open PySem.Calls renaming evalArgs_plain->k7,spliced_cons->mY,spliced_nil->oq,Name_function_global->vz,callWith_builtin->yw,Constant_str->Bx
open PySem.NumText renaming step->lP,AllDigits->A7
open PySem.W.WData renaming weight->mq,layableAll->tU,weightAll->uN
open PySem.Code renaming quiet_builtin->nI,isFrame->zw
open Char renaming toNat->p0
open PySem.Builtin.ObjectAttr renaming bindTo->qQ,storeInDict->ES
open PySem.Builtin.Str renaming subAt->qS
open PySem.Sem renaming wp_mono->rn,wp_bind'->tW,wp->Dp,wp_runValue->Gx
open PyProof.Rows.KTD renaming inKeys->sx,inKeys->xA,text_of_look->Fp
open PySem.SeqAt.RcNeAt renaming lists_lengths->sE
open PySem.Builtin.Dict renaming dictSlotArgs->sR,samePairs->ud
open PySem.W.KIN renaming call_text->vw,signs_num->vx,val_back->vO
open PySem.SeqAt.EqAt renaming int_str->x8,str_int->x9
open PySem.Heap.Ns1 renaming of_empty->zJ
open PySem.StrLaws renaming join_split->Am,split_free->An
open PySem.Value renaming isStrOf_shape->AC,isStrOf->Gj,isInt->Jm
open PyProof.Rows.IsTup renaming new->CW
open Nat.succ renaming inj->EO
open Eq renaming symm->Fj
open PySem.Walks renaming strAscii->Fz,strWide->GA
open Std.Legacy.Range renaming forIn_eq_forIn_range'->Gv,size->Gw
open PySem.Challenge renaming rw_momentloom_k74_whole_beginnings_of_model->Jl
open PySem.Heap.IsSliceOf renaming new->Jn
open PySem.W.WShape renaming has->Jq
open PySem.Heap.UpToSlots renaming of_keeps->Ju
-- CHANGE: your row's module here, as the last of these rows
set_option Elab.async false
set_option linter.all false
set_option maxRecDepth 100000
namespace L2
open PySem PySem.Spec PyProof.Rows
abbrev Key:=Sum Int Str
def vR:Key->ag->Bool
 | .inl k,v=>Jm k v
 | .inr x,v=>Gj x v
def keyH (w:bN):Key->Int
 | .inl k=>hashInt k
 | .inr x=>hashStr w x
theorem gK:∀ {k:Key} {v:ag},vR k v=true->(∃ i t,k=Sum.inl i/\v=Value.int i t)\/(∃ x t,k=Sum.inr x/\v=Value.str x t)
 | .inl i,v,h=>by
  obtain ⟨t,e⟩:=Value.isInt_shape (k:=i) (v:=v) h;exact .inl ⟨i,t,rfl,e⟩
 | .inr x,v,h=>by
  obtain ⟨t,e⟩:=AC (x:=x) (v:=v) h;exact .inr ⟨x,t,rfl,e⟩
theorem Bu (i:Int) (t:Tok):vR (.inl i) (.int i t)=true:=by simp [vR,Jm]
theorem Bv (x:Str) (t:Tok):vR (.inr x) (.str x t)=true:=by simp [vR,Gj]
theorem HQ (a b:Int):decide ((Sum.inl a:Key)=Sum.inl b)=(a == b):=by
 by_cases e:a=b
 ·subst e; simp
 ·have h:¬ (Sum.inl a:Key)=Sum.inl b:=fun q=>e (Sum.inl.inj q);rw [decide_eq_false h];exact (beq_eq_false_iff_ne.mpr e).symm
theorem HR (a b:Str):decide ((Sum.inr a:Key)=Sum.inr b)=decide (a=b):=by
 by_cases e:a=b
 ·subst e; simp
 ·have h:¬ (Sum.inr a:Key)=Sum.inr b:=fun q=>e (Sum.inr.inj q);rw [decide_eq_false h,decide_eq_false e]
theorem HS (a:Int) (b:Str):decide ((Sum.inl a:Key)=Sum.inr b)=false:=decide_eq_false (fun q=>nomatch q)
theorem HU (a:Str) (b:Int):decide ((Sum.inr a:Key)=Sum.inl b)=false:=decide_eq_false (fun q=>nomatch q)
def gL (prog:aS) (w:bN):Gm prog w Key where
 is:=vR
 hash:=keyH w
 inj:=fun v a b ha hb=>by
  rcases gK ha with ⟨i,t,rfl,rfl⟩ | ⟨x,t,rfl,rfl⟩
  ·rcases gK hb with ⟨j,u,rfl,e⟩ | ⟨y,u,rfl,e⟩
   ·injection e with e1 _; rw [e1]
   ·exact nomatch e
  ·rcases gK hb with ⟨j,u,rfl,e⟩ | ⟨y,u,rfl,e⟩
   ·exact nomatch e
   ·injection e with e1 _; rw [e1]
 byValue:=fun k v h=>by
  rcases gK h with ⟨i,t,rfl,rfl⟩ | ⟨x,t,rfl,rfl⟩ <;> rfl
 pyHash:=fun hv h=>by
  rcases gK hv with ⟨i,t,rfl,rfl⟩ | ⟨x,t,rfl,rfl⟩
  ·exact wpAny_pyHash_int h
  ·exact wpAny_pyHash_str h
 eqBool:=fun hu hv h=>by
  rcases gK hu with ⟨i,t,rfl,rfl⟩ | ⟨x,t,rfl,rfl⟩
  ·rcases gK hv with ⟨j,u,rfl,rfl⟩ | ⟨y,u,rfl,rfl⟩
   ·rw [HQ] at h; exact wpAny_eqBool_int h
   ·rw [HS] at h; exact x8 i t y u _ _ _ _ h
  ·rcases gK hv with ⟨j,u,rfl,rfl⟩ | ⟨y,u,rfl,rfl⟩
   ·rw [HU] at h; exact x9 x t j u _ _ _ _ h
   ·rw [HR] at h; exact wpAny_eqBool_str h
 «strs»:=fun k x t v h=>by
  rcases gK h with ⟨i,u,rfl,e⟩ | ⟨y,u,rfl,e⟩
  ·exact nomatch e
  ·injection e with e1 _;subst e1
   cases v <;> rfl
theorem yi (prog:aS) (w:bN) (i:Int) (t:Tok):(gL prog w).is (.inl i) (.int i t)=true:=Bu i t
theorem yj (prog:aS) (w:bN) (x:Str) (t:Tok):(gL prog w).is (.inr x) (.str x t)=true:=Bv x t
inductive V where
 | non | bl (b:Bool) | int (i:Int) | str (x:Str) | byt (b:Array UInt8) | flt (b:UInt64) | ref (a:aj) | ty (n:String)
 deriving DecidableEq
def RelV:V->ag->Prop
 | .non,u=>u=Value.none
 | .bl b,u=>u=Value.bool b
 | .int i,u=>∃ t,u=Value.int i t
 | .str x,u=>∃ t,u=Value.str x t
 | .byt b,u=>∃ t,u=Value.bytes b t
 | .flt b,u=>∃ t,u=Value.float b t
 | .ref a,u=>u=Value.ref a
 | .ty n,u=>u=Value.type n
abbrev dq:List V->List ag->Prop:=cK RelV
theorem dq.length {xs:List V} {us:List ag} (r:dq xs us):xs.length=us.length:=kG r
theorem dq.get:∀ {xs:List V} {us:List ag} {i:Nat} {x:V},dq xs us->xs[i]?=some x->∃ u,us[i]?=some u/\RelV x u
 | _,_,_,_,.nil,e=>by simp at e
 | _,_,0,_,.cons r _,e=>by simp at e; subst e; exact ⟨_,rfl,r⟩
 | _,_,i + 1,x,.cons _ t,e=>by
  obtain ⟨u,h1,h2⟩:=dq.get (i:=i) (x:=x) t (by simpa using e);exact ⟨u,by simpa using h1,h2⟩
theorem dq.set {x:V} {u:ag} (r:RelV x u):∀ {xs:List V} {us:List ag} (i:Nat),dq xs us->dq (xs.set i x) (us.set i u)
 | _,_,_,.nil=>.nil
 | _,_,0,.cons _ t=>.cons r t
 | _,_,i + 1,.cons q t=>.cons q (dq.set r i t)
theorem dq.append:∀ {xs ys:List V} {us ws:List ag},dq xs us->dq ys ws->dq (xs++ys) (us++ws)
 | _,_,_,_,.nil,s=>s
 | _,_,_,_,.cons r t,s=>.cons r (dq.append t s)
theorem dq.take:∀ {xs:List V} {us:List ag} (n:Nat),dq xs us->dq (xs.take n) (us.take n)
 | _,_,0,_=>.nil
 | _,_,_ + 1,.nil=>.nil
 | _,_,n + 1,.cons r t=>.cons r (dq.take n t)
theorem dq.drop:∀ {xs:List V} {us:List ag} (n:Nat),dq xs us->dq (xs.drop n) (us.drop n)
 | _,_,0,r=>r
 | _,_,_ + 1,.nil=>.nil
 | _,_,n + 1,.cons _ t=>dq.drop n t
def rK:Option V->Option ag->Prop
 | some v,some u=>RelV v u
 | none,none=>True
 | _,_=>False
def KV {κ:Type}:List (κ×V)->List (κ×ag)->Prop:=cK fun (p:κ×V) (q:κ×ag)=>p.1=q.1/\RelV p.2 q.2
def kV:Key->V
 | .inl i=>.int i
 | .inr x=>.str x
inductive HO where
 /-- a list -/
 | lst (xs:List V)
 /-- a tuple (never changes) -/
 | tup (xs:List V)
 /-- a dict whose keys are ints and texts; one whose keys are tuples of ints and texts (the empty one is both) -/
 | dK (kvs:List (Key×V)) | dT (kvs:List (List Key×V))
 /-- a set of ints: its members, its size -/
 | set (S:Int->Bool) (n:Nat)
 /-- an instance of the class at C, its dict at dx, its attributes -/
 | ins (C dx:aj) (fs:List (Str×V))
 /-- the dict of the instance at x -/
 | own (x:aj)
 /-- the dict of an exception -/
 | xd (fs:List (Str×V))
 /-- a bound method, f of x -/
 | met (f x:aj)
 /-- a range object lo, lo + 1, .. below hi -/
 | rng (lo hi:Int)
 /-- a thing that is known to the object (the script; a dict while a loop walks it): read, never written while it is so -/
 | frz (o:Obj) (u:HO)
 /-- a code object's table -/
 | tbl (ps:Array ag)
 /-- any other thing, by what is true of its one object (a def of one's own: SetO a S n := HO.ext fun h => ..) -/
 | ext (φ:cI->Prop)
abbrev Hp:=aj->Option HO
def upd (H:Hp) (a:aj) (o:HO):Hp:=fun b=>if b=a then some o else H b
theorem ao {H:Hp} {a:aj} {o:HO}:upd H a o a=some o:=by unfold upd; rw [if_pos rfl]
theorem aX {H:Hp} {a b:aj} {o:HO} (h:b≠a):upd H a o b=H b:=by unfold upd; rw [if_neg h]
theorem Cw {H:Hp} {a b:aj} {o u:HO} (h:H a=some o) (h':H b=some u) (d:o≠u):a≠b:=by
 intro e; subst e; rw [h] at h'; exact d (b0 h')
theorem bw {H:Hp} {a b:aj} {o:HO} (h:H a=some o) (h':H b=none):a≠b:=by
 intro e; subst e; rw [h] at h'; cases h'
section
variable (P:aS) (w:bN)
def gj (H:Hp) (h:cI) (a:aj):HO->Prop
 | .lst xs=>xs.length<=ax/\∃ (its:List ag) (n:Nat),dq xs its/\h.get? a=some {cls:=.type "list",data:=.seq its.toArray n}
 | .tup xs=>xs.length<=ax/\∃ its:List ag,dq xs its/\IsTup h a its.toArray
 | .dK kvs=>kvs.length<=ax/\(a == fw)=false/\∃ vs,KV kvs vs/\h.DictOf (gL P w) a vs
 | .dT kvs=>kvs.length<=ax/\(a == fw)=false/\∃ xs:List (List Key×aj×ag),
   cK (fun (p:List Key×V) (q:List Key×aj×ag)=>p.1=q.1/\H q.2.1=some (.tup (p.1.map kV))/\RelV p.2 q.2.2) kvs xs /\
   ∃ o es ep,h.get? a=some o/\o.ExactDict/\o.data=.dict es ep/\es.toList=xs.map (entryOfKey (Cm (gL P w)))/\(xs.map (·.1)).Nodup
 | .set S n=>h.SetOf (intKind P w) a S n
 | .ins C dx fs=>H dx=some (.own a)/\fs.length<=1000/\dx≠a/\h.get? a=some (gH C dx) /\
   ∃ mA,h.Ns1 dx mA/\(∀ f,rK (fs.lookup f) (mA f))/\yk mA (fs.map (·.1))
 | .own _=>∃ o,h.get? a=some o
 | .xd fs=>∃ mA,h.Ns1 a mA/\∀ f,rK (fs.lookup f) (mA f)
 | .rng lo hi=>∃ t u v,h.get? a=some {cls:=.type "range",data:=.fields #[.int lo t,.int hi u,.int 1 v]}
 | .frz o u=>h.get? a=some o/\gj H h a u
 | .tbl ps=>h.get? a=some {cls:=.none,data:=.fields ps}
 | .met f x=>h.get? a=some (rL (.ref f) (.ref x))
 | .ext φ=>φ h/\(∃ o,h.get? a=some o)/\∀ h1 h2:cI,φ h1->(∀ o,h1.get? a=some o->h2.get? a=some o)->φ h2
def HOk (H:Hp) (h:cI):Prop:=∀ a o,H a=some o->gj P w H h a o
end
section
variable {P:aS} {w:bN} {H H':Hp} {h h':cI} {a:aj} {o:HO}
theorem gj.lt (x:gj P w H h a o):a < h.objs.size:=by
 cases o with
 | lst xs=>obtain ⟨_,_,_,_,e⟩:=x; exact bb e
 | tup xs=>obtain ⟨_,_,_,p⟩:=x; exact p.lt
 | dK kvs=>obtain ⟨_,_,_,_,o,_,_,e,_⟩:=x; exact bb e
 | dT kvs=>obtain ⟨_,_,_,_,o,_,_,e,_⟩:=x; exact bb e
 | set S n=>obtain ⟨o,_,_,_,e,_⟩:=x; exact bb e
 | ins C dx fs=>obtain ⟨_,_,_,e,_⟩:=x; exact bb e
 | own y=>obtain ⟨_,e⟩:=x; exact bb e
 | xd fs=>obtain ⟨_,⟨_,_,_,e,_⟩,_⟩:=x; exact bb e
 | rng lo hi=>obtain ⟨_,_,_,e⟩:=x; exact bb e
 | frz ob u=>obtain ⟨e,_⟩:=x; exact bb e
 | tbl ps=>exact bb (show h.get? a=some _ from x)
 | met f y=>exact bb (show h.get? a=some _ from x)
 | ext φ=>obtain ⟨_,⟨_,e⟩,_⟩:=x; exact bb e
theorem Paired.mapP {α β:Type} {F G:α->β->Prop}:∀ {l₁:List α} {l₂:List β},cK F l₁ l₂->(∀ a b,F a b->G a b)->cK G l₁ l₂
 | _,_,.nil,_=>.nil
 | _,_,.cons r t,f=>.cons (f _ _ r) (Paired.mapP t f)
theorem gj.stay (x:gj P w H h a o) (k:∀ b u,(b=a\/H b=some (.own a))->h.get? b=some u->h'.get? b=some u)
  (ho:∀ b,H b=some (.own a)->H' b=some (.own a)) (ht:∀ b xs,H b=some (.tup xs)->H' b=some (.tup xs)):gj P w H' h' a o:=by
 induction o with
 | lst xs=>obtain ⟨z,its,n,r,e⟩:=x; exact ⟨z,its,n,r,k _ _ (.inl rfl) e⟩
 | tup xs=>obtain ⟨z,its,r,ob,e,c⟩:=x; exact ⟨z,its,r,ob,k _ _ (.inl rfl) e,c⟩
 | dK kvs=>obtain ⟨z,y,vs,r,ob,es,ep,e,c⟩:=x; exact ⟨z,y,vs,r,ob,es,ep,k _ _ (.inl rfl) e,c⟩
 | dT kvs =>
  obtain ⟨z,y,xs,r,ob,es,ep,e,c⟩:=x;exact ⟨z,y,xs,Paired.mapP r fun p q z=>⟨z.1,ht _ _ z.2.1,z.2.2⟩,ob,es,ep,k _ _ (.inl rfl) e,c⟩
 | set S n=>obtain ⟨ob,es,ep,t,e,c⟩:=x; exact ⟨ob,es,ep,t,k _ _ (.inl rfl) e,c⟩
 | ins C dx fs =>
  obtain ⟨d,z,ne,e,mA,⟨od,es,ep,e2,c⟩,r⟩:=x;exact ⟨ho _ d,z,ne,k _ _ (.inl rfl) e,mA,⟨od,es,ep,k _ _ (.inr d) e2,c⟩,r⟩
 | own y=>obtain ⟨ob,e⟩:=x; exact ⟨ob,k _ _ (.inl rfl) e⟩
 | xd fs=>obtain ⟨mA,⟨od,es,ep,e,c⟩,r⟩:=x; exact ⟨mA,⟨od,es,ep,k _ _ (.inl rfl) e,c⟩,r⟩
 | rng lo hi=>obtain ⟨t,u,v,e⟩:=x; exact ⟨t,u,v,k _ _ (.inl rfl) e⟩
 | frz ob u ih=>obtain ⟨e,q⟩:=x; exact ⟨k _ _ (.inl rfl) e,ih q⟩
 | tbl ps =>
  have e:h.get? a=some {cls:=.none,data:=.fields ps}:=x;show h'.get? a=some {cls:=.none,data:=.fields ps};exact k a _ (.inl rfl) e
 | met f y =>
  have e:h.get? a=some (rL (.ref f) (.ref y)):=x;show h'.get? a=some (rL (.ref f) (.ref y));exact k a _ (.inl rfl) e
 | ext φ=>obtain ⟨p,⟨o,e⟩,st⟩:=x; exact ⟨st _ _ p fun o q=>k _ _ (.inl rfl) q,⟨o,k _ _ (.inl rfl) e⟩,st⟩
theorem HOk.lt (x:HOk P w H h) (e:H a=some o):a < h.objs.size:=(x a o e).lt
theorem HOk.fresh (x:HOk P w H h) (e:h.objs.size<=a):H a=none:=by
 cases q:H a with
 | none=>rfl
 | some u=>exact absurd (bg (x.lt q) e) (dz _)
theorem HOk.kept (x:HOk P w H h) (k:∀ b u,h.get? b=some u->h'.get? b=some u):HOk P w H h':=fun a o e =>
 (x a o e).stay (fun b u _ q=>k b u q) (fun _ q=>q) fun _ _ q=>q
theorem HOk.laid (x:HOk P w H h) (k:∀ b u,h.get? b=some u->h'.get? b=some u) (hp:h.objs.size<=a) (new:gj P w (upd H a o) h' a o):HOk P w (upd H a o) h':=fun b u e=>by
 have hn:=x.fresh hp
 by_cases hb:b=a
 ·subst hb; rw [ao] at e; cases e; exact new
 ·rw [aX hb] at e;exact (x b u e).stay (fun c v _ q=>k c v q) (fun c q=>by rw [aX (bw q hn)]; exact q) fun c xs q=>by rw [aX (bw q hn)]; exact q
end
def Rd (H:Hp) (a:aj) (u:HO):Prop:=H a=some u\/∃ o,H a=some (.frz o u)
theorem Rd.ok {P:aS} {w:bN} {H:Hp} {h:cI} {a:aj} {u:HO} (r:Rd H a u) (x:HOk P w H h):gj P w H h a u:=by
 rcases r with r | ⟨o,r⟩
 ·exact x a u r
 ·obtain ⟨_,q⟩:=x a _ r;exact q
def Mut:Option HO->Prop
 | some (.lst _)=>True
 | some (.dK _)=>True
 | some (.dT _)=>True
 | some (.set _ _)=>True
 | some (.ins _ _ _)=>True
 | some (.ext _)=>True
 | _=>False
section
variable {P:aS} {w:bN} {H:Hp} {h h':cI} {x e:aj} {o':HO}
theorem HOk.write (ok:HOk P w H h) (mu:Mut (H x)) (he:e=x\/H e=some (.own x)) (k:∀ b u,b≠e->h.get? b=some u->h'.get? b=some u) (heo:∃ u,h'.get? e=some u)
  (new:gj P w (upd H x o') h' x o'):HOk P w (upd H x o') h':=fun b u q=>by
 have nown:∀ c y,H c=some (.own y)->c≠x:=fun c y r z=>by subst z; rw [r] at mu; exact mu
 have ntup:∀ c xs,H c=some (.tup xs)->c≠x:=fun c xs r z=>by subst z; rw [r] at mu; exact mu
 by_cases hb:b=x
 ·subst hb; rw [ao] at q; cases q; exact new
 ·rw [aX hb] at q
  by_cases hbe:b=e
  ·have q':H b=some (.own x):=by
    rcases he with z | z
    ·exact absurd (hbe.trans z) hb
    ·rw [hbe]; exact z
   rw [q] at q'; cases q';obtain ⟨v,hv⟩:=heo;exact ⟨v,by rw [hbe]; exact hv⟩
  ·refine (ok b u q).stay (fun c v hc r=>k c v ?_ r) (fun c r=>by rw [aX (nown c b r)]; exact r) fun c xs r=>by rw [aX (ntup c xs r)]; exact r
   rcases hc with rfl | hc
   ·exact hbe
   ·rintro rfl
    rcases he with z | z
    ·exact nown c b hc z
    ·rw [hc] at z; cases z; exact hb rfl
end
structure Un (fs ex:List aj) (H H':Hp) (h h':cI):Prop where
 keep:∀ b o,h.get? b=some o->H b=none->b∉fs->b∉ex->h'.get? b=some o
 slot:∀ b o,h.get? b=some o->H b=none->b∈fs->b∉ex->∃ sl,h'.get? b=some {o with slots:=sl}
 free:∀ b o,h.get? b=some o->H b=none->b∉ex->H' b=none
 there:∀ b o,h.get? b=some o->b∉ex->∃ o',h'.get? b=some o'
 tups:∀ b xs,H b=some (.tup xs)->H' b=some (.tup xs)
 frzs:∀ b o u,H b=some (.frz o u)->H' b=some (.frz o u)
 tbls:∀ b ps,H b=some (.tbl ps)->∃ more,H' b=some (.tbl (ps++more))
section
variable {fs fs' ex ex':List aj} {H H1 H2:Hp} {h h1 h2 h':cI} {a x e:aj} {o:HO}
theorem Un.any (u:Un fs ex H H1 h h1) {b:aj} {ob:Obj} (q:h.get? b=some ob) (n:H b=none) (hx:b∉ex):∃ sl,h1.get? b=some {ob with slots:=sl}:=by
 by_cases hb:b∈fs
 ·exact u.slot b ob q n hb hx
 ·exact ⟨ob.slots,u.keep b ob q n hb hx⟩
theorem Un.kept (k:∀ b u,h.get? b=some u->h'.get? b=some u):Un fs ex H H h h':=
 ⟨fun b ob q _ _ _=>k b ob q,fun b ob q _ _ _=>⟨ob.slots,k b ob q⟩,fun _ _ _ n _=>n,fun b ob q _=>⟨ob,k b ob q⟩,fun _ _ q=>q,fun _ _ _ q=>q,fun _ ps q=>⟨#[],by rw [q]; simp⟩⟩
theorem Un.refl:Un fs ex H H h h:=Un.kept fun _ _ q=>q
theorem Un.laid (k:∀ b u,h.get? b=some u->h'.get? b=some u) (hp:h.objs.size<=a) (hn:H a=none):Un fs ex H (upd H a o) h h' where
 keep:=fun b u q _ _ _=>k b u q
 slot:=fun b u q _ _ _=>⟨u.slots,k b u q⟩
 free:=fun b u q n _=>by rw [aX (br (bg (bb q) hp))]; exact n
 there:=fun b u q _=>⟨u,k b u q⟩
 tups:=fun b xs q=>by rw [aX (bw q hn)]; exact q
 frzs:=fun b u xs q=>by rw [aX (bw q hn)]; exact q
 tbls:=fun b ps q=>⟨#[],by rw [aX (bw q hn),q]; simp⟩
theorem Un.write (mu:Mut (H x)) (he:e=x\/H e=some (.own x)) (k:∀ b u,b≠e->h.get? b=some u->h'.get? b=some u) (heo:∃ u,h'.get? e=some u):Un fs ex H (upd H x o) h h':=by
 have hx:∀ b,H b=none->b≠x:=fun b n z=>by subst z; rw [n] at mu; exact mu
 have hb:∀ b,H b=none->b≠e:=fun b n z=>by
  subst z
  rcases he with r | r
  ·exact hx b n r
  ·rw [n] at r; cases r
 have hm:∀ b u,H b=some u->¬ Mut (some u)->b≠x:=fun b u q nm z=>by subst z; rw [q] at mu; exact nm mu
 refine ⟨fun b u q n _ _=>k b u (hb b n) q,fun b u q n _ _=>⟨u.slots,k b u (hb b n) q⟩,fun b u q n _=>by rw [aX (hx b n)]; exact n,fun b u q _=>?_,
  fun b xs q=>by rw [aX (hm b _ q fun z=>z)]; exact q,fun b u xs q=>by rw [aX (hm b _ q fun z=>z)]; exact q,fun b ps q=>⟨#[],by rw [aX (hm b _ q fun z=>z),q]; simp⟩⟩
 by_cases hbe:b=e
 ·subst hbe; exact heo
 ·exact ⟨u,k b u hbe q⟩
end
def trk (h:cI) (H:Hp):List aj:=(iz h.objs.size).filter fun a=>(H a).isSome
def wX (h:cI) (H:Hp):cI:=gI h (trk h H)
theorem Bw (h:cI) (H:Hp):(wX h H).objs.size=h.objs.size:=PySem.W.hideAll_size _ _
theorem Cy {h:cI} {H:Hp} {b:aj} {o:Obj} (e:h.get? b=some o) (n:H b=none):(wX h H).get? b=some o:=
 qL _ e fun hm=>by
  have q:(H b).isSome=true:=(vv.mp hm).2;rw [n] at q; simp at q
theorem EU {h:cI} {H:Hp} {b:aj} {o:Obj} (e:(wX h H).get? b=some o):h.get? b=some o/\H b=none:=by
 have e':h.get? b=some o:=q0 (trk h H) e;refine ⟨e',?_⟩
 cases q:H b with
 | none=>rfl
 | some x =>
  have hm:b∈trk h H:=vv.mpr ⟨nz.mpr (bb e'),by simp [q]⟩;have z:(wX h H).get? b=none:=p8 (trk h H) hm;rw [z] at e; cases e
structure Mod (K:ai) (mg:Str->Option ag) (base:cI):Prop where
 kin:K.In base
 glob:base.Ns bF mg
 blt:∃ mb,base.Ns zC mb/\∀ x:Str,x≠"__name__"->mb x=eE x
 nolimit:base.NoLimit
structure Cx where
 prog:aS
 w:bN
 K:ai
 mg:Str->Option ag
 base:cI
 A:bJ
 N:List Str
 s₀:ah
 H₀:Hp
 env:Env
 outer:List Env
 stack:List Env
 ex:List aj
 fn:Str->Bool
 calm:Bool
 pn:List (aj×Obj)
 xe:ag->ah->Prop
def frs (l:List Env):List aj:=l.filterMap (·.frame)
abbrev Cx.fs (X:Cx):List aj:=frs X.outer
def Vis (sc:kB) (x:Str):Prop:=sc.names.lookup x=some .local\/sc.names.lookup x=some .cell\/sc.names.lookup x=some .free
def Loc (sc:kB) (x:Str):Prop:=sc.names.lookup x=some .local\/sc.names.lookup x=some .cell
def Look (env:Env) (h:cI) (m:Str->Option ag) (x:Str) (u:ag):Prop:=
 (env.kindOf x=some .local/\m x=some u)\/((env.kindOf x=some .cell\/env.kindOf x=some .free)/\∃ c,env.cells.lookup x=some c/\h.IsCell c (some u))
structure Cx.Ok (X:Cx):Prop where
 mod:Mod X.K X.mg X.base
 kind:X.env.scope.kind=.function
 glob:X.env.globals=bF
 blt:X.env.builtins=zC
 above:X.s₀.heap.objs.size<=X.env.locals
 inj:∀ x y c,X.env.cells.lookup x=some c->X.env.cells.lookup y=some c->x=y
 has:∀ x,(X.env.kindOf x=some .cell\/X.env.kindOf x=some .free)->∃ c,X.env.cells.lookup x=some c
 cab:∀ x c,X.fn x=true->X.env.cells.lookup x=some c->X.s₀.heap.objs.size<=c
 hd:X.calm=true->X.A.handled=none
 frames:X.A.frames=some X.stack
 stk:X.stack=X.outer\/(X.stack=X.env :: X.outer/\X.env.frame=some X.env.locals)
 exf:∀ b∈X.ex,b≠X.env.locals/\∀ x c,X.env.cells.lookup x=some c->c≠b
 bs:∀ b o,X.base.get? b=some o->X.s₀.heap.get? b=some o/\X.H₀ b=none
 bsz:X.base.objs.size<=X.s₀.heap.objs.size
 noex:∀ b o,X.base.get? b=some o->b∉X.ex
 exfs:∀ b∈X.ex,b∉X.fs
 funs:X.s₀.heap.FunFrames X.base X.outer
 frf:∀ b∈X.fs,X.H₀ b=none
structure Inv (X:Cx) (pins:List (aj×Obj)) (σ:List (Option V)) (H:Hp) (s:ah):Prop where
 ok:X.Ok
 os:s.os=X.s₀.os
 bare:q8 s.gens
 base:Un X.fs X.ex X.H₀ H X.s₀.heap s.heap
 loc:∃ m,s.heap.Ns X.env.locals m/\∀ (i:Nat) (x:Str) (v:V),X.N[i]?=some x->σ[i]?=some (some v)->Vis X.env.scope x->∃ u,RelV v u/\Look X.env s.heap m x u
 cell:∀ x c,X.env.cells.lookup x=some c->∃ v,s.heap.IsCell c v
 free:H X.env.locals=none
 freeC:∀ x c,X.env.cells.lookup x=some c->H c=none
 pin:∀ p∈X.pn++pins,s.heap.get? p.1=some p.2/\H p.1=none/\p.1≠X.env.locals/\p.1∉X.fs/\∀ v,p.2.data≠.cell v
 hok:HOk X.prog X.w H s.heap
 len:σ.length=X.N.length
section
variable {X:Cx} {pins:List (aj×Obj)} {σ:List (Option V)} {H H':Hp} {s:ah} {h':cI}
theorem Cx.Ok.nofr (ok:X.Ok) {b:aj} {o:Obj} (e:X.base.get? b=some o):b∉X.fs:=fun hb=>by
 have:=(ok.funs.mem hb).1;rw [e] at this; cases this
theorem Inv.bs (I:Inv X pins σ H s):∀ b o,X.base.get? b=some o->s.heap.get? b=some o/\H b=none:=fun b o e =>
 ⟨I.base.keep b o (I.ok.bs b o e).1 (I.ok.bs b o e).2 (I.ok.nofr e) (I.ok.noex b o e),I.base.free b o (I.ok.bs b o e).1 (I.ok.bs b o e).2 (I.ok.noex b o e)⟩
theorem Inv.bk (I:Inv X pins σ H s):∀ b o,X.base.get? b=some o->s.heap.get? b=some o:=fun b o e=>(I.bs b o e).1
theorem Inv.mod (I:Inv X pins σ H s):Mod X.K X.mg X.base:=I.ok.mod
theorem Inv.kIn (I:Inv X pins σ H s):X.K.In s.heap:=I.ok.mod.kin.keeps I.bk
theorem Inv.fr (I:Inv X pins σ H s):∃ m,Fr X.base X.env.locals s.heap m:=
 let ⟨m,hn,_⟩:=I.loc
 ⟨m,hn,I.bk,bC I.ok.bsz I.ok.above⟩
theorem Inv.lt (I:Inv X pins σ H s):X.env.locals < s.heap.objs.size:=let ⟨_,hn,_⟩:=I.loc; hn.lt
theorem Inv.sz (I:Inv X pins σ H s):X.s₀.heap.objs.size<=s.heap.objs.size:=bC I.ok.above (kn I.lt)
theorem Inv.nofs (I:Inv X pins σ H s) {a:aj} (h:s.heap.objs.size<=a):a∉X.fs:=fun hb=>by
 obtain ⟨_,o,ho,_⟩:=I.ok.funs.mem hb;exact absurd (bg (bb ho) (bC I.sz h)) (dz _)
theorem Inv.cne (I:Inv X pins σ H s):∀ x c,X.env.cells.lookup x=some c->c≠X.env.locals:=fun x c e z=>by
 obtain ⟨v,o,ho,hd⟩:=I.cell x c e;obtain ⟨m,⟨o',es,ep,ho',hd',_⟩,_⟩:=I.loc;rw [z,ho'] at ho; cases ho; rw [hd'] at hd; cases hd
theorem Inv.funs (I:Inv X pins σ H s):s.heap.FunFrames X.base X.outer:=by
 have all:∀ (l:List Env),(∀ b∈frs l,b∈X.fs)->X.s₀.heap.FunFrames X.base l->s.heap.FunFrames X.base l:=by
  intro l
  induction l with
  | nil=>intro _ _; trivial
  | cons env r ih =>
   intro hs hl;obtain ⟨hk,⟨L,o,hf,hn,ho,hd⟩,hr⟩:=hl;have hL:L∈X.fs:=hs L (by unfold frs; rw [rE,hf]; exact aw);obtain ⟨sl,e⟩:=I.base.slot L o ho (I.ok.frf L hL) hL fun z=>I.ok.exfs L z hL;exact ⟨hk,⟨L,_,hf,hn,e,hd⟩,ih (fun b hb=>hs b (by unfold frs; rw [rE,hf]; exact ar _ hb)) hr⟩
 exact all X.outer (fun _ hb=>hb) I.ok.funs
theorem Inv.stack (I:Inv X pins σ H s):s.heap.FunFrames X.base X.stack:=by
 rcases I.ok.stk with e | ⟨e,hf⟩
 ·rw [e]; exact I.funs
 ·rw [e];obtain ⟨m,hn,_⟩:=I.loc;refine .cons (by rw [I.ok.kind]; decide) hf hn ?_ I.funs;exact lD (bC I.ok.bsz I.ok.above)
theorem Inv.stkSub (I:Inv X pins σ H s):∀ b∈frs X.stack,b∈X.env.locals :: X.fs:=fun b hb=>by
 rcases I.ok.stk with e | ⟨e,hf⟩
 ·rw [e] at hb; exact ar _ hb
 ·rw [e] at hb;unfold frs at hb;rw [rE,hf] at hb;exact hb
theorem Inv.stkFree (I:Inv X pins σ H s):∀ b∈frs X.stack,H b=none:=fun b hb=>by
 rcases au.mp (I.stkSub b hb) with e | hb
 ·rw [e]; exact I.free
 ·obtain ⟨_,o,ho,_⟩:=I.ok.funs.mem hb;exact I.base.free b o ho (I.ok.frf b hb) fun z=>I.ok.exfs b z hb
theorem Inv.step {g':Array EV} {t':Nat} {d':Drawn} {ch:List aj} (I:Inv X pins σ H s)
  (hch:∀ b∈ch,(b∈X.ex\/X.s₀.heap.objs.size<=b)/\b≠X.env.locals/\(∀ x c,X.env.cells.lookup x=some c->c≠b)/\∀ p∈X.pn++pins,p.1≠b)
  (keep:∀ b o,b≠X.env.locals->b∉X.fs->b∉ch->s.heap.get? b=some o->H b=none->h'.get? b=some o)
  (slot:∀ b o,b≠X.env.locals->b∈X.fs->b∉ch->s.heap.get? b=some o->H b=none->∃ sl,h'.get? b=some {o with slots:=sl}) (free:∀ b o,b∉ch->s.heap.get? b=some o->H b=none->H' b=none)
  (there:∀ b o,b∉ch->s.heap.get? b=some o->∃ o',h'.get? b=some o')
  (tups:∀ b xs,H b=some (.tup xs)->H' b=some (.tup xs)) (frzs:∀ b o u,H b=some (.frz o u)->H' b=some (.frz o u)) (tbls:∀ b ps,H b=some (.tbl ps)->∃ more,H' b=some (.tbl (ps++more)))
  (ns:∀ m,s.heap.Ns X.env.locals m->h'.Ns X.env.locals m) (hok:HOk X.prog X.w H' h') (hg:q8 g') :
  Inv X pins σ H' {s with heap:=h',gens:=g',drawn:=d',toks:=t'}:=by
 have neL:∀ b o,X.s₀.heap.get? b=some o->b≠X.env.locals:=fun b o e=>br (bg (bb e) I.ok.above);have neC:∀ b o,X.s₀.heap.get? b=some o->b∉X.ex->b∉ch:=fun b o e hx hb=>by
  rcases (hch b hb).1 with z | z
  ·exact hx z
  ·exact absurd (bg (bb e) z) (dz _)
 have cellK:∀ x c,X.env.cells.lookup x=some c->∀ v,s.heap.IsCell c v->h'.IsCell c v:=fun x c e v ⟨o,ho,hd⟩=>by
  have nch:c∉ch:=fun z=>(hch c z).2.2.1 x c e rfl
  by_cases hc:c∈X.fs
  ·obtain ⟨sl,q⟩:=slot c o (I.cne x c e) hc nch ho (I.freeC x c e);exact ⟨_,q,hd⟩
  ·exact ⟨o,keep c o (I.cne x c e) hc nch ho (I.freeC x c e),hd⟩
 refine ⟨I.ok,I.os,hg,⟨fun b o e n hb hx=>?_,fun b o e n hb hx=>?_,fun b o e n hx=>?_,fun b o e hx=>?_,fun b xs e=>tups b xs (I.base.tups b xs e),fun b o xs e=>frzs b o xs (I.base.frzs b o xs e),fun b ps e=>?_⟩,?_,fun x c e=>?_,?_,fun x c e=>?_,fun p hp=>?_,hok,I.len⟩
 ·exact keep b o (neL b o e) hb (neC b o e hx) (I.base.keep b o e n hb hx) (I.base.free b o e n hx)
 ·obtain ⟨sl,e1⟩:=I.base.slot b o e n hb hx;obtain ⟨sl',e2⟩:=slot b _ (neL b o e) hb (neC b o e hx) e1 (I.base.free b o e n hx);exact ⟨sl',e2⟩
 ·obtain ⟨o',e1⟩:=I.base.there b o e hx;exact free b o' (neC b o e hx) e1 (I.base.free b o e n hx)
 ·obtain ⟨o',e1⟩:=I.base.there b o e hx;exact there b o' (neC b o e hx) e1
 ·obtain ⟨m1,e1⟩:=I.base.tbls b ps e;obtain ⟨m2,e2⟩:=tbls b _ e1;exact ⟨m1++m2,by rw [e2,jO]⟩
 ·obtain ⟨m,hn,hl⟩:=I.loc;refine ⟨m,ns m hn,fun i x v e1 e2 e3=>?_⟩;obtain ⟨u,r,l⟩:=hl i x v e1 e2 e3;refine ⟨u,r,?_⟩
  rcases l with l | ⟨k,c,e,z⟩
  ·exact .inl l
  ·exact .inr ⟨k,c,e,cellK x c e _ z⟩
 ·obtain ⟨v,z⟩:=I.cell x c e;exact ⟨v,cellK x c e v z⟩
 ·obtain ⟨m,⟨o,_,_,ho,_⟩,_⟩:=I.loc;exact free _ o (fun z=>(hch _ z).2.1 rfl) ho I.free
 ·obtain ⟨v,o,ho,hd⟩:=I.cell x c e;exact free c o (fun z=>(hch c z).2.2.1 x c e rfl) ho (I.freeC x c e)
 ·obtain ⟨e,n,ne,nf,d⟩:=I.pin p hp;have nch:p.1∉ch:=fun z=>(hch p.1 z).2.2.2 p hp rfl;exact ⟨keep p.1 p.2 ne nf nch e n,free p.1 p.2 nch e n,ne,nf,d⟩
theorem Inv.un {t':Nat} (I:Inv X pins σ H s) (u:Un X.fs [] H H' s.heap h') (hok:HOk X.prog X.w H' h'):Inv X pins σ H' {s with heap:=h',toks:=t'}:=by
 obtain ⟨m,⟨o,es,ep,ho,r⟩,_⟩:=id I.loc;obtain ⟨sl,hL⟩:=u.any ho I.free (by simp);exact I.step (g':=s.gens) (d':=s.drawn) (ch:=[]) (fun _ z=>nomatch z) (fun b o _ hb _ e n=>u.keep b o e n hb (by simp)) (fun b o _ hb _ e n=>u.slot b o e n hb (by simp)) (fun b o _ e n=>u.free b o e n (by simp)) (fun b o _ e=>u.there b o e (by simp)) u.tups u.frzs u.tbls (fun m' hm=>by
  obtain ⟨o',es',ep',ho',r'⟩:=hm;rw [ho] at ho'; cases ho';exact ⟨_,es',ep',hL,r'⟩) hok I.bare
theorem Inv.call {g':Array EV} {t':Nat} {d':Drawn} {ch:List aj} (I:Inv X pins σ H s) (u:Un (frs X.stack) ch H H' s.heap h') (hok:HOk X.prog X.w H' h') (hg:q8 g')
  (hch:∀ b∈ch,(b∈X.ex\/X.s₀.heap.objs.size<=b)/\b≠X.env.locals/\(∀ x c,X.env.cells.lookup x=some c->c≠b)/\∀ p∈X.pn++pins,p.1≠b) :
  Inv X pins σ H' {s with heap:=h',gens:=g',drawn:=d',toks:=t'}:=by
 obtain ⟨m,⟨o,es,ep,ho,r⟩,_⟩:=id I.loc;obtain ⟨sl,hL⟩:=u.any ho I.free fun z=>(hch _ z).2.1 rfl;exact I.step (ch:=ch) hch (fun b o hL hb hc e n=>u.keep b o e n (fun z=>(au.mp (I.stkSub b z)).elim hL hb) hc) (fun b o _ _ hc e n=>u.any e n hc) (fun b o hc e n=>u.free b o e n hc) (fun b o hc e=>u.there b o e hc) u.tups u.frzs u.tbls (fun m' hm=>by
  obtain ⟨o',es',ep',ho',r'⟩:=hm;rw [ho] at ho'; cases ho';exact ⟨_,es',ep',hL,r'⟩) hok hg
theorem Inv.turned {t':Nat} {it:aj} (I:Inv X pins σ H s) (k:∀ b o,b≠it->s.heap.get? b=some o->h'.get? b=some o) (hn:H it=none) (hL:it≠X.env.locals)
  (h1:it∈X.ex\/X.s₀.heap.objs.size<=it) (h2:∀ x c,X.env.cells.lookup x=some c->c≠it) (h3:∀ p∈X.pn++pins,p.1≠it):Inv X pins σ H {s with heap:=h',toks:=t'}:=by
 have nit:∀ b u,H b=some u->b≠it:=fun b u e z=>by rw [z,hn] at e; cases e
 refine I.step (g':=s.gens) (d':=s.drawn) (ch:=[it]) (fun b hb=>?_) (fun b o _ _ hc e _=>k b o (fun z=>hc (by simp [z])) e) (fun b o _ _ hc e _=>⟨o.slots,k b o (fun z=>hc (by simp [z])) e⟩) (fun _ _ _ _ n=>n)
  (fun b o hc e=>⟨o,k b o (fun z=>hc (by simp [z])) e⟩) (fun _ _ e=>e) (fun _ _ _ e=>e) (fun b ps e=>⟨#[],by rw [e]; simp⟩) (fun m hm=>?_) (fun b u e=>?_) I.bare
 ·have e:b=it:=by simpa using hb
  subst e;exact ⟨h1,hL,h2,h3⟩
 ·obtain ⟨o,es,ep,ho,r⟩:=hm;exact ⟨o,es,ep,k _ o (eU hL) ho,r⟩
 ·refine (I.hok b u e).stay (fun c v hc q=>k c v ?_ q) (fun _ q=>q) fun _ _ q=>q
  rcases hc with z | z
  ·rw [z]; exact nit b u e
  ·exact nit c _ z
theorem Inv.tok (I:Inv X pins σ H s) (t:Nat):Inv X pins σ H {s with toks:=t}:=I.un (h':=s.heap) (t':=t) Un.refl I.hok
theorem Inv.kept {t':Nat} (I:Inv X pins σ H s) (k:∀ b u,s.heap.get? b=some u->h'.get? b=some u):Inv X pins σ H {s with heap:=h',toks:=t'}:=I.un (Un.kept k) (I.hok.kept k)
theorem Inv.laid {a:aj} {o:HO} {t':Nat} (I:Inv X pins σ H s) (k:∀ b u,s.heap.get? b=some u->h'.get? b=some u) (hp:s.heap.objs.size<=a) (new:gj X.prog X.w (upd H a o) h' a o) :
  Inv X pins σ (upd H a o) {s with heap:=h',toks:=t'}:=I.un (Un.laid k hp (I.hok.fresh hp)) (I.hok.laid k hp new)
theorem Inv.write {x e:aj} {o:HO} {t':Nat} (I:Inv X pins σ H s) (mu:Mut (H x)) (he:e=x\/H e=some (.own x)) (k:∀ b u,b≠e->s.heap.get? b=some u->h'.get? b=some u) (heo:∃ u,h'.get? e=some u)
  (new:gj X.prog X.w (upd H x o) h' x o):Inv X pins σ (upd H x o) {s with heap:=h',toks:=t'}:=I.un (Un.write mu he k heo) (I.hok.write mu he k heo new)
theorem Inv.weak {σ':List (Option V)} (I:Inv X pins σ H s) (hl:σ'.length=σ.length) (w:∀ (i:Nat) v,σ'[i]?=some (some v)->σ[i]?=some (some v)):Inv X pins σ' H s:=
 ⟨I.ok,I.os,I.bare,I.base,let ⟨m,hn,hl'⟩:=I.loc; ⟨m,hn,fun i x v e1 e2 e3=>hl' i x v e1 (w i v e2) e3⟩,I.cell,I.free,I.freeC,I.pin,I.hok,hl.trans I.len⟩
theorem Inv.pins_of {pins':List (aj×Obj)} (I:Inv X pins σ H s) (h:∀ p∈pins',s.heap.get? p.1=some p.2/\H p.1=none/\p.1≠X.env.locals/\p.1∉X.fs/\∀ v,p.2.data≠.cell v):Inv X pins' σ H s:=
 ⟨I.ok,I.os,I.bare,I.base,I.loc,I.cell,I.free,I.freeC,fun p hp=>(aU.mp hp).elim (fun z=>I.pin p (dj _ z)) (h p),I.hok,I.len⟩
theorem uv {N:List Str} (hN:N.Nodup) {i j:Nat} {x:Str} (a:N[i]?=some x) (b:N[j]?=some x):i=j:=by
 obtain ⟨h1,e1⟩:=aQ.mp a;obtain ⟨h2,e2⟩:=aQ.mp b;exact (List.getElem_inj hN).mp (e1.trans e2.symm)
theorem sJ {M:lU} {A:bJ} {E:ag->ah->Prop} {i:Nat} {x:Str} {v:V} {u:ag} {Q:Unit->ah->Prop} (I:Inv X pins σ H s) (hN:X.N.Nodup) (hi:X.N[i]?=some x) (hx:Loc X.env.scope x) (r:RelV v u)
  (h:∀ s',Inv X pins (σ.set i (some v)) H s'->(∃ a,mQ a s.heap s'.heap/\(a=X.env.locals\/X.env.cells.lookup x=some a))->Q () s') (hf:X.fn x=true\/X.env.scope.names.lookup x=some .local:=by first | exact .inl rfl | exact .inr rfl | assumption):aY M A (storeName X.env x u) Q E s:=by
 obtain ⟨m,hn,hl⟩:=id I.loc;have hcls:(X.env.scope.kind == .class || (X.env.scope.kind == .module && X.env.locals != X.env.globals))=false:=by rw [I.ok.kind]; rfl
 have hiσ:i < σ.length:=by rw [I.len]; exact (aQ.mp hi).1
 have cne:=I.cne;have tracked:∀ {a:aj} {h':cI},(∃ o,s.heap.get? a=some o/\H a=none)->mQ a s.heap h'->HOk X.prog X.w H h':=fun {a h'} ha hs b ob e=>by
  obtain ⟨_,_,hfree⟩:=ha;refine (I.hok b ob e).stay (fun c w' hc q=>(hs.2 c ?_).trans q) (fun _ q=>q) fun _ _ q=>q;rintro rfl
  rcases hc with rfl | hc
  ·rw [hfree] at e; cases e
  ·rw [hfree] at hc; cases hc
 rcases hx with hk | hk
 ·refine wpAny_storeName_local hk hn (fun h' hn' hs=>?_) hcls;obtain ⟨oL,_,_,hoL,_⟩:=id hn;refine h _ ⟨I.ok,I.os,I.bare,⟨fun b o e n hb hx=>?_,fun b o e n hb hx=>?_,I.base.free,fun b o e hx=>?_,I.base.tups,I.base.frzs,I.base.tbls⟩,⟨_,hn',fun j y v' e1 e2 e3=>?_⟩,fun y c e=>?_,I.free,I.freeC,fun p hp=>?_,tracked ⟨oL,hoL,I.free⟩ hs,by simpa using I.len⟩ ⟨_,hs,.inl rfl⟩
  ·exact (hs.2 b (br (bg (bb e) I.ok.above))).trans (I.base.keep b o e n hb hx)
  ·obtain ⟨sl,e1⟩:=I.base.slot b o e n hb hx;exact ⟨sl,(hs.2 b (br (bg (bb e) I.ok.above))).trans e1⟩
  ·obtain ⟨o',e1⟩:=I.base.there b o e hx;exact ⟨o',(hs.2 b (br (bg (bb e) I.ok.above))).trans e1⟩
  ·by_cases hj:j=i
   ·subst hj;rw [hi] at e1; cases e1;rw [kj hiσ] at e2
    cases e2;exact ⟨u,r,.inl ⟨hk,by simp⟩⟩
   ·rw [qU (eU hj)] at e2;obtain ⟨u',r',q⟩:=hl j y v' e1 e2 e3;refine ⟨u',r',?_⟩
    rcases q with ⟨k,e⟩ | ⟨k,c,e,z⟩
    ·refine .inl ⟨k,?_⟩;have:y≠x:=fun e=>hj (uv hN e1 (e ▸ hi));simp [this,e]
    ·exact .inr ⟨k,c,e,z.sameBut hs (cne y c e)⟩
  ·obtain ⟨w',z⟩:=I.cell y c e;exact ⟨w',z.sameBut hs (cne y c e)⟩
  ·obtain ⟨e,n,ne,nf,d⟩:=I.pin p hp;exact ⟨(hs.2 p.1 ne).trans e,n,ne,nf,d⟩
 ·have hfn:X.fn x=true:=by
   rcases hf with z | z
   ·exact z
   ·rw [z] at hk; cases hk
  obtain ⟨c,hc⟩:=I.ok.has x (.inl hk);obtain ⟨w',z⟩:=I.cell x c hc;refine wpAny_storeName_cell I.ok.kind hk hc z (fun h' hc' hs=>?_);obtain ⟨oc,hoc,hocd⟩:=id z;refine h {s with heap:=h'} ⟨I.ok,I.os,I.bare,⟨fun b o e n hb hx=>?_,fun b o e n hb hx=>?_,I.base.free,fun b o e hx=>?_,I.base.tups,I.base.frzs,I.base.tbls⟩,⟨m,hn.sameBut hs (eU (cne x c hc)),fun j y v' e1 e2 e3=>?_⟩,fun y c' e=>?_,I.free,I.freeC,fun p hp=>?_,tracked ⟨oc,hoc,I.freeC x c hc⟩ hs,by simpa using I.len⟩ ⟨c,hs,.inr hc⟩
  ·exact (hs.2 b (br (bg (bb e) (I.ok.cab x c hfn hc)))).trans (I.base.keep b o e n hb hx)
  ·obtain ⟨sl,e1⟩:=I.base.slot b o e n hb hx;exact ⟨sl,(hs.2 b (br (bg (bb e) (I.ok.cab x c hfn hc)))).trans e1⟩
  ·obtain ⟨o',e1⟩:=I.base.there b o e hx;exact ⟨o',(hs.2 b (br (bg (bb e) (I.ok.cab x c hfn hc)))).trans e1⟩
  ·by_cases hj:j=i
   ·subst hj;rw [hi] at e1; cases e1;rw [kj hiσ] at e2
    cases e2;exact ⟨u,r,.inr ⟨.inl hk,c,hc,hc'⟩⟩
   ·rw [qU (eU hj)] at e2;obtain ⟨u',r',q⟩:=hl j y v' e1 e2 e3;refine ⟨u',r',?_⟩
    rcases q with q | ⟨k,c',e,z'⟩
    ·exact .inl q
    ·refine .inr ⟨k,c',e,z'.sameBut hs ?_⟩;rintro rfl;exact hj (uv hN e1 (I.ok.inj _ _ _ e hc ▸ hi))
  ·by_cases hcc:c'=c
   ·subst hcc; exact ⟨_,hc'⟩
   ·obtain ⟨w2,z2⟩:=I.cell y c' e;exact ⟨w2,z2.sameBut hs hcc⟩
  ·obtain ⟨e,n,ne,nf,d⟩:=I.pin p hp;refine ⟨(hs.2 p.1 ?_).trans e,n,ne,nf,d⟩;intro q;rw [q,hoc] at e;have q':oc=p.2:=b0 e;exact d w' (by rw [<- q']; exact hocd)
theorem oB {M:lU} {A:bJ} {E:ag->ah->Prop} {i:Nat} {x:Str} {v:V} {u:ag} {Q:Unit->ah->Prop} (I:Inv X pins σ H s) (hN:X.N.Nodup) (hi:X.N[i]?=some x) (hx:Loc X.env.scope x) (r:RelV v u)
  (h:∀ s',Inv X pins (σ.set i (some v)) H s'->Q () s') (hf:X.fn x=true\/X.env.scope.names.lookup x=some .local:=by first | exact .inl rfl | exact .inr rfl | assumption):aY M A (storeName X.env x u) Q E s:=
 sJ I hN hi hx r (fun s' I' _=>h s' I') hf
theorem Inv.call' {s':ah} {ch:List aj} (I:Inv X pins σ H s) (ho:s'.os=s.os) (u:Un (frs X.stack) ch H H' s.heap s'.heap) (hok:HOk X.prog X.w H' s'.heap) (hg:q8 s'.gens)
  (hch:∀ b∈ch,(b∈X.ex\/X.s₀.heap.objs.size<=b)/\b≠X.env.locals/\(∀ x c,X.env.cells.lookup x=some c->c≠b)/\∀ p∈X.pn++pins,p.1≠b):Inv X pins σ H' s':=by
 obtain ⟨h',g',d',t',o'⟩:=s';have e:o'=s.os:=ho;subst e;exact I.call (g':=g') (t':=t') (d':=d') u hok hg hch
end
abbrev XK:=ag->Option aj->Hp->Prop
abbrev St:=List (Option V)
abbrev VK:=V->Hp->Prop
abbrev TE:=St->Hp->VK->Prop
abbrev TT:=St->Hp->(Bool->Hp->Prop)->Prop
abbrev TA:=St->Hp->(List V->Hp->Prop)->Prop
structure Ends where
 nx:St->Hp->Prop
 rt:VK
 bk:St->Hp->Prop:=fun _ _=>False
 ct:St->Hp->Prop:=fun _ _=>False
abbrev TS:=Ends->St->Hp->Prop
def EP (X:Cx) (pins:List (aj×Obj)) (σ:St) (Q:VK) (u:ag) (s':ah):Prop:=∃ v H',Inv X pins σ H' s'/\RelV v u/\Q v H'
def TP (X:Cx) (pins:List (aj×Obj)) (σ:St) (Q:Bool->Hp->Prop) (b:Bool) (s':ah):Prop:=∃ H',Inv X pins σ H' s'/\Q b H'
def AP (X:Cx) (pins:List (aj×Obj)) (σ:St) (Q:List V->Hp->Prop) (us:List ag) (s':ah):Prop:=∃ vs H',Inv X pins σ H' s'/\dq vs us/\Q vs H'
def SP (X:Cx) (pins:List (aj×Obj)) (D:Ends) (f:Flow) (s':ah):Prop:=
 match f with
 | .next=>∃ σ' H',Inv X pins σ' H' s'/\D.nx σ' H'
 | .brk=>∃ σ' H',Inv X pins σ' H' s'/\D.bk σ' H'
 | .cont=>∃ σ' H',Inv X pins σ' H' s'/\D.ct σ' H'
 | .ret u=>∃ v σ' H',Inv X pins σ' H' s'/\RelV v u/\D.rt v H'
def PE (X:Cx) (e:cA) (t:TE):Prop:=
 ∀ (pins:List (aj×Obj)) (s:ah) (σ:St) (H:Hp) (Q:VK),Inv X pins σ H s->t σ H Q->aY (aM X.prog X.w) X.A (d6 e X.env) (EP X pins σ Q) X.xe s
def PT (X:Cx) (e:cA) (t:TT):Prop:=
 ∀ (pins:List (aj×Obj)) (s:ah) (σ:St) (H:Hp) (Q:Bool->Hp->Prop),Inv X pins σ H s->t σ H Q->aY (aM X.prog X.w) X.A (wY e X.env (d6 e X.env)) (TP X pins σ Q) X.xe s
def PW (X:Cx) (e:cA) (t:TT):Prop:=
 ∀ (whole:Sem ag) (pins:List (aj×Obj)) (s:ah) (σ:St) (H:Hp) (Q:Bool->Hp->Prop),Inv X pins σ H s->t σ H Q->aY (aM X.prog X.w) X.A (wY e X.env whole) (TP X pins σ Q) X.xe s
theorem PW.pt {X:Cx} {e:cA} {t:TT} (h:PW X e t):PT X e t:=h _
def PA (X:Cx) (es:List cA) (t:TA):Prop:=
 ∀ (pos:Pos) (pins:List (aj×Obj)) (s:ah) (σ:St) (H:Hp) (Q:List V->Hp->Prop),Inv X pins σ H s->t σ H Q->aY (aM X.prog X.w) X.A (zu (fg pos (bM es X.env))) (AP X pins σ Q) X.xe s
def PS (X:Cx) (st:dw) (t:TS):Prop:=
 ∀ (pins:List (aj×Obj)) (s:ah) (σ:St) (H:Hp) (D:Ends),Inv X pins σ H s->t D σ H->aY (aM X.prog X.w) X.A (exec st X.env) (SP X pins D) X.xe s
def PSs (X:Cx) (st:List dw) (t:TS):Prop:=
 ∀ (pins:List (aj×Obj)) (s:ah) (σ:St) (H:Hp) (D:Ends),Inv X pins σ H s->t D σ H->aY (aM X.prog X.w) X.A (vy st X.env) (SP X pins D) X.xe s
theorem thn {α:Type} {t:Sem α} {Q Q':α->ah->Prop} {M:lU} {A:bJ} {E:ag->ah->Prop} {s:ah} (h:aY M A t Q E s) (hQ:∀ a s,Q a s->Q' a s):aY M A t Q' E s:=cg h hQ fun _ _ x=>x
section
variable {X:Cx}
theorem bin {a b:cA} {ta tb:TE} (ha:PE X a ta) (hb:PE X b tb) {pins:List (aj×Obj)} {s:ah} {σ:St} {H:Hp} {R:V->V->Hp->Prop} (I:Inv X pins σ H s) (h:ta σ H fun x H1=>tb σ H1 fun y H2=>R x y H2)
  {α:Type} {Q:α->ah->Prop} {f:ag->ag->Sem α}
  (hf:∀ v u s2 x y H2,Inv X pins σ H2 s2->RelV x v->RelV y u->R x y H2->aY (aM X.prog X.w) X.A (f v u) Q X.xe s2) :
  aY (aM X.prog X.w) X.A (d6 a X.env) (fun v s₁=>aY (aM X.prog X.w) X.A (d6 b X.env) (fun u s₂=>aY (aM X.prog X.w) X.A (f v u) Q X.xe s₂) X.xe s₁) X.xe s:=by
 refine thn (ha pins s σ H _ I h) fun v s1 ⟨x,H1,I1,r1,q1⟩=>?_;refine thn (hb pins s1 σ H1 _ I1 q1) fun u s2 ⟨y,H2,I2,r2,q2⟩=>?_;exact hf v u s2 x y H2 I2 r1 r2 q2
inductive TVar (i:Nat) (σ:St) (H:Hp) (Q:VK):Prop where
 | mk (v:V) (h:σ[i]?=some (some v)) (q:Q v H):TVar i σ H Q
def kH (i:Nat):TE:=fun σ H Q=>TVar i σ H Q
def tC (v:V):TE:=fun _ H Q=>Q v H
theorem HV {i:Nat} {x:Str} {pos:Pos} (hN:X.N[i]?=some x) (hv:Vis X.env.scope x) (hd:(x == ("__debug__":Str))=false:=by decide) (hcd:(x == ("__classdict__":Str))=false:=by decide):PE X (.Name x pos) (kH i):=by
 intro pins s σ H Q I h;obtain ⟨v,e,h⟩:=h;obtain ⟨m,hn,hl⟩:=I.loc;obtain ⟨u,r,l⟩:=hl i x v hN e hv;have fin:EP X pins σ Q u s:=⟨v,H,I,r,h⟩
 rcases l with ⟨hk,hm⟩ | ⟨hk,c,hc,hcell⟩
 ·exact HW (wpAny_loadName_local I.ok.kind hk hn hm fin) hd
 ·rcases hk with hk | hk
  ·exact HW (wpAny_loadName_cell I.ok.kind hk hc hcell fin) hd
  ·exact HW (wpAny_loadName_free I.ok.kind hk hc hcell fin hcd) hd
theorem aq {i j pos}:PE X (.Constant (.int i) j pos) (tC (.int i)):=fun _ _ _ H _ I h=>wpAny_Constant_int ⟨.int i,H,I.tok _,⟨_,rfl⟩,h⟩
theorem ym {b j pos}:PE X (.Constant (.bool b) j pos) (tC (.bl b)):=fun _ _ _ H _ I h=>Constant_bool ⟨.bl b,H,I,rfl,h⟩
theorem dD {j pos}:PE X (.Constant .none j pos) (tC .non):=fun _ _ _ H _ I h=>Constant_none ⟨.non,H,I,rfl,h⟩
theorem aO {x j pos}:PE X (.Constant (.str x) j pos) (tC (.str x)):=fun _ _ _ H _ I h=>Bx ⟨.str x,H,I.tok _,⟨_,rfl⟩,h⟩
def Gl (X:Cx) (x:Str):Prop:=X.env.kindOf x=some .globalImplicit
theorem oW {E:ag->ah->Prop} {pins:List (aj×Obj)} {s:ah} {σ:St} {H:Hp} {x:Str} {u:ag} {pos:Pos} {Q:ag->ah->Prop} (I:Inv X pins σ H s) (hg:Gl X x) (hm:X.mg x=some u) (h:Q u s)
  (hd:(x == ("__debug__":Str))=false:=by decide):aY (aM X.prog X.w) X.A (d6 (.Name x pos) X.env) Q E s:=
 vz I.ok.kind hg (Calls.loadGlobal_global (by rw [I.ok.glob]; exact I.mod.glob.keeps I.bk) hm h) hd
theorem oY {E:ag->ah->Prop} {pins:List (aj×Obj)} {s:ah} {σ:St} {H:Hp} {x:Str} {u:ag} {pos:Pos} {Q:ag->ah->Prop} (I:Inv X pins σ H s) (hg:Gl X x) (hm:X.mg x=none) (hv:eE x=some u) (h:Q u s)
  (hn:x≠"__name__":=by decide) (hd:(x == ("__debug__":Str))=false:=by decide):aY (aM X.prog X.w) X.A (d6 (.Name x pos) X.env) Q E s:=by
 obtain ⟨mb,h1,h2⟩:=I.mod.blt;exact vz I.ok.kind hg (Calls.loadGlobal_builtin (by rw [I.ok.glob]; exact I.mod.glob.keeps I.bk) hm (by rw [I.ok.blt]; exact h1.keeps I.bk) ((h2 x hn).trans hv) h) hd
theorem jT {x:Str} {v:V} {u:ag} {pos:Pos} (hg:Gl X x) (hm:X.mg x=some u) (r:RelV v u) (hd:(x == ("__debug__":Str))=false:=by decide):PE X (.Name x pos) (tC v):=
 fun _ _ _ H _ I h=>oW I hg hm ⟨v,H,I,r,h⟩ hd
theorem EW {x:Str} {v:V} {u:ag} {pos:Pos} (hg:Gl X x) (hm:X.mg x=none) (hv:eE x=some u) (r:RelV v u) (hn:x≠"__name__":=by decide) (hd:(x == ("__debug__":Str))=false:=by decide):PE X (.Name x pos) (tC v):=
 fun _ _ _ H _ I h=>oY I hg hm hv ⟨v,H,I,r,h⟩ hn hd
variable {a b:cA} {ta tb:TE} {pos:Pos}
def PC (X:Cx) (op:Co) (a b:cA) (t:TE):Prop:=
 ∀ (pins:List (aj×Obj)) (s:ah) (σ:St) (H:Hp) (Q:VK),Inv X pins σ H s->t σ H Q ->
  aY (aM X.prog X.w) X.A (d6 a X.env) (fun v s₁=>aY (aM X.prog X.w) X.A (d6 b X.env) (fun u s₂=>aY (aM X.prog X.w) X.A (dF op v u) (EP X pins σ Q) X.xe s₂) X.xe s₁) X.xe s
inductive BlI (x:V) (H:Hp) (Q:Bool->Hp->Prop):Prop where
 | mk (c:Bool) (h:x=.bl c) (q:Q c H):BlI x H Q
def tB (t:TE):TT:=fun σ H Q=>t σ H fun x H1=>BlI x H1 Q
theorem pt_cmp {op:Co} {t:TE} (h:PC X op a b t) (h1:mS op b=false:=by first | exact nobehind _ (by decide) (by decide) | rfl):PT X (.Compare a [op] [b] pos) (tB t):=by
 intro pins s σ H Q I hw;refine EK (thn (h pins s σ H _ I hw) fun v s1 h1=>thn h1 fun u s2 h2=>thn h2 fun c s3 ⟨x,H1,I1,r1,q1⟩=>?_) h1;obtain ⟨d,rfl,q⟩:=q1
 cases r1;exact eM ⟨H1,I1,q⟩
theorem jC {e:cA} {t:TE} (h:PE X e t) (he:∀ whole,wY e X.env whole=(do let v <- whole; sZ e.pos; pK [v] (truthy v)):=by intro _; rfl):PT X e (tB t):=by
 intro pins s σ H Q I hw;refine isTrue_plain (thn (h pins s σ H _ I hw) fun v s1 ⟨x,H1,I1,r1,q1⟩=>?_) (he _);obtain ⟨d,rfl,q⟩:=q1
 cases r1;exact eM ⟨H1,I1,q⟩
variable {tA tB':TT} {rest:List cA}
def HX (t u:TT):TT:=fun σ H Q=>t σ H fun c H1=>if c=true then u σ H1 Q else Q false H1
def tOr (t u:TT):TT:=fun σ H Q=>t σ H fun c H1=>if c=true then Q true H1 else u σ H1 Q
def HY (t:TT):TT:=fun σ H Q=>t σ H fun c H1=>Q (!c) H1
theorem oZ (ha:PT X a tA):PW X (.BoolOp .And [a] pos) tA:=by
 intro wh pins s σ H Q I h;refine isTrue_and (thn (ha pins s σ H Q I h) fun c s1 e=>?_)
 cases c with
 | true=>exact isTrue_and_nil e
 | false=>exact e
theorem iP (ha:PT X a tA):PW X (.BoolOp .Or [a] pos) tA:=by
 intro wh pins s σ H Q I h;refine isTrue_or (thn (ha pins s σ H Q I h) fun c s1 e=>?_)
 cases c with
 | false=>exact isTrue_or_nil e
 | true=>exact e
theorem p9 (ha:PT X a tA) (hb:PW X (.BoolOp .And (b :: rest) pos) tB'):PW X (.BoolOp .And (a :: b :: rest) pos) (HX tA tB'):=by
 intro wh pins s σ H Q I h;refine isTrue_and (thn (ha pins s σ H _ I h) fun c s1 ⟨H1,I1,q1⟩=>?_)
 cases c with
 | true=>exact hb wh pins s1 σ H1 Q I1 q1
 | false=>exact ⟨H1,I1,q1⟩
theorem jj (ha:PT X a tA) (hb:PW X (.BoolOp .Or (b :: rest) pos) tB'):PW X (.BoolOp .Or (a :: b :: rest) pos) (tOr tA tB'):=by
 intro wh pins s σ H Q I h;refine isTrue_or (thn (ha pins s σ H _ I h) fun c s1 ⟨H1,I1,q1⟩=>?_)
 cases c with
 | true=>exact ⟨H1,I1,q1⟩
 | false=>exact hb wh pins s1 σ H1 Q I1 q1
theorem o4 (ha:PT X a tA):PT X (.UnaryOp .Not a pos) (HY tA):=by
 intro pins s σ H Q I h;exact isTrue_not (ha pins s σ H (fun c H1=>Q (!c) H1) I h)
def tAndV (ta tb:TE):TE:=fun σ H Q=>ta σ H fun x H1=>∃ c,x=.bl c/\if c=true then tb σ H1 Q else Q (.bl false) H1
theorem HZ {op} {t:TE} (h:PE X a t):PE X (.BoolOp op [a] pos) t:=fun pins s σ H Q I hw=>BoolOp_one (h pins s σ H Q I hw)
theorem H9 (ha:PE X a ta) (hb:PE X (.BoolOp .And (b :: rest) pos) tb):PE X (.BoolOp .And (a :: b :: rest) pos) (tAndV ta tb):=by
 intro pins s σ H Q I h;refine BoolOp_and (thn (ha pins s σ H _ I h) fun v s1 ⟨x,H1,I1,r1,q1⟩=>?_);obtain ⟨c,rfl,q1⟩:=q1
 cases r1;refine eM ?_
 cases c with
 | true=>exact hb pins s1 σ H1 Q I1 q1
 | false=>exact ⟨.bl false,H1,I1,rfl,q1⟩
def tIf (t:TT) (ta tb:TE):TE:=fun σ H Q=>t σ H fun c H1=>if c=true then ta σ H1 Q else tb σ H1 Q
theorem oC {c:cA} (hc:PT X c tA) (ha:PE X a ta) (hb:PE X b tb):PE X (.IfExp c a b pos) (tIf tA ta tb):=by
 intro pins s σ H Q I h;refine wpAny_IfExp (thn (hc pins s σ H _ I h) fun d s1 ⟨H1,I1,q1⟩=>?_)
 cases d with
 | true=>exact ha pins s1 σ H1 Q I1 q1
 | false=>exact hb pins s1 σ H1 Q I1 q1
end
def SqL (K:ai) (H:Hp) (a:aj) (xs:List V):Prop:=
 Rd H a (.lst xs) \/
  ∃ (o:Obj) (its:Array ag) (n:Nat),K.lookup a=some o/\o.cls=.type "list"/\o.dict=none/\o.data=.seq its n/\its.size<=ax/\dq xs its.toList
def SqT (K:ai) (H:Hp) (a:aj) (xs:List V):Prop:=
 Rd H a (.tup xs) \/
  ∃ (o:Obj) (its:Array ag) (n:Nat),K.lookup a=some o/\o.cls=.type "tuple"/\o.data=.seq its n/\its.size<=ax/\dq xs its.toList
def absV:ag->Option V
 | .none=>some .non
 | .bool b=>some (.bl b)
 | .int i _=>some (.int i)
 | .str x _=>some (.str x)
 | .bytes b _=>some (.byt b)
 | .float b _=>some (.flt b)
 | .ref a=>some (.ref a)
 | .type n=>some (.ty n)
 | _=>none
theorem RelV.abs {x:V} {u:ag} (r:RelV x u):absV u=some x:=by
 cases x with
 | non=>cases r; rfl
 | bl _=>cases r; rfl
 | int _=>obtain ⟨t,rfl⟩:=r; rfl
 | str _=>obtain ⟨t,rfl⟩:=r; rfl
 | byt _=>obtain ⟨t,rfl⟩:=r; rfl
 | flt _=>obtain ⟨t,rfl⟩:=r; rfl
 | ref _=>cases r; rfl
 | ty _=>cases r; rfl
theorem RelV.inj {x y:V} {u:ag} (r:RelV x u) (q:RelV y u):x=y:=b0 (r.abs.symm.trans q.abs)
theorem dq.inj:∀ {xs ys:List V} {us:List ag},dq xs us->dq ys us->xs=ys
 | _,_,_,.nil,.nil=>rfl
 | _,_,_,.cons r t,.cons r' t'=>by rw [r.inj r',dq.inj t t']
section
variable {X:Cx} {pins:List (aj×Obj)} {σ:St} {H:Hp} {s:ah} {a:aj} {xs ys:List V}
theorem SqL.of {K:ai} (h:H a=some (.lst xs)):SqL K H a xs:=.inl (.inl h)
theorem SqT.of {K:ai} (h:H a=some (.tup xs)):SqT K H a xs:=.inl (.inl h)
theorem Inv.list (I:Inv X pins σ H s) (h:SqL X.K H a xs):∃ its:List ag,dq xs its/\PlainL s.heap a its.toArray/\xs.length<=ax:=by
 rcases h with h | ⟨o,its,n,hk,hc,hd,hs,hz,r⟩
 ·obtain ⟨z,its,n,r,e⟩:=h.ok I.hok;exact ⟨its,r,⟨_,n,e,rfl,rfl,rfl⟩,z⟩
 ·refine ⟨its.toList,r,⟨o,n,I.kIn a o hk,hc,hd,by simpa using hs⟩,?_⟩;have e:=r.length;simp only [bY] at e;omega
theorem Inv.tuple (I:Inv X pins σ H s) (h:SqT X.K H a xs):∃ its:List ag,dq xs its/\IsTup s.heap a its.toArray/\xs.length<=ax:=by
 rcases h with h | ⟨o,its,n,hk,hc,hs,hz,r⟩
 ·obtain ⟨z,its,r,p⟩:=h.ok I.hok;exact ⟨its,r,p,z⟩
 ·refine ⟨its.toList,r,⟨o,I.kIn a o hk,hc,n,by simpa using hs⟩,?_⟩;have e:=r.length;simp only [bY] at e;omega
theorem Inv.list_inj (I:Inv X pins σ H s) (h:SqL X.K H a xs) (h':SqL X.K H a ys):xs=ys:=by
 obtain ⟨its,r,⟨o,n,e,_,_,d⟩,_⟩:=I.list h;obtain ⟨its',r',⟨o',n',e',_,_,d'⟩,_⟩:=I.list h';rw [e] at e'; cases e';rw [d] at d';injection d' with d1 _;have:its=its':=by simpa using congrArg yn d1
 subst this;exact r.inj r'
theorem Inv.tuple_inj (I:Inv X pins σ H s) (h:SqT X.K H a xs) (h':SqT X.K H a ys):xs=ys:=by
 obtain ⟨its,r,⟨o,e,_,n,d⟩,_⟩:=I.tuple h;obtain ⟨its',r',⟨o',e',_,n',d'⟩,_⟩:=I.tuple h';rw [e] at e'; cases e';rw [d] at d';injection d' with d1 _;have:its=its':=by simpa using congrArg yn d1
 subst this;exact r.inj r'
end
abbrev Cx.wish (X:Cx) (E:ag->ah->Prop):Cx:={X with xe:=E}
abbrev Cx.nox (X:Cx):Cx:=X.wish fun _ _=>False
theorem Cx.Ok.wish {X:Cx} (ok:X.Ok) (E:ag->ah->Prop):(X.wish E).Ok:=
 ⟨ok.mod,ok.kind,ok.glob,ok.blt,ok.above,ok.inj,ok.has,ok.cab,ok.hd,ok.frames,ok.stk,ok.exf,ok.bs,ok.bsz,ok.noex,ok.exfs,ok.funs,ok.frf⟩
theorem Cx.Ok.unwish {X:Cx} {E:ag->ah->Prop} (ok:(X.wish E).Ok):X.Ok:=
 ⟨ok.mod,ok.kind,ok.glob,ok.blt,ok.above,ok.inj,ok.has,ok.cab,ok.hd,ok.frames,ok.stk,ok.exf,ok.bs,ok.bsz,ok.noex,ok.exfs,ok.funs,ok.frf⟩
section
variable {X:Cx} {pins:List (aj×Obj)} {σ:St} {H:Hp} {s:ah} {E:ag->ah->Prop}
theorem Inv.wish (I:Inv X pins σ H s) (E:ag->ah->Prop):Inv (X.wish E) pins σ H s:=⟨I.ok.wish E,I.os,I.bare,I.base,I.loc,I.cell,I.free,I.freeC,I.pin,I.hok,I.len⟩
theorem Inv.unwish (I:Inv (X.wish E) pins σ H s):Inv X pins σ H s:=⟨I.ok.unwish,I.os,I.bare,I.base,I.loc,I.cell,I.free,I.freeC,I.pin,I.hok,I.len⟩
theorem SP.unwish {D:Ends} {f:Flow} {s':ah} (h:SP (X.wish E) pins D f s'):SP X pins D f s':=by
 cases f with
 | next=>obtain ⟨σ',H',I,q⟩:=h; exact ⟨σ',H',I.unwish,q⟩
 | brk=>obtain ⟨σ',H',I,q⟩:=h; exact ⟨σ',H',I.unwish,q⟩
 | cont=>obtain ⟨σ',H',I,q⟩:=h; exact ⟨σ',H',I.unwish,q⟩
 | ret u=>obtain ⟨v,σ',H',I,r,q⟩:=h; exact ⟨v,σ',H',I.unwish,r,q⟩
theorem PSs.nox {st:List dw} {t:TS} (h:PSs X.nox st t):PSs X st t:=fun pins s σ H D I hw =>
 cg (h pins s σ H D (I.wish _) hw) (fun _ _ q=>q.unwish) fun _ _ z=>cL z
end
section
variable {X:Cx} {st:dw} {rest:List dw} {t u:TS} {e:cA} {te:TE} {pos:Pos}
def dY:TS:=fun D σ H=>D.nx σ H
def By (t u:TS):TS:=fun D σ H=>t {D with nx:=u D} σ H
theorem bO:PSs X [] dY:=fun _ _ σ H _ I h=>fK ⟨σ,H,I,h⟩
theorem aH (h1:PS X st t) (h2:PSs X rest u):PSs X (st :: rest) (By t u):=by
 intro pins s σ H D I h;refine wpAny_execs_cons (thn (h1 pins s σ H {D with nx:=u D} I h) fun f s1 q=>?_)
 cases f with
 | next =>
  obtain ⟨σ',H',I',q⟩:=q;exact h2 pins s1 σ' H' D I' q
 | ret v=>exact q
 | brk=>exact q
 | cont=>exact q
theorem aI (h1:PS X st t):PSs X [st] t:=by
 intro pins s σ H D I h;refine wpAny_execs_cons (thn (h1 pins s σ H D I h) fun f s1 q=>?_)
 cases f with
 | next=>exact fK q
 | ret v=>exact q
 | brk=>exact q
 | cont=>exact q
def Ia:TS:=fun D σ H=>D.bk σ H
theorem rM:PS X (.Break pos) Ia:=fun _ _ σ H _ I h=>wpAny_Break ⟨σ,H,I,h⟩
theorem Inv.quiet {pins:List (aj×Obj)} {σ:St} {H:Hp} {s:ah} (I:Inv X pins σ H s):interactive X.env=false:=by simp [interactive,I.ok.kind]
def Gn (te:TE):TS:=fun D σ H=>te σ H fun _ H1=>D.nx σ H1
theorem dI (he:PE X e te) (hs:lZ e none pos.line X.env=pure false:=by rfl):PS X (.Expr e pos) (Gn te):=by
 intro pins s σ H D I h;exact wpAny_Expr_any (thn (he pins s σ H _ I h) fun v s1 ⟨x,H1,I1,r1,q1⟩=>⟨σ,H1,I1,q1⟩) I.quiet hs
def uw (te:TE):TS:=fun D σ H=>te σ H D.rt
theorem bE (he:PE X e te):PS X (.Return (some e) pos) (uw te):=by
 intro pins s σ H D I h;exact wpAny_Return_some (thn (he pins s σ H _ I h) fun v s1 ⟨x,H1,I1,r1,q1⟩=>⟨x,σ,H1,I1,r1,q1⟩)
def vA (c:TT) (t u:TS):TS:=fun D σ H=>c σ H fun b H1=>if b=true then t D σ H1 else u D σ H1
theorem df {c:cA} {a b:List dw} {tc:TT} (hc:PT X c tc) (ha:PSs X a t) (hb:PSs X b u):PS X (.If c a b pos) (vA tc t u):=by
 intro pins s σ H D I h;refine wpAny_If (thn (hc pins s σ H _ I h) fun d s1 ⟨H1,I1,q1⟩=>?_)
 cases d with
 | true=>exact ha pins s1 σ H1 D I1 q1
 | false=>exact hb pins s1 σ H1 D I1 q1
end
abbrev TG:=V->St->Hp->(St->Hp->Prop)->Prop
abbrev TGs:=List V->St->Hp->(St->Hp->Prop)->Prop
def PG (X:Cx) (target:cA) (t:TG):Prop:=
 ∀ (pins:List (aj×Obj)) (s:ah) (σ:St) (H:Hp) (v:V) (u:ag) (Q:St->Hp->Prop),Inv X pins σ H s->RelV v u->t v σ H Q ->
  aY (aM X.prog X.w) X.A (nV target X.env u) (fun _ s'=>∃ σ' H',Inv X pins σ' H' s'/\Q σ' H') X.xe s
def PGs (X:Cx) (ts:List cA) (t:TGs):Prop:=
 ∀ (pins:List (aj×Obj)) (s:ah) (σ:St) (H:Hp) (vs:List V) (us:List ag) (Q:St->Hp->Prop),Inv X pins σ H s->dq vs us->t vs σ H Q ->
  aY (aM X.prog X.w) X.A (assignInOrder ((jD ts X.env).map (·.2)) us) (fun _ s'=>∃ σ' H',Inv X pins σ' H' s'/\Q σ' H') X.xe s
abbrev Ib:=V->V->V->Hp->(Hp->Prop)->Prop
def PSet (X:Cx) (t:Ib):Prop:=
 ∀ (pins:List (aj×Obj)) (s:ah) (σ:St) (H:Hp) (o i v:V) (ov iv u:ag) (Q:Hp->Prop),Inv X pins σ H s->RelV o ov->RelV i iv->RelV v u->t o i v H Q ->
  aY (aM X.prog X.w) X.A (setItem ov iv u) (fun _ s'=>∃ H',Inv X pins σ H' s'/\Q H') X.xe s
section
variable {X:Cx} {pos:Pos}
def rN (i:Nat):TG:=fun v σ H Q=>Q (σ.set i (some v)) H
theorem cT {i:Nat} {x:Str} (hN:X.N.Nodup) (hi:X.N[i]?=some x) (hx:Loc X.env.scope x) (hf:X.fn x=true\/X.env.scope.names.lookup x=some .local:=by first | exact .inl rfl | exact .inr rfl | assumption):PG X (.Name x pos) (rN i):=by
 intro pins s σ H v u Q I r h;exact vB (oB I hN hi hx r (fun s' I'=>⟨_,H,I',h⟩) hf)
def gNil:TGs:=fun vs σ H Q=>vs=[]/\Q σ H
inductive Gp (t:TG) (u:TGs) (vs:List V) (σ:St) (H:Hp) (Q:St->Hp->Prop):Prop where
 | mk (v:V) (r:List V) (h:vs=v :: r) (q:t v σ H fun σ' H'=>u r σ' H' Q):Gp t u vs σ H Q
def Cz (t:TG) (u:TGs):TGs:=fun vs σ H Q=>Gp t u vs σ H Q
theorem o5:PGs X [] gNil:=by
 intro pins s σ H vs us Q I r h;obtain ⟨e,h⟩:=h;subst e
 cases r;exact assignInOrder_nil ⟨σ,H,I,h⟩
theorem fU {e:cA} {es:List cA} {t:TG} {u:TGs} (h1:PG X e t) (h2:PGs X es u)
  (hs:(jD (e :: es) X.env).map (·.2)=nV e X.env :: (jD es X.env).map (·.2):=by rfl):PGs X (e :: es) (Cz t u):=by
 intro pins s σ H vs us Q I r h;obtain ⟨v,vr,e1,h⟩:=h;subst e1
 cases r with
 | cons r rr =>
  rw [hs];refine assignInOrder_cons (thn (h1 pins s σ H _ _ _ I r h) fun _ s1 ⟨σ1,H1,I1,q1⟩=>?_);exact h2 pins s1 σ1 H1 _ _ Q I1 rr q1
inductive GTup (K:ai) (n:Nat) (t:TGs) (v:V) (σ:St) (H:Hp) (Q:St->Hp->Prop):Prop where
 | mk (a:aj) (xs:List V) (h:v=.ref a) (s:SqT K H a xs) (l:xs.length=n) (q:t xs σ H Q):GTup K n t v σ H Q
def gTup (K:ai) (n:Nat) (t:TGs):TG:=fun v σ H Q=>GTup K n t v σ H Q
theorem ux {es:List cA} {k:Nat} {t:TGs} {n:Nat} (hc:X.calm=true) (h:PGs X es t)
  (hn:(jD es X.env).length=n:=by rfl) (hst:(jD es X.env).findIdx? (·.1)=none:=by rfl):PG X (.Tuple es k pos) (gTup X.K n t):=by
 intro pins s σ H v u Q I r hw;obtain ⟨a,xs,e1,hq,hl,hw⟩:=hw;subst e1
 cases r;obtain ⟨its,rv,ht,hz⟩:=I.tuple hq;refine assign_Tuple_tuple (I.ok.hd hc) ht (by simp [hn,<- hl,rv.length]) hst fun h' hx=>?_;have I1:Inv X pins σ H {s with heap:=h'}:=I.kept (t':=s.toks) fun b o e=>hx b o (br (bb e)) e;exact h pins _ σ H xs _ Q I1 (by simpa using rv) hw
def gSub (to ti:TE) (t:Ib):TG:=fun v σ H Q=>to σ H fun o H1=>ti σ H1 fun i H2=>t o i v H2 fun H3=>Q σ H3
theorem CA {o i:cA} {to ti:TE} {t:Ib} (ho:PE X o to) (hi:PE X i ti) (hs:PSet X t)
  (ha:∀ v,nV (.Subscript o i pos) X.env v=(do
   let ov <- pK [v] (d6 o X.env)
   let iv <- pK [v,ov] (d6 i X.env)
   sZ pos
   pK [v,ov,iv] (setItem ov iv v)
   release [v,ov,iv] []):=by intro _; rfl):PG X (.Subscript o i pos) (gSub to ti t):=by
 intro pins s σ H v u Q I r h;rw [ha];refine af (bK (thn (ho pins s σ H _ I h) fun ov s1 ⟨x,H1,I1,r1,q1⟩=>?_));refine af (bK (thn (hi pins s1 σ H1 _ I1 q1) fun iv s2 ⟨y,H2,I2,r2,q2⟩=>?_));refine af (bU (af (bK (thn (hs pins s2 σ H2 x y v ov iv u _ I2 r1 r2 r q2) fun _ s3 ⟨H3,I3,q3⟩=>?_))));exact wpAny_release ⟨σ,H3,I3,q3⟩
def yo (te:TE) (g:TG):TS:=fun D σ H=>te σ H fun x H1=>g x σ H1 D.nx
theorem CB {tg e:cA} {te:TE} {g:TG} (he:PE X e te) (hg:PG X tg g) (hs:swapsWithSole [tg] e pos.line X.env=pure false:=by rfl) (hw:swappedStores [tg] e X.env=pure none:=by rfl)
  (h1:(jD [tg] X.env).map (·.2)=[nV tg X.env]:=by rfl):PS X (.Assign [tg] e pos) (yo te g):=by
 intro pins s σ H D I h;refine wpAny_Assign_stores (thn (he pins s σ H _ I h) fun v s1 ⟨x,H1,I1,r1,q1⟩=>?_) hs hw;rw [h1];exact thn (hg pins s1 σ H1 x v _ I1 r1 q1) fun _ s2 q=>q
theorem cq {i:Nat} {x:Str} {e:cA} {te:TE} {pos':Pos} (hN:X.N.Nodup) (hi:X.N[i]?=some x) (hx:Loc X.env.scope x) (he:PE X e te) (hs:lZ e (some (.Name x pos')) pos.line X.env=pure false:=by rfl) (hf:X.fn x=true\/X.env.scope.names.lookup x=some .local:=by first | exact .inl rfl | exact .inr rfl | assumption) :
  PS X (.Assign [.Name x pos'] e pos) (yo te (rN i)):=by
 intro pins s σ H D I h;refine wpAny_Assign_Name (thn (he pins s σ H _ I h) fun v s1 ⟨y,H1,I1,r1,q1⟩=>?_) hs;exact oB I1 hN hi hx r1 (fun s2 I2=>⟨_,H1,I2,q1⟩) hf
end
section
variable {X:Cx} {pos:Pos}
def CC (c:TT) (tb:TS):TS:=fun D σ H=>∃ W:Nat->St->Hp->Prop,(∃ m,W m σ H)/\∀ m σ H,W m σ H ->
 c σ H fun b H1=>if b=true then ∃ N:St->Hp->Prop,(∀ σ' H',N σ' H'->∃ m',m' < m/\W m' σ' H')/\tb {D with nx:=N,ct:=N,bk:=D.nx} σ H1 else D.nx σ H1
theorem CD {c:cA} {body:List dw} {tc:TT} {tb:TS} (hp:wZ (aM X.prog X.w) X.A X.env X.xe) (hc:PT X c tc) (hb:PSs X body tb):PS X (.While c body [] pos) (CC tc tb):=by
 intro pins s σ H D I h;obtain ⟨W,⟨m0,w0⟩,turn⟩:=h;refine wpAny_While (codeAny_whileLoop (fun n s'=>∃ σ' H',Inv X pins σ' H' s'/\W n σ' H') ?_ m0 ⟨σ,H,I,w0⟩);rintro n s1 ⟨σ1,H1,I1,w1⟩;refine eB hp (thn (hc pins s1 σ1 H1 _ I1 (turn n σ1 H1 w1)) fun b s2 ⟨H2,I2,q2⟩=>?_)
 cases b with
 | true =>
  obtain ⟨N,hN,q2⟩:=q2;rw [if_pos rfl];refine eB hp (thn (hb pins s2 σ1 H2 _ I2 q2) fun f s3 q3=>?_)
  cases f with
  | next =>
   obtain ⟨σ3,H3,I3,n3⟩:=q3;obtain ⟨m',hm,w3⟩:=hN σ3 H3 n3;exact ⟨m',hm,σ3,H3,I3,w3⟩
  | cont =>
   obtain ⟨σ3,H3,I3,n3⟩:=q3;obtain ⟨m',hm,w3⟩:=hN σ3 H3 n3;exact ⟨m',hm,σ3,H3,I3,w3⟩
  | brk=>exact q3
  | ret v=>exact q3
 | false =>
  rw [if_neg bc];exact fK ⟨σ1,H2,I2,q2⟩
end
structure It where
 go:Nat->Hp->Prop
 yld:Nat->Hp->V->Hp->Prop
 stop:Nat->Hp->Prop
def w5 (X:Cx) (pins:List (aj×Obj)) (H:Hp) (b:aj):Prop:=
 H b=none/\b≠X.env.locals/\b∉X.fs/\(b∈X.ex\/X.s₀.heap.objs.size<=b)/\(∀ x c,X.env.cells.lookup x=some c->c≠b)/\∀ p∈X.pn++pins,p.1≠b
theorem Inv.fpOk {X:Cx} {pins:List (aj×Obj)} {σ:St} {H H':Hp} {s:ah} {b:aj} (I:Inv X pins σ H s) (hb:s.heap.objs.size<=b) (hn:H' b=none):w5 X pins H' b:=by
 refine ⟨hn,mX (bg I.lt hb),I.nofs hb,.inr (bC I.sz hb),fun x c e z=>?_,fun p hp z=>?_⟩
 ·obtain ⟨v,q⟩:=I.cell x c e;exact absurd (bg q.lt (by rw [z]; exact hb)) (dz _)
 ·exact absurd (bg (bb (I.pin p hp).1) (by rw [z]; exact hb)) (dz _)
structure Bz (P:aS) (w:bN) (K:ai) (tg:cA) (J:It) (fp:List aj) (it:aj) (tn:Nat->cI->Prop):Prop where
 mem:it∈fp
 obj:∀ i h,tn i h->∀ b∈fp,∃ o,h.get? b=some o/\∀ v,o.data≠.cell v
 keep:∀ i h h',tn i h->(∀ b∈fp,∀ o,h.get? b=some o->h'.get? b=some o)->tn i h'
 item:∀ (X:Cx),X.prog=P->X.w=w->X.K=K->X.calm=true->∀ (i:Nat) (pins:List (aj×Obj)) (s:ah) (σ:St) (H:Hp) (E:ag->ah->Prop),Inv X pins σ H s->(∀ b∈fp,w5 X pins H b)->tn i s.heap->J.go i H ->
  aY (aM P w) X.A (CF (.ref it)) (fun r s1=>∃ u,r=some u /\
   aY (aM P w) X.A (i6 tg (.ref it) u) (fun _ s2=>∃ x H',Inv X pins σ H' s2/\RelV x u/\J.yld i H x H'/\tn (i + 1) s2.heap/\∀ b∈fp,H' b=none) E s1) E s
 done:∀ (X:Cx),X.prog=P->X.w=w->X.K=K->X.calm=true->∀ (i:Nat) (pins:List (aj×Obj)) (s:ah) (σ:St) (H:Hp) (E:ag->ah->Prop),Inv X pins σ H s->(∀ b∈fp,w5 X pins H b)->tn i s.heap->J.stop i H ->
  aY (aM P w) X.A (CF (.ref it)) (fun r s1=>r=none/\Inv X pins σ H s1) E s
 self:∀ (A:bJ) (i:Nat) (s:ah) (Q:ag->ah->Prop) (E:ag->ah->Prop),tn i s.heap->Q (.ref it) s->aY (aM P w) A (Ic (.ref it)) Q E s
abbrev TI:=St->Hp->(It->Hp->Prop)->Prop
def PIE (X:Cx) (pins:List (aj×Obj)) (σ:St) (tg:cA) (R:It->Hp->Prop) (itv:ag) (s2:ah):Prop:=
 ∃ (it:aj) (fp:List aj) (tn:Nat->cI->Prop) (J:It) (H':Hp),itv=.ref it/\Inv X pins σ H' s2/\Bz X.prog X.w X.K tg J fp it tn/\tn 0 s2.heap/\(∀ b∈fp,w5 X pins H' b)/\R J H'
def PI (X:Cx) (tg iter:cA) (wi:TI):Prop:=
 ∀ (pins:List (aj×Obj)) (s:ah) (σ:St) (H:Hp) (R:It->Hp->Prop),Inv X pins σ H s->wi σ H R ->
  aY (aM X.prog X.w) X.A (d6 iter X.env) (fun v s1=>aY (aM X.prog X.w) X.A (Ic v) (PIE X pins σ tg R) X.xe s1) X.xe s
theorem yp {M:lU} {A:bJ} {E:ag->ah->Prop} {s:ah} {tg:cA} {it:aj} {u:ag} {o:Obj} {n:String} {vs:Array ag} {Q:Unit->ah->Prop} (ho:s.heap.get? it=some o) (hc:o.cls=.type n) (hd:o.data=.fields vs)
  (hn:["enumerate","zip","dict_itemiterator","dict_reverseitemiterator","odict_iterator","itertools.zip_longest","itertools.pairwise"].contains n=false) (hQ:Q () s):aY M A (i6 tg (.ref it) u) Q E s:=by
 unfold i6
 cases tg <;> first
  | exact av hQ
  |(cases u <;> first
    | exact av hQ
    |(refine af (wpAny_load ho ?_)
      rw [hc,hd];show aY M A (if (["enumerate","zip","dict_itemiterator","dict_reverseitemiterator","odict_iterator","itertools.zip_longest","itertools.pairwise"].contains n && vs[0]? == some (kX _))=true then _ else _) Q E s;rw [if_neg (by intro h; rw [hn,qV] at h; cases h)];exact av hQ))
def Itl (K:ai) (a:aj):It:=
 ⟨fun i H=>∃ xs x,SqL K H a xs/\xs[i]?=some x,fun i H x H'=>H'=H/\∀ xs,SqL K H a xs->xs[i]?=some x,fun i H=>∃ xs,SqL K H a xs/\xs.length<=i⟩
def Itt (K:ai) (a:aj):It:=
 ⟨fun i H=>∃ xs x,SqT K H a xs/\xs[i]?=some x,fun i H x H'=>H'=H/\∀ xs,SqT K H a xs->xs[i]?=some x,fun i H=>∃ xs,SqT K H a xs/\xs.length<=i⟩
def Itr (lo:Int) (n:Nat):It:=⟨fun i _=>i < n,fun i H x H'=>H'=H/\x=.int (lo + i),fun i _=>n<=i⟩
theorem BA {P:aS} {w:bN} {K:ai} {tg:cA} (a it:aj):Bz P w K tg (Itl K a) [it] it (fun i h=>h.IsListIter it a i) where
 mem:=by simp
 obj:=fun i h st b hb=>by
  have e:b=it:=by simpa using hb
  subst e;obtain ⟨o,e,c,d⟩:=st;exact ⟨o,e,fun v z=>by rw [d] at z; cases z⟩
 keep:=fun i h h' st k=>st.at fun o e=>k it (by simp) o e
 item:=by
  intro X hP hw hK hc i pins s σ H E I hf st hg;subst hP hw hK;obtain ⟨xs,x,hq,hx⟩:=hg;obtain ⟨its,rv,p,hz⟩:=I.list hq;obtain ⟨u,hu,ru⟩:=rv.get hx;obtain ⟨f0,f1,f2,f3,f4,f5⟩:=hf it (by simp);refine CG st p.isList (x:=u) (by simpa using hu) fun h' st' sb=>?_;have I1:Inv X pins σ H {s with heap:=h'}:=I.turned (t':=s.toks) (fun b o hb e=>(sb.2 b hb).trans e) f0 f1 f3 f4 f5;obtain ⟨o,e,c,d⟩:=id st';exact ⟨u,rfl,yp (s:={s with heap:=h'}) e c d (by decide) ⟨x,H,I1,ru,⟨rfl,fun ys hy=>by rw [I.list_inj hy hq]; exact hx⟩,st',fun b hb=>(hf b hb).1⟩⟩
 done:=by
  intro X hP hw hK hc i pins s σ H E I hf st hg;subst hP hw hK;obtain ⟨xs,hq,hx⟩:=hg;obtain ⟨its,rv,p,hz⟩:=I.list hq;obtain ⟨f0,f1,f2,f3,f4,f5⟩:=hf it (by simp);have hl:=rv.length;exact EL (I.ok.hd hc) st p.isList (by simp; omega) fun h' eb=>⟨rfl,I.turned (t':=s.toks) (fun b o hb e=>eb b o hb e) f0 f1 f3 f4 f5⟩
 self:=fun _ _ _ _ _ st h=>wpAny_pyIter_listiter st h
theorem zD {P:aS} {w:bN} {K:ai} {tg:cA} (a it:aj):Bz P w K tg (Itt K a) [it] it (fun i h=>h.IsTupleIter it a i) where
 mem:=by simp
 obj:=fun i h st b hb=>by
  have e:b=it:=by simpa using hb
  subst e;obtain ⟨o,e,c,d⟩:=st;exact ⟨o,e,fun v z=>by rw [d] at z; cases z⟩
 keep:=fun i h h' st k=>st.at fun o e=>k it (by simp) o e
 item:=by
  intro X hP hw hK hc i pins s σ H E I hf st hg;subst hP hw hK;obtain ⟨xs,x,hq,hx⟩:=hg;obtain ⟨its,rv,p,hz⟩:=I.tuple hq;obtain ⟨u,hu,ru⟩:=rv.get hx;obtain ⟨f0,f1,f2,f3,f4,f5⟩:=hf it (by simp);refine wpAny_pyNext_tuple_item st (show s.heap.IsTuple a its.toArray from p) (x:=u) (by simpa using hu) fun h' st' sb=>?_;have I1:Inv X pins σ H {s with heap:=h'}:=I.turned (t':=s.toks) (fun b o hb e=>(sb.2 b hb).trans e) f0 f1 f3 f4 f5;obtain ⟨o,e,c,d⟩:=id st';exact ⟨u,rfl,yp (s:={s with heap:=h'}) e c d (by decide) ⟨x,H,I1,ru,⟨rfl,fun ys hy=>by rw [I.tuple_inj hy hq]; exact hx⟩,st',fun b hb=>(hf b hb).1⟩⟩
 done:=by
  intro X hP hw hK hc i pins s σ H E I hf st hg;subst hP hw hK;obtain ⟨xs,hq,hx⟩:=hg;obtain ⟨its,rv,p,hz⟩:=I.tuple hq;obtain ⟨f0,f1,f2,f3,f4,f5⟩:=hf it (by simp);have hl:=rv.length;exact wpAny_pyNext_tuple_end (I.ok.hd hc) st (show s.heap.IsTuple a its.toArray from p) (by simp; omega) fun h' eb=>⟨rfl,I.turned (t':=s.toks) (fun b o hb e=>eb b o hb e) f0 f1 f3 f4 f5⟩
 self:=fun _ _ _ _ _ st h=>wpAny_pyIter_tupleiter st h
theorem zE {P:aS} {w:bN} {K:ai} {tg:cA} (it:aj) (lo:Int) (n:Nat):Bz P w K tg (Itr lo n) [it] it (fun i h=>IsRangeIter h it (lo + (i:Nat) * 1) ((n:Int) - (i:Nat)) 1) where
 mem:=by simp
 obj:=fun i h st b hb=>by
  have e:b=it:=by simpa using hb
  subst e;exact ⟨_,st,fun v z=>by
   have z':Data.fields _=Data.cell v:=z
   cases z'⟩
 keep:=fun i h h' st k=>k it (by simp) _ st
 item:=by
  intro X hP hw hK hc i pins s σ H E I hf st hg;subst hP hw hK;obtain ⟨f0,f1,f2,f3,f4,f5⟩:=hf it (by simp);have W:=Walks.range (prog:=X.prog) (w:=X.w) (I.ok.hd hc) it lo 1 n;refine W.item i s _ _ hg st fun v h' tk hv st' kk=>?_;obtain ⟨t,rfl⟩:=hv;have I1:Inv X pins σ H {s with heap:=h',toks:=tk}:=I.turned (fun b o hb e=>kk b o (by simpa using hb) e) f0 f1 f3 f4 f5;refine ⟨_,rfl,yp (s:={s with heap:=h',toks:=tk}) (n:="range_iterator") st' rfl rfl (by decide) ⟨.int (lo + i),H,I1,⟨t,?_⟩,⟨rfl,rfl⟩,st',fun b hb=>(hf b hb).1⟩⟩;rw [Int.mul_one]
 done:=by
  intro X hP hw hK hc i pins s σ H E I hf st hg;subst hP hw hK;obtain ⟨f0,f1,f2,f3,f4,f5⟩:=hf it (by simp);exact wpAny_pyNext_range_end (I.ok.hd hc) st (by have:n<=i:=hg; omega) fun h' eb=>⟨rfl,I.turned (t':=s.toks) (fun b o hb e=>eb b o hb e) f0 f1 f3 f4 f5⟩
 self:=fun _ _ _ _ _ st h=>wpAny_pyIter_rangeiter st h
section
variable {X:Cx} {tg:cA}
def vS (K:ai) (tl:TE):TI:=fun σ H R=>tl σ H fun x H1=>∃ a,x=.ref a/\(∃ xs,SqL K H1 a xs)/\R (Itl K a) H1
def iTup (K:ai) (tl:TE):TI:=fun σ H R=>tl σ H fun x H1=>∃ a,x=.ref a/\(∃ xs,SqT K H1 a xs)/\R (Itt K a) H1
theorem eV {l:cA} {tl:TE} (hl:PE X l tl):PI X tg l (vS X.K tl):=by
 intro pins s σ H R I h;refine thn (hl pins s σ H _ I h) fun v s1 ⟨x,H1,I1,r1,q1⟩=>?_;obtain ⟨a,e,⟨xs,hq⟩,q⟩:=q1;subst e
 cases r1;obtain ⟨its,rv,p,hz⟩:=I1.list hq;refine vC p.isList ?_;refine ⟨s1.heap.objs.size,[s1.heap.objs.size],_,_,H1,rfl,I1.kept (t':=s1.toks) fun b o e=>ay _ e,BA a _,⟨_,bH _ rfl,rfl,rfl⟩,fun b hb=>?_,q⟩;have e:b=s1.heap.objs.size:=by simpa using hb
 subst e;exact I1.fpOk (aF _) (I1.hok.fresh (aF _))
theorem Ie {l:cA} {tl:TE} (hl:PE X l tl):PI X tg l (iTup X.K tl):=by
 intro pins s σ H R I h;refine thn (hl pins s σ H _ I h) fun v s1 ⟨x,H1,I1,r1,q1⟩=>?_;obtain ⟨a,e,⟨xs,hq⟩,q⟩:=q1;subst e
 cases r1;obtain ⟨its,rv,p,hz⟩:=I1.tuple hq;refine wpAny_pyIter_tuple (show s1.heap.IsTuple a its.toArray from p) ?_;refine ⟨s1.heap.objs.size,[s1.heap.objs.size],_,_,H1,rfl,I1.kept (t':=s1.toks) fun b o e=>ay _ e,zD a _,⟨_,bH _ rfl,rfl,rfl⟩,fun b hb=>?_,q⟩;have e:b=s1.heap.objs.size:=by simpa using hb
 subst e;exact I1.fpOk (aF _) (I1.hok.fresh (aF _))
theorem CH {pins:List (aj×Obj)} {σ:St} {H:Hp} {s:ah} {R:It->Hp->Prop} {E:ag->ah->Prop} {lo hi:Int} {t u v:Tok} {tk:Nat} (I:Inv X pins σ H s) (h1:-(2 ^ 62)<=lo) (h2:lo < 2 ^ 62) (h3:-(2 ^ 62)<=hi) (h4:hi < 2 ^ 62)
  (q:R (Itr lo (hi - lo).toNat) H):aY (aM X.prog X.w) X.A (Ic (.ref s.heap.objs.size)) (PIE X pins σ tg R) E {s with heap:=s.heap.push {cls:=.type "range",data:=.fields #[.int lo t,.int hi u,.int 1 v]},toks:=tk}:=by
 refine wpAny_pyIter_range (IsRange.new ..) (small_one h1 h2 h3 h4) ?_;have I1:Inv X pins σ H {s with heap:=s.heap.push {cls:=.type "range",data:=.fields #[.int lo t,.int hi u,.int 1 v]},toks:=tk}:=I.kept fun b o e=>ay _ e;refine ⟨(s.heap.push {cls:=.type "range",data:=.fields #[.int lo t,.int hi u,.int 1 v]}).objs.size,[(s.heap.push {cls:=.type "range",data:=.fields #[.int lo t,.int hi u,.int 1 v]}).objs.size],_,_,H,rfl,
  I1.kept (t':=tk) fun b o e=>ay _ e,zE _ lo (hi - lo).toNat,?_,fun b hb=>?_,q⟩
 ·have e1:lo + ((0:Nat):Int) * 1=lo:=by simp
  have e2:(((hi - lo).toNat:Nat):Int) - ((0:Nat):Int)=Builtin.Range.rangeSize lo hi 1:=by rw [rangeSize_one]; split <;> omega
  show IsRangeIter _ _ (lo + ((0:Nat):Int) * 1) ((((hi - lo).toNat:Nat):Int) - ((0:Nat):Int)) 1;rw [e1,e2];exact bH _ rfl
 ·have e:b=(s.heap.push {cls:=.type "range",data:=.fields #[.int lo t,.int hi u,.int 1 v]}).objs.size:=by simpa using hb
  subst e;exact I1.fpOk (aF _) (I1.hok.fresh (aF _))
def Gq (ta:TA):TI:=fun σ H R=>ta σ H fun vs H1=>∃ j:Int,vs=[.int j]/\-(2 ^ 62)<=j/\j < 2 ^ 62/\R (Itr 0 j.toNat) H1
theorem lV {a:cA} {ta:TA} {p pos:Pos} (hg:Gl X "range") (hm:X.mg "range"=none) (ha:PA X [a] ta) (hs:bM [a] X.env=[(false,d6 a X.env)]:=by rfl):PI X tg (.Call (.Name "range" p) [a] [] pos) (Gq ta):=by
 intro pins s σ H R I h;refine Call_ (oY I hg hm boot_range (fY (thn (ha pos pins s σ H _ I h) fun us s1 ⟨vs,H1,I1,r1,q1⟩=>?_) hs rfl));obtain ⟨j,e,q1,q2,q⟩:=q1;subst e
 cases r1 with
 | cons r rr =>
  cases rr;obtain ⟨t,rfl⟩:=r;exact call_range_1 (CH I1 (by omega) (by omega) q1 q2 (by simpa using q))
def tFor (wi:TI) (g:TG) (tb:TS):TS:=fun D σ H=>wi σ H fun J H1=>∃ W:Nat->Nat->St->Hp->Prop,(∃ m,W 0 m σ H1)/\∀ i m σ H,W i m σ H ->
 (J.stop i H/\D.nx σ H)\/(J.go i H/\∃ N:St->Hp->Prop,(∀ σ' H',N σ' H'->∃ m',m' < m/\W (i + 1) m' σ' H')/\∀ x H',J.yld i H x H'->g x σ H' fun σ2 H2=>tb {D with nx:=N,ct:=N,bk:=D.nx} σ2 H2)
def o6 (fp:List aj) (h:cI):List (aj×Obj):=fp.filterMap fun b=>(h.get? b).map fun o=>(b,o)
theorem iQ {fp:List aj} {h:cI} {b:aj} {o:Obj} (hb:b∈fp) (e:h.get? b=some o):(b,o)∈o6 fp h:=gD.mpr ⟨b,hb,by rw [e]; rfl⟩
theorem BB {fp:List aj} {h:cI} {p:aj×Obj} (hp:p∈o6 fp h):p.1∈fp/\h.get? p.1=some p.2:=by
 obtain ⟨b,hb,e⟩:=gD.mp hp
 cases q:h.get? b with
 | none=>rw [q] at e; cases e
 | some o =>
  rw [q] at e;have e':(b,o)=p:=b0 e;subst e';exact ⟨hb,q⟩
theorem Inv.pinned {pins:List (aj×Obj)} {σ:St} {H:Hp} {s:ah} {fp:List aj} (I:Inv X pins σ H s) (hf:∀ b∈fp,w5 X pins H b) (ho:∀ b∈fp,∃ o,s.heap.get? b=some o/\∀ v,o.data≠.cell v):Inv X (pins++o6 fp s.heap) σ H s:=
 I.pins_of fun p hp=>(aU.mp hp).elim (fun z=>I.pin p (aT _ z)) fun z=>by
  obtain ⟨hb,e⟩:=BB z;obtain ⟨f0,f1,f2,_⟩:=hf p.1 hb;obtain ⟨o,e',d⟩:=ho p.1 hb;rw [e] at e'; cases e';exact ⟨e,f0,f1,f2,d⟩
theorem Inv.unpinned {pins pl:List (aj×Obj)} {σ:St} {H:Hp} {s:ah} (I:Inv X (pins++pl) σ H s):Inv X pins σ H s:=I.pins_of fun p hp=>I.pin p (aT _ (dj _ hp))
theorem jt {iter:cA} {body:List dw} {wi:TI} {g:TG} {tb:TS} {pos:Pos} (hp:wZ (aM X.prog X.w) X.A X.env X.xe) (hc:X.calm=true) (hi:PI X tg iter wi) (hg:PG X tg g) (hb:PSs X body tb)
  (hs:∀ x,gv iter X.env x=pure x:=by intro _; rfl):PS X (.For tg iter body [] pos) (tFor wi g tb):=by
 intro pins s σ H D I h;refine wpAny_For (thn (hi pins s σ H _ I h) fun v s1 h1=>thn h1 fun itv s2 h2=>?_) hs;obtain ⟨it,fp,tn,J,H2,e,I2,T,st2,f2,W,⟨m0,w0⟩,turn⟩:=h2;subst e
 -- what stays true of the iterator's objects through the loop
 have stat:∀ {H':Hp},(∀ b∈fp,H' b=none)->∀ b∈fp,w5 X pins H' b:=fun hn b hb=>⟨hn b hb,(f2 b hb).2⟩;refine codeAny_forLoop_any (fun n s'=>∃ i σ' H',Inv X pins σ' H' s'/\tn i s'.heap/\(∀ b∈fp,H' b=none)/\W i n σ' H') ?_ m0 ⟨0,σ,H2,I2,st2,fun b hb=>(f2 b hb).1,w0⟩;rintro n s3 ⟨i,σ3,H3,I3,st3,fr3,w3⟩
 rcases turn i n σ3 H3 w3 with ⟨stop,qn⟩ | ⟨go,N,hN,step⟩
 ·refine eB hp (thn (T.done X rfl rfl rfl hc i pins s3 σ3 H3 X.xe I3 (stat fr3) st3 stop) fun r s4 ⟨hr,I4⟩=>?_);subst hr;exact fK ⟨σ3,H3,I4,qn⟩
 ·refine eB hp (thn (T.item X rfl rfl rfl hc i pins s3 σ3 H3 X.xe I3 (stat fr3) st3 go) fun r s4 ⟨u,hr,h4⟩=>?_);subst hr;refine eB hp (thn h4 fun _ s5 ⟨x,H5,I5,r5,y5,st5,fr5⟩=>?_);have I5':=I5.pinned (stat fr5) (T.obj _ _ st5);refine eB hp (thn (hg _ s5 σ3 H5 x u _ I5' r5 (step x H5 y5)) fun _ s6 ⟨σ6,H6,I6,q6⟩=>?_);refine eB hp (thn (hb _ s6 σ6 H6 _ I6 q6) fun f s7 q7=>?_);have again:∀ {σ7:St} {H7:Hp},Inv X (pins++o6 fp s5.heap) σ7 H7 s7->N σ7 H7->∃ m,m < n/\∃ i σ' H',Inv X pins σ' H' s7/\tn i s7.heap/\(∀ b∈fp,H' b=none)/\W i m σ' H':=fun {σ7 H7} I7 n7=>by
   obtain ⟨m',hm,w7⟩:=hN σ7 H7 n7;refine ⟨m',hm,i + 1,σ7,H7,I7.unpinned,T.keep _ _ _ st5 fun b hb o e=>(I7.pin (b,o) (aT _ (aT _ (iQ hb e)))).1,fun b hb=>?_,w7⟩;obtain ⟨o,e,d⟩:=T.obj _ _ st5 b hb;exact (I7.pin (b,o) (aT _ (aT _ (iQ hb e)))).2.1
  cases f with
  | next=>obtain ⟨σ7,H7,I7,n7⟩:=q7; exact again I7 n7
  | cont=>obtain ⟨σ7,H7,I7,n7⟩:=q7; exact again I7 n7
  | brk=>obtain ⟨σ7,H7,I7,q7⟩:=q7; exact ⟨σ7,H7,I7.unpinned,q7⟩
  | ret v=>obtain ⟨x7,σ7,H7,I7,r7,q7⟩:=q7; exact ⟨x7,σ7,H7,I7.unpinned,r7,q7⟩
end
theorem gW {K:ai} {a:aj} {xs:List V} {g:TG} {tb:TS} {D:Ends} {σ:St} {H:Hp} (Pv:Nat->St->Hp->Prop) (h0:Pv 0 σ H) (hl:∀ i σ H,i<=xs.length->Pv i σ H->SqL K H a xs)
  (hs:∀ i x σ H,xs[i]?=some x->Pv i σ H->g x σ H fun σ2 H2=>tb {D with nx:=Pv (i + 1),ct:=Pv (i + 1),bk:=D.nx} σ2 H2) (hd:∀ σ H,Pv xs.length σ H->D.nx σ H) :
  ∃ W:Nat->Nat->St->Hp->Prop,(∃ m,W 0 m σ H)/\∀ i m σ H,W i m σ H ->
   ((Itl K a).stop i H/\D.nx σ H)\/((Itl K a).go i H/\∃ N:St->Hp->Prop,(∀ σ' H',N σ' H'->∃ m',m' < m/\W (i + 1) m' σ' H')/\∀ x H',(Itl K a).yld i H x H'->g x σ H' fun σ2 H2=>tb {D with nx:=N,ct:=N,bk:=D.nx} σ2 H2):=by
 refine ⟨fun i m σ H=>m=xs.length - i/\i<=xs.length/\Pv i σ H,⟨xs.length,by simp,aR _,h0⟩,?_⟩;rintro i m σ H ⟨rfl,hi,p⟩;have q:=hl i σ H hi p
 by_cases hlt:i < xs.length
 ·refine .inr ⟨⟨xs,xs[i],q,by simp [hlt]⟩,Pv (i + 1),fun σ' H' p'=>⟨xs.length - (i + 1),by omega,rfl,hlt,p'⟩,fun x H' y=>?_⟩;obtain ⟨e,y⟩:=y;subst e;exact hs i x σ _ (y xs q) p
 ·have e:i=xs.length:=by omega
  subst e;exact .inl ⟨⟨xs,q,aF _⟩,hd σ H p⟩
theorem qz {lo:Int} {n:Nat} {g:TG} {tb:TS} {D:Ends} {σ:St} {H:Hp} (Pv:Nat->St->Hp->Prop) (h0:Pv 0 σ H)
  (hs:∀ i σ H,i < n->Pv i σ H->g (.int (lo + i)) σ H fun σ2 H2=>tb {D with nx:=Pv (i + 1),ct:=Pv (i + 1),bk:=D.nx} σ2 H2) (hd:∀ σ H,Pv n σ H->D.nx σ H) :
  ∃ W:Nat->Nat->St->Hp->Prop,(∃ m,W 0 m σ H)/\∀ i m σ H,W i m σ H ->
   ((Itr lo n).stop i H/\D.nx σ H)\/((Itr lo n).go i H/\∃ N:St->Hp->Prop,(∀ σ' H',N σ' H'->∃ m',m' < m/\W (i + 1) m' σ' H')/\∀ x H',(Itr lo n).yld i H x H'->g x σ H' fun σ2 H2=>tb {D with nx:=N,ct:=N,bk:=D.nx} σ2 H2):=by
 refine ⟨fun i m σ H=>m=n - i/\i<=n/\Pv i σ H,⟨n,by simp,aR _,h0⟩,?_⟩;rintro i m σ H ⟨rfl,hi,p⟩
 by_cases hlt:i < n
 ·refine .inr ⟨hlt,Pv (i + 1),fun σ' H' p'=>⟨n - (i + 1),by omega,rfl,hlt,p'⟩,fun x H' y=>?_⟩;obtain ⟨e,y⟩:=y;subst e y;exact hs i σ _ hlt p
 ·have e:i=n:=by omega
  subst e;exact .inl ⟨aF _,hd σ H p⟩
abbrev R2:=V->V->Hp->VK->Prop
def OpR (X:Cx) (f:ag->ag->Sem ag) (r:R2):Prop:=
 ∀ (pins:List (aj×Obj)) (s:ah) (σ:St) (H:Hp) (x y:V) (v u:ag) (Q:VK),Inv X pins σ H s->RelV x v->RelV y u->r x y H Q ->
  aY (aM X.prog X.w) X.A (f v u) (EP X pins σ Q) X.xe s
def UnR (X:Cx) (f:ag->Sem ag) (r:V->Hp->VK->Prop):Prop:=
 ∀ (pins:List (aj×Obj)) (s:ah) (σ:St) (H:Hp) (x:V) (v:ag) (Q:VK),Inv X pins σ H s->RelV x v->r x H Q ->
  aY (aM X.prog X.w) X.A (f v) (EP X pins σ Q) X.xe s
def l8 (X:Cx) (f:ag) (r:List V->Hp->VK->Prop):Prop:=
 ∀ (pins:List (aj×Obj)) (s:ah) (σ:St) (H:Hp) (xs:List V) (us:List ag) (Q:VK),Inv X pins σ H s->dq xs us->r xs H Q ->
  aY (aM X.prog X.w) X.A (rO f us) (EP X pins σ Q) X.xe s
def TruR (X:Cx) (r:V->Hp->(Bool->Hp->Prop)->Prop):Prop:=
 ∀ (pins:List (aj×Obj)) (s:ah) (σ:St) (H:Hp) (x:V) (v:ag) (Q:Bool->Hp->Prop),Inv X pins σ H s->RelV x v->r x H Q ->
  aY (aM X.prog X.w) X.A (truthy v) (TP X pins σ Q) X.xe s
def tOp (r:R2) (ta tb:TE):TE:=fun σ H Q=>ta σ H fun x H1=>tb σ H1 fun y H2=>r x y H2 Q
def tUn (r:V->Hp->VK->Prop) (ta:TE):TE:=fun σ H Q=>ta σ H fun x H1=>r x H1 Q
inductive RI (C:Int->Int->Prop) (g:Int->Int->V) (x y:V) (H:Hp) (Q:VK):Prop where
 | mk (i j:Int) (hx:x=.int i) (hy:y=.int j) (c:C i j) (q:Q (g i j) H):RI C g x y H Q
def rI (C:Int->Int->Prop) (g:Int->Int->V):R2:=fun x y H Q=>RI C g x y H Q
inductive RI0 (g:Int->Int->V) (x y:V) (H:Hp) (Q:VK):Prop where
 | mk (i j:Int) (hx:x=.int i) (hy:y=.int j) (q:Q (g i j) H):RI0 g x y H Q
def rI0 (g:Int->Int->V):R2:=fun x y H Q=>RI0 g x y H Q
inductive RU (g:Int->V) (x:V) (H:Hp) (Q:VK):Prop where
 | mk (i:Int) (hx:x=.int i) (q:Q (g i) H):RU g x H Q
def rU (g:Int->V):V->Hp->VK->Prop:=fun x H Q=>RU g x H Q
section
variable {X:Cx} {a b c:cA} {ta tb tc:TE} {pos:Pos}
theorem Ig (ha:PE X a ta) (hb:PE X b tb) {pins:List (aj×Obj)} {s:ah} {σ:St} {H:Hp} {R:V->V->Hp->Prop} (I:Inv X pins σ H s)
  (h:ta σ H fun x H1=>tb σ H1 fun y H2=>R x y H2) {Q:ag->ah->Prop} {f:ag->ag->Sem ag}
  (hf:∀ v u s2 x y H2,Inv X pins σ H2 s2->RelV x v->RelV y u->R x y H2->aY (aM X.prog X.w) X.A (f v u) Q X.xe s2) :
  aY (aM X.prog X.w) X.A (d6 a X.env) (fun v s₁=>aY (aM X.prog X.w) X.A (d6 b X.env) (fun u s₂=>aY (aM X.prog X.w) X.A (f v u) Q X.xe s₂) X.xe s₁) X.xe s:=by
 refine thn (ha pins s σ H _ I h) fun v s1 ⟨x,H1,I1,r1,q1⟩=>?_;refine thn (hb pins s1 σ H1 _ I1 q1) fun u s2 ⟨y,H2,I2,r2,q2⟩=>?_;exact hf v u s2 x y H2 I2 r1 r2 q2
theorem cb {op:zF} {r:R2} (ho:OpR X (jE op) r) (ha:PE X a ta) (hb:PE X b tb):PE X (.BinOp a op b pos) (tOp r ta tb):=by
 intro pins s σ H Q I h;exact wpAny_BinOp (Ig ha hb I h fun v u s2 x y H2 I2 rx ry q=>ho pins s2 σ H2 x y v u Q I2 rx ry q)
theorem AD {op:UnaryOp} {r:V->Hp->VK->Prop} (ho:UnR X (unaryOp op) r) (ha:PE X a ta):PE X (.UnaryOp op a pos) (tUn r ta):=by
 intro pins s σ H Q I h;exact UnaryOp_ (thn (ha pins s σ H _ I h) fun v s1 ⟨x,H1,I1,r1,q1⟩=>ho pins s1 σ H1 x v Q I1 r1 q1)
theorem opI {f:ag->ag->Sem ag} {C:Int->Int->Prop} {g:Int->Int->Int}
  (rule:∀ (i j:Int) (t u:Tok) (s:ah) (Q:ag->ah->Prop) (E:ag->ah->Prop),C i j->Q (.int (g i j) s.toks) {s with toks:=s.toks + 1}->aY (aM X.prog X.w) X.A (f (.int i t) (.int j u)) Q E s) :
  OpR X f (rI C fun i j=>.int (g i j)):=by
 intro pins s σ H x y v u Q I rx ry h;obtain ⟨i,j,rfl,rfl,hc,q⟩:=h;obtain ⟨t,rfl⟩:=rx;obtain ⟨t',rfl⟩:=ry;exact rule i j t t' s _ _ hc ⟨.int (g i j),H,I.tok _,⟨_,rfl⟩,q⟩
theorem opI0 {f:ag->ag->Sem ag} {g:Int->Int->Int}
  (rule:∀ (i j:Int) (t u:Tok) (s:ah) (Q:ag->ah->Prop) (E:ag->ah->Prop),Q (.int (g i j) s.toks) {s with toks:=s.toks + 1}->aY (aM X.prog X.w) X.A (f (.int i t) (.int j u)) Q E s) :
  OpR X f (rI0 fun i j=>.int (g i j)):=by
 intro pins s σ H x y v u Q I rx ry h;obtain ⟨i,j,rfl,rfl,q⟩:=h;obtain ⟨t,rfl⟩:=rx;obtain ⟨t',rfl⟩:=ry;exact rule i j t t' s _ _ ⟨.int (g i j),H,I.tok _,⟨_,rfl⟩,q⟩
theorem EX {f:ag->ag->Sem ag} {g:Int->Int->Bool}
  (rule:∀ (i j:Int) (t u:Tok) (s:ah) (Q:ag->ah->Prop) (E:ag->ah->Prop),Q (.bool (g i j)) s->aY (aM X.prog X.w) X.A (f (.int i t) (.int j u)) Q E s) :
  OpR X f (rI0 fun i j=>.bl (g i j)):=by
 intro pins s σ H x y v u Q I rx ry h;obtain ⟨i,j,rfl,rfl,q⟩:=h;obtain ⟨t,rfl⟩:=rx;obtain ⟨t',rfl⟩:=ry;exact rule i j t t' s _ _ ⟨.bl (g i j),H,I,rfl,q⟩
def EY (i j:Int):Prop:=0<=j/\j<=1000000/\i.natAbs < 2 ^ 64
def Ih (i j:Int):Prop:=(-(2 ^ 64) < i/\i < 2 ^ 64)\/(-(2 ^ 64) < j/\j < 2 ^ 64)
theorem Ih.ok {i j:Int} (h:Ih i j):IntMulOk i j:=by
 rcases h with ⟨h1,h2⟩ | ⟨h1,h2⟩
 ·exact .of_left (intBits_le_64 h1 h2)
 ·exact .of_right (intBits_le_64 h1 h2)
theorem gx:OpR X (jE .Add) (rI0 fun i j=>.int (i + j)):=opI0 fun _ _ _ _ _ _ _ q=>add_int q
theorem qa:OpR X (jE .Sub) (rI0 fun i j=>.int (i - j)):=opI0 fun _ _ _ _ _ _ _ q=>sub_int q
theorem q9:OpR X (jE .Mult) (rI Ih fun i j=>.int (i * j)):=opI fun _ _ _ _ _ _ _ hc q=>mul_int q hc.ok
theorem qb:OpR X (jE .Mod) (rI (fun _ j=>0 < j) fun i j=>.int (i % j)):=opI fun i j _ _ _ _ _ hc q=>by
 have h1:(0:Int) < j:=hc;exact mod_int' (by omega) (by rw [Int.fmod_eq_emod_of_nonneg i (by omega)]; exact q)
theorem qc:OpR X (jE .Pow) (rI EY fun i j=>.int (i ^ j.toNat)):=opI fun _ _ _ _ _ _ _ hc q=>pow_int_small hc.1 hc.2.1 hc.2.2 q
theorem unI {f:ag->Sem ag} {g:Int->Int}
  (rule:∀ (i:Int) (t:Tok) (s:ah) (Q:ag->ah->Prop) (E:ag->ah->Prop),Q (.int (g i) s.toks) {s with toks:=s.toks + 1}->aY (aM X.prog X.w) X.A (f (.int i t)) Q E s) :
  UnR X f (rU fun i=>.int (g i)):=by
 intro pins s σ H x v Q I rx h;obtain ⟨i,rfl,q⟩:=h;obtain ⟨t,rfl⟩:=rx;exact rule i t s _ _ ⟨.int (g i),H,I.tok _,⟨_,rfl⟩,q⟩
theorem w9:UnR X (unaryOp .USub) (rU fun i=>.int (-i)):=unI fun _ _ _ _ _ q=>neg_int q
end
def Ii:V->V->Bool
 | .non,.non=>true | .non,.int _=>true | .int _,.non=>true | .non,.bl _=>true | .bl _,.non=>true | .non,.str _=>true | .str _,.non=>true
 | .int _,.int _=>true | .bl _,.bl _=>true | .str _,.str _=>true | .byt _,.byt _=>true
 | .int _,.str _=>true | .str _,.int _=>true | .bl _,.str _=>true | .str _,.bl _=>true
 | _,_=>false
def rEq:R2:=fun x y H Q=>Ii x y=true/\Q (.bl (decide (x=y))) H
def rNe:R2:=fun x y H Q=>Ii x y=true/\Q (.bl (!decide (x=y))) H
theorem AE {i j:Int}:decide (V.int i=V.int j)=(i == j):=by
 rw [qf];simp
theorem CI {i j:Bool}:decide (V.bl i=V.bl j)=(i == j):=by
 rw [qf];simp
theorem AF {i j:Str}:decide (V.str i=V.str j)=(i == j):=by
 rw [qf];simp
theorem AG {i j:Array UInt8}:decide (V.byt i=V.byt j)=(i.toList == j.toList):=by
 rw [qf]
 cases i
 cases j;simp
section
variable {X:Cx} {a b c:cA} {ta tb tc:TE} {pos:Pos}
theorem ej {pins:List (aj×Obj)} {σ:St} {H:Hp} {s:ah} {Q:VK} {k k':Bool} (I:Inv X pins σ H s) (q:Q (.bl k) H) (e:k=k'):EP X pins σ Q (.bool k') s:=by
 subst e;exact ⟨.bl k,H,I,rfl,q⟩
theorem d8:OpR X (dF .Eq) rEq:=by
 intro pins s σ H x y v u Q I rx ry h;obtain ⟨hs,q⟩:=h
 cases x with
 | non =>
  cases rx
  cases y with
  | non=>cases ry; exact PySem.EqNone.eq_none_none (ej I q (by simp))
  | bl j=>cases ry; exact PySem.EqNone.eq_none_bool (ej I q (by simp))
  | int j=>obtain ⟨t',rfl⟩:=ry; exact PySem.EqNone.eq_none_int (ej I q (by simp))
  | str j=>obtain ⟨t',rfl⟩:=ry; exact PySem.EqNone.eq_none_str (ej I q (by simp))
  | _=>exact absurd (show false=true from hs) bc
 | bl i =>
  cases rx
  cases y with
  | non=>cases ry; exact PySem.EqNone.eq_bool_none (ej I q (by simp))
  | bl j=>cases ry; exact eq_bool (ej I q CI)
  | str j=>obtain ⟨t',rfl⟩:=ry; exact PySem.EqMixed.eq_bool_str (ej I q (by simp))
  | _=>exact absurd (show false=true from hs) bc
 | int i =>
  obtain ⟨t,rfl⟩:=rx
  cases y with
  | non=>cases ry; exact PySem.EqNone.eq_int_none (ej I q (by simp))
  | int j=>obtain ⟨t',rfl⟩:=ry; exact eq_int (ej I q AE)
  | str j=>obtain ⟨t',rfl⟩:=ry; exact PySem.EqMixed.eq_int_str (ej I q (by simp))
  | _=>exact absurd (show false=true from hs) bc
 | str i =>
  obtain ⟨t,rfl⟩:=rx
  cases y with
  | non=>cases ry; exact PySem.EqNone.eq_str_none (ej I q (by simp))
  | bl j=>cases ry; exact PySem.EqMixed.eq_str_bool (ej I q (by simp))
  | int j=>obtain ⟨t',rfl⟩:=ry; exact PySem.EqMixed.eq_str_int (ej I q (by simp))
  | str j=>obtain ⟨t',rfl⟩:=ry; exact eq_str (ej I q AF)
  | _=>exact absurd (show false=true from hs) bc
 | byt i =>
  obtain ⟨t,rfl⟩:=rx
  cases y with
  | byt j=>obtain ⟨t',rfl⟩:=ry; exact PySem.W.eq_bytes (ej I q AG)
  | _=>exact absurd (show false=true from hs) bc
 | _=>cases y <;> exact absurd (show false=true from hs) bc
theorem rP:OpR X (dF .NotEq) rNe:=by
 intro pins s σ H x y v u Q I rx ry h;obtain ⟨hs,q⟩:=h
 cases x with
 | non =>
  cases rx
  cases y with
  | non=>cases ry; exact PySem.EqNone.ne_none_none (ej I q (by simp))
  | bl j=>cases ry; exact PySem.EqNone.ne_none_bool (ej I q (by simp))
  | int j=>obtain ⟨t',rfl⟩:=ry; exact PySem.EqNone.ne_none_int (ej I q (by simp))
  | str j=>obtain ⟨t',rfl⟩:=ry; exact PySem.EqNone.ne_none_str (ej I q (by simp))
  | _=>exact absurd (show false=true from hs) bc
 | bl i =>
  cases rx
  cases y with
  | non=>cases ry; exact PySem.EqNone.ne_bool_none (ej I q (by simp))
  | bl j=>cases ry; exact ne_bool (ej I q (congrArg not CI))
  | str j=>obtain ⟨t',rfl⟩:=ry; exact PySem.EqMixed.ne_bool_str (ej I q (by simp))
  | _=>exact absurd (show false=true from hs) bc
 | int i =>
  obtain ⟨t,rfl⟩:=rx
  cases y with
  | non=>cases ry; exact PySem.EqNone.ne_int_none (ej I q (by simp))
  | int j=>obtain ⟨t',rfl⟩:=ry; exact ne_int (ej I q (congrArg not AE))
  | str j=>obtain ⟨t',rfl⟩:=ry; exact PySem.EqMixed.ne_int_str (ej I q (by simp))
  | _=>exact absurd (show false=true from hs) bc
 | str i =>
  obtain ⟨t,rfl⟩:=rx
  cases y with
  | non=>cases ry; exact PySem.EqNone.ne_str_none (ej I q (by simp))
  | bl j=>cases ry; exact PySem.EqMixed.ne_str_bool (ej I q (by simp))
  | int j=>obtain ⟨t',rfl⟩:=ry; exact PySem.EqMixed.ne_str_int (ej I q (by simp))
  | str j=>obtain ⟨t',rfl⟩:=ry; exact ne_str (ej I q (congrArg not AF))
  | _=>exact absurd (show false=true from hs) bc
 | byt i =>
  obtain ⟨t,rfl⟩:=rx
  cases y with
  | byt j=>obtain ⟨t',rfl⟩:=ry; exact PySem.W.ne_bytes (ej I q (congrArg not AG))
  | _=>exact absurd (show false=true from hs) bc
 | _=>cases y <;> exact absurd (show false=true from hs) bc
theorem pw:OpR X (dF .Lt) (rI0 fun i j=>.bl (decide (i < j))):=EX fun _ _ _ _ _ _ _ q=>lt_int q
theorem AH:OpR X (dF .LtE) (rI0 fun i j=>.bl (decide (i<=j))):=EX fun _ _ _ _ _ _ _ q=>le_int q
theorem tf:OpR X (dF .Gt) (rI0 fun i j=>.bl (decide (j < i))):=EX fun _ _ _ _ _ _ _ q=>gt_int q
theorem Gr:OpR X (dF .GtE) (rI0 fun i j=>.bl (decide (j<=i))):=EX fun _ _ _ _ _ _ _ q=>ge_int q
theorem iR:OpR X (dF .Is) (fun x y H Q=>y=.non/\Q (.bl (decide (x=.non))) H):=by
 intro pins s σ H x y v u Q I rx ry h;obtain ⟨rfl,q⟩:=h
 cases ry;refine is_none_gen (ej I q ?_)
 cases x <;> first
  |(cases rx; rfl)
  |(obtain ⟨t,rfl⟩:=rx; rfl)
theorem AI:OpR X (dF .IsNot) (fun x y H Q=>y=.non/\Q (.bl (!decide (x=.non))) H):=by
 intro pins s σ H x y v u Q I rx ry h;obtain ⟨rfl,q⟩:=h
 cases ry;refine isnot_none_gen (ej I q ?_)
 cases x <;> first
  |(cases rx; rfl)
  |(obtain ⟨t,rfl⟩:=rx; rfl)
theorem bD (b:cA) {op:Co} (h:op≠.In:=by decide) (h2:op≠.NotIn:=by decide):mS op b=false:=by
 have e1:(op == CmpOp.In)=false:=by cases op <;> first | rfl | exact absurd rfl h
 have e2:(op == CmpOp.NotIn)=false:=by cases op <;> first | rfl | exact absurd rfl h2
 cases b <;> simp [mS,e1,e2]
theorem rQ {op:Co} {r:R2} (ho:OpR X (dF op) r) (ha:PE X a ta) (hb:PE X b tb) (hm:mS op b=false):PE X (.Compare a [op] [b] pos) (tOp r ta tb):=by
 intro pins s σ H Q I h;exact wpAny_Compare1 (Ig ha hb I h fun v u s2 x y H2 I2 rx ry q=>ho pins s2 σ H2 x y v u Q I2 rx ry q) hm
def qg (t:TE):TT:=fun σ H Q=>t σ H fun x H'=>BlI x H' Q
theorem aZ {op:Co} {r:R2} (ho:OpR X (dF op) r) (ha:PE X a ta) (hb:PE X b tb) (hm:mS op b=false):PT X (.Compare a [op] [b] pos) (qg (tOp r ta tb)):=by
 intro pins s σ H Q I h;refine EK (thn (ha pins s σ H _ I h) fun v s1 ⟨x,H1,I1,r1,q1⟩=>thn (hb pins s1 σ H1 _ I1 q1) fun u s2 ⟨y,H2,I2,r2,q2⟩ =>
  thn (ho pins s2 σ H2 x y v u _ I2 r1 r2 q2) fun c s3 ⟨z,H3,I3,r3,k,e,q3⟩=>?_) hm
 subst e
 cases r3;exact eM ⟨H3,I3,q3⟩
def CJ (r r':R2) (ta tb tc:TE):TE:=fun σ H Q=>ta σ H fun x H1=>tb σ H1 fun y H2=>r x y H2 fun z H3=>∃ k,z=.bl k /\
 (if k=true then tc σ H3 fun w' H4=>r' y w' H4 Q else Q (.bl false) H3)
theorem yq {op op':Co} {r r':R2} (ho:OpR X (dF op) r) (ho':OpR X (dF op') r') (ha:PE X a ta) (hb:PE X b tb) (hc:PE X c tc)
  (hm:lastMarks [op,op'] [b,c]=false:=by with_unfolding_all rfl):PE X (.Compare a [op,op'] [b,c] pos) (CJ r r' ta tb tc):=by
 intro pins s σ H Q I h;refine Compare_chain (thn (ha pins s σ H _ I h) fun v s1 ⟨x,H1,I1,r1,q1⟩=>chain_link (thn (hb pins s1 σ H1 _ I1 q1) fun u s2 ⟨y,H2,I2,r2,q2⟩ =>
  thn (ho pins s2 σ H2 x y v u _ I2 r1 r2 q2) fun d s3 ⟨z,H3,I3,r3,k,e,q3⟩=>?_)) hm
 subst e
 cases r3;refine eM ?_
 cases k with
 | false=>exact ite_ff ⟨.bl false,H3,I3,rfl,q3⟩
 | true=>exact ite_tt (chain_last (thn (hc pins s3 σ H3 _ I3 q3) fun w' s4 ⟨z',H4,I4,r4,q4⟩=>ho' pins s4 σ H4 y z' u w' Q I4 r2 r4 q4))
theorem CK {op op':Co} {r r':R2} (ho:OpR X (dF op) r) (ho':OpR X (dF op') r') (ha:PE X a ta) (hb:PE X b tb) (hc:PE X c tc)
  (hm:lastMarks [op,op'] [b,c]=false:=by with_unfolding_all rfl):PT X (.Compare a [op,op'] [b,c] pos) (qg (CJ r r' ta tb tc)):=by
 intro pins s σ H Q I h;refine isTrue_chain (thn (ha pins s σ H _ I h) fun v s1 ⟨x,H1,I1,r1,q1⟩=>test_link (thn (hb pins s1 σ H1 _ I1 q1) fun u s2 ⟨y,H2,I2,r2,q2⟩ =>
  thn (ho pins s2 σ H2 x y v u _ I2 r1 r2 q2) fun d s3 ⟨z,H3,I3,r3,k,e,q3⟩=>?_)) hm
 subst e
 cases r3;refine eM ?_
 cases k with
 | false =>
  obtain ⟨k',e',q'⟩:=q3
  cases e';exact ite_ff ⟨H3,I3,q'⟩
 | true =>
  refine ite_tt (test_last (thn (hc pins s3 σ H3 _ I3 q3) fun w' s4 ⟨z',H4,I4,r4,q4⟩=>thn (ho' pins s4 σ H4 y z' u w' _ I4 r2 r4 q4) fun d' s5 ⟨z2,H5,I5,r5,k2,e2,q5⟩=>?_));subst e2
  cases r5;exact eM ⟨H5,I5,q5⟩
def Ij (K:ai) (x:V) (H:Hp) (k:Bool):Prop:=
 match x with
 | .non=>k=false
 | .bl b=>k=b
 | .int i=>k=(i != 0)
 | .str y=>y.length<=ax/\k=((y.length:Int) != 0)
 | .byt y=>y.size<=ax/\k=((y.size:Int) != 0)
 | .ref p=>(∃ xs,SqL K H p xs/\k=!xs.isEmpty)\/(∃ xs,SqT K H p xs/\k=!xs.isEmpty)\/∃ kvs,H p=some (.dK kvs)/\k=!kvs.isEmpty
 | _=>False
theorem zG {κ:Type} {kvs:List (κ×V)} {vs:List (κ×ag)} (r:KV kvs vs):(!vs.isEmpty)=!kvs.isEmpty:=by
 cases r <;> rfl
theorem uy {xs:List V} {its:List ag} (r:dq xs its):(!its.toArray.isEmpty)=!xs.isEmpty:=by
 cases r <;> simp
theorem ra:(ax:Nat) < 2 ^ 63:=by rw [pO]; decide
theorem Ik:TruR X (fun x H Q=>∃ k,Ij X.K x H k/\Q k H):=by
 intro pins s σ H x v Q I rx h;obtain ⟨k,e,q⟩:=h;have hl:=ra;have hs:ax=16777216:=pO
 cases x with
 | non =>
  cases rx;have e':k=false:=e;subst e';exact truthy_none ⟨H,I,q⟩
 | bl b =>
  cases rx;have e':k=b:=e;subst e';exact eM ⟨H,I,q⟩
 | int i =>
  obtain ⟨t,rfl⟩:=rx;have e':k=(i != 0):=e;subst e';exact PySem.P.truthy_int ⟨H,I,q⟩
 | str y =>
  obtain ⟨t,rfl⟩:=rx;obtain ⟨hy,e'⟩:y.length<=ax/\k=((y.length:Int) != 0):=e;subst e';exact PySem.P.truthy_str (by omega) ⟨H,I.tok _,q⟩
 | byt y =>
  obtain ⟨t,rfl⟩:=rx;obtain ⟨hy,e'⟩:y.size<=ax/\k=((y.size:Int) != 0):=e;subst e';exact PySem.W.truthy_bytes (by omega) ⟨H,I.tok _,q⟩
 | ref p =>
  cases rx;have e':(∃ xs,SqL X.K H p xs/\k=!xs.isEmpty)\/(∃ xs,SqT X.K H p xs/\k=!xs.isEmpty)\/∃ kvs,H p=some (.dK kvs)/\k=!kvs.isEmpty:=e
  rcases e' with ⟨xs,hx,e'⟩ | ⟨xs,hx,e'⟩ | ⟨kvs,hx,e'⟩
  ·subst e';obtain ⟨its,r,pl,hz⟩:=I.list hx;have hlen:=r.length;exact wpAny_truthy_list pl.isList (by simp only [aA]; omega) ⟨H,I.tok _,by rw [uy r]; exact q⟩
  ·subst e';obtain ⟨its,r,pl,hz⟩:=I.tuple hx;have hlen:=r.length;exact truthy_tuple pl (by simp only [aA]; omega) ⟨H,I.tok _,by rw [uy r]; exact q⟩
  ·subst e';obtain ⟨hz,hS,vs,r,m⟩:kvs.length<=ax/\(p == fw)=false/\∃ vs,KV kvs vs/\s.heap.DictOf (gL X.prog X.w) p vs:=I.hok p _ hx;have hlen:kvs.length=vs.length:=kG r;exact wpAny_truthy_dict hS m (by omega) ⟨H,I.tok _,by rw [zG r]; exact q⟩
 | _=>exact (show False from e).elim
theorem uz (ha:PE X a ta) (he:∀ whole,wY a X.env whole=(do let v <- whole; sZ a.pos; pK [v] (truthy v))) :
  PT X a (fun σ H Q=>ta σ H fun x H'=>∃ k,Ij X.K x H' k/\Q k H'):=by
 intro pins s σ H Q I h;exact isTrue_plain (thn (ha pins s σ H _ I h) fun v s1 ⟨x,H1,I1,r1,q1⟩=>Ik pins s1 σ H1 x v Q I1 r1 q1) (he _)
theorem cD:OpR X (jE .Add) (fun x y H Q=>∃ i j,x=.str i/\y=.str j/\i.length + j.length<=ax/\Q (.str (i++j)) H):=by
 intro pins s σ H x y v u Q I rx ry h;obtain ⟨i,j,rfl,rfl,hz,q⟩:=h;obtain ⟨t,rfl⟩:=rx;obtain ⟨t',rfl⟩:=ry;exact add_str (fun t' tk=>⟨.str (i++j),H,I.tok _,⟨_,rfl⟩,q⟩) hz
theorem vals1 {x:V} {us:List ag} (r:dq [x] us):∃ u,us=[u]/\RelV x u:=by
 cases r with
 | cons r1 r2=>cases r2; exact ⟨_,rfl,r1⟩
theorem vals2 {x y:V} {us:List ag} (r:dq [x,y] us):∃ u w',us=[u,w']/\RelV x u/\RelV y w':=by
 cases r with
 | cons r1 r2 =>
  cases r2 with
  | cons r3 r4=>cases r4; exact ⟨_,_,rfl,r1,r3⟩
theorem yr:l8 X (.builtin "abs") (fun xs H Q=>∃ i,xs=[.int i]/\Q (.int (if i < 0 then -i else i)) H):=by
 intro pins s σ H xs us Q I r h;obtain ⟨i,rfl,q⟩:=h;obtain ⟨u,rfl,t,rfl⟩:=vals1 r;exact call_abs_int fun u tk=>⟨.int (if i < 0 then -i else i),H,I.tok _,⟨_,rfl⟩,q⟩
theorem vT:l8 X (.type "int") (fun xs H Q=>(∃ i,xs=[.int i]/\Q (.int i) H)\/∃ k,xs=[.bl k]/\Q (.int (if k then 1 else 0)) H):=by
 intro pins s σ H xs us Q I r h
 rcases h with ⟨i,rfl,q⟩ | ⟨k,rfl,q⟩
 ·obtain ⟨u,rfl,t,rfl⟩:=vals1 r;exact call_int_int ⟨.int i,H,I,⟨_,rfl⟩,q⟩
 ·obtain ⟨u,rfl,r1⟩:=vals1 r
  cases r1;exact call_int_bool ⟨.int (if k then 1 else 0),H,I.tok _,⟨_,rfl⟩,q⟩
theorem eW:l8 X (.type "str") (fun xs H Q=>∃ i,xs=[.int i]/\i.natAbs.log2 < 1920/\Q (.str (toString i)) H):=by
 intro pins s σ H xs us Q I r h;obtain ⟨i,rfl,hz,q⟩:=h;obtain ⟨u,rfl,t,rfl⟩:=vals1 r;exact PySem.P.str_of_int hz ⟨.str _,H,I.tok _,⟨_,rfl⟩,q⟩
end
structure zH (h:cI) (x dx C:aj) (mA:Str->Option ag):Prop where
 obj:h.get? x=some (gH C dx)
 ns:h.Ns1 dx mA
 ne:dx≠x
theorem vU {h:cI} {dx:aj} {mA:Str->Option ag} (n:h.Ns1 dx mA):∃ od,h.get? dx=some od/\∀ name,jU name od=some (mA name):=by
 obtain ⟨o,es,ep,ho,hd,hk,_,hm⟩:=n;refine ⟨o,ho,fun name=>?_⟩;have e:=hm name;unfold nsFind findBy at e;rw [<- Array.find?_toList] at e;unfold jU;rw [hd];dsimp only
 split
 ·rename_i y q
  rw [q] at e;exact congrArg some e
 ·rename_i q
  rw [q] at e;have a:es.toList.any (·.refKey)=false:=by
   rw [List.any_eq_false];intro y hy;obtain ⟨z,t,hkey⟩:=hk y (Array.mem_toList_iff.mp hy);simp [DictEntry.refKey,hkey]
  have a':¬ es.toList.any (·.refKey)=true:=by rw [a]; exact bc
  rw [if_neg a'];exact congrArg some e
theorem zH.look {h:cI} {x dx C:aj} {mA:Str->Option ag} (I:zH h x dx C mA):∃ od,eF h x (gH C dx) C (some od)/\∀ name,jU name od=some (mA name):=
 let ⟨od,ho,hl⟩:=vU I.ns
 ⟨od,⟨I.obj,rfl,rfl,ho⟩,hl⟩
section
variable {prog:aS} {w:bN} {A:bJ} {E:ag->ah->Prop} {s:ah} {K:ai} {x dx C f:aj} {mA:Str->Option ag} {name:Str} {v:ag}
theorem EZ {expr:Bool} {Q:ag->ah->Prop} (X:K.In s.heap) (I:zH s.heap x dx C mA) (hg:oE K C name=true) (hh:jV K C=true)
  (ha:bV K (.ref C) name=some none) (hv:mA name=some v) (hv':sL v=true) (h:Q v {s with toks:=s.toks + 1}) :
  aY (aM prog w) A (CL (.ref x) name expr) Q E s:=by
 obtain ⟨od,J,hl⟩:=I.look;exact PySem.W.get_value X J (qM hg).1 (zv hh ha rfl (by rw [hl,hv])) hv' h
theorem CM {pl:Sem Bool} {Q:ag×List ag->ah->Prop} (X:K.In s.heap) (I:zH s.heap x dx C mA) (hg:oE K C name=true)
  (hf:bV K (.ref C) name=some (some (.ref f))) (ht:jW K (.ref f)=true) (hv:mA name=none) (h:Q (.ref f,[.ref x]) s) :
  aY (aM prog w) A (xa (.ref x) name pl) Q E s:=by
 obtain ⟨od,J,hl⟩:=I.look;exact PySem.W.method_fn X J (qM hg).1 (qM hg).2 hf (beq_iff_eq.mp ht) (by show (jU name od).map (·.isSome)=some false; rw [hl,hv]; rfl) h
theorem E1 {ns:List Str} {Q:Unit->ah->Prop} (X:K.In s.heap) (I:zH s.heap x dx C mA)
  (hs:bV K (.ref C) "__setattr__"=some (some (.builtin "object.__setattr__"))) (hp:AJ K C=true) (ht:tO K C name=some none) (hh:jV K C=true)
  (hw:yk mA ns) (hsz:ns.length<=ax)
  (h:∀ h',zH h' x dx C (fun y=>if y=name then some v else mA y)->mQ dx s.heap h'->Q () {s with heap:=h',toks:=s.toks + 2}) :
  aY (aM prog w) A (setAttr (.ref x) name v) Q E s:=by
 obtain ⟨od,J,hl⟩:=I.look;refine AK X J hs (PySem.W.osa_open (s:={s with toks:=s.toks + 1}) (r:=none) X J hp ht fun b=>?_);obtain ⟨cd,hc,hd'⟩:=sM hh;have hx:s.heap.get? x=some ⟨.ref C,some dx,.plain,#[]⟩:=I.obj;refine af (av (af (af (sN hx (af (kI (s:={s with toks:=s.toks + 1}) (qN X hc) ?_))))));rw [hd'];refine av (a:=some dx) (af (av (af ?_)));refine wpAny_nsSet1 (s:={s with toks:=s.toks + 1}) I.ns fun h' hn2 hs2=>?_;obtain ⟨oD,esD,epD,hoD,hdD,hcD⟩:=hn2.count (PySem.Within.cons name v hw);refine af (wpAny_lookBehind hoD (by rw [hdD]; exact pastItsLine_dict (bC hcD (by rw [aE]; omega))) ?_);exact av (h _ ⟨(hs2.2 _ (eU I.ne)).trans I.obj,hn2,I.ne⟩ hs2)
theorem CO {R:ma->ah->Prop} {vs:List ag} {kw:List (Str×ag)} (X:K.In s.heap) (hm:tP K C=true)
  (hi:bV K (.ref C) "__init__"=some (some (.ref f))) (hf:PySem.W.typeIn K (.ref f)=some (.type "function"))
  (h:pQ (aM prog w) (A.under (.builtin "type.__call__" ⟨.ref C :: vs,kw⟩)) (.call (.ref f) ⟨.ref (s.heap.objs.size + 1) :: vs,kw⟩) (PySem.W.InitBack (s.heap.objs.size + 1) R)
   {s with heap:=(s.heap.push eX).push (gH C s.heap.objs.size)}) :
  pQ (aM prog w) A (.call (.ref C) ⟨vs,kw⟩) R s:=by
 obtain ⟨hh,g,d,t,os⟩:=s;exact PySem.W.make_core (PySem.W.makes_of X hm) (eQ X hi) (fun self=>PySem.W.bind_fn X self hf) (.inl rfl) h
end
def lH (f:Str) (v:V):List (Str×V)->List (Str×V)
 | []=>[(f,v)]
 |(g,x) :: r=>if g=f then (g,v) :: r else (g,x) :: lH f v r
theorem tm (f g:Str) (v:V):∀ fs:List (Str×V),(lH f v fs).lookup g=if g=f then some v else fs.lookup g
 | []=>by
  show dS g [(f,v)]=_
  by_cases h:g=f
  ·have hb:(g == f)=true:=beq_iff_eq.mpr h;simp only [dS,hb,if_pos h]
  ·have hb:(g == f)=false:=beq_eq_false_iff_ne.mpr h;simp only [dS,hb,if_neg h]
 |(k,x) :: r=>by
  have ih:=tm f g v r;rw [show lH f v ((k,x) :: r)=(if k=f then (k,v) :: r else (k,x) :: lH f v r) from rfl]
  by_cases hk:k=f
  ·rw [if_pos hk]
   by_cases h:g=k
   ·have hb:(g == k)=true:=beq_iff_eq.mpr h;simp only [dS,hb,if_pos (h.trans hk)]
   ·have hb:(g == k)=false:=beq_eq_false_iff_ne.mpr h;simp only [dS,hb,if_neg (fun e:g=f=>h (e.trans hk.symm))]
  ·rw [if_neg hk]
   by_cases h:g=k
   ·have hb:(g == k)=true:=beq_iff_eq.mpr h;simp only [dS,hb,if_neg (fun e:g=f=>hk (h.symm.trans e))]
   ·have hb:(g == k)=false:=beq_eq_false_iff_ne.mpr h;simp only [dS,hb];exact ih
theorem sO (f:Str) (v:V):∀ fs:List (Str×V),f∈(lH f v fs).map (·.1)/\∀ g,g∈fs.map (·.1)->g∈(lH f v fs).map (·.1)
 | []=>⟨by simp [lH],fun g h=>by simp at h⟩
 |(k,x) :: r=>by
  obtain ⟨i1,i2⟩:=sO f v r;rw [show lH f v ((k,x) :: r)=(if k=f then (k,v) :: r else (k,x) :: lH f v r) from rfl]
  by_cases hk:k=f
  ·rw [if_pos hk];subst hk;exact ⟨by simp,fun g h=>by simpa using h⟩
  ·rw [if_neg hk];refine ⟨?_,fun g h=>?_⟩
   ·rw [bu];exact ar _ i1
   ·rw [bu] at h |-
    rcases au.mp h with e | e
    ·exact au.mpr (.inl e)
    ·exact ar _ (i2 g e)
theorem tu (f:Str) (v:V):∀ fs:List (Str×V),(lH f v fs).length<=fs.length + 1
 | []=>by simp [lH]
 |(k,x) :: r=>by
  have ih:=tu f v r;rw [show lH f v ((k,x) :: r)=(if k=f then (k,v) :: r else (k,x) :: lH f v r) from rfl]
  by_cases hk:k=f
  ·rw [if_pos hk,aE,aE]; omega
  ·rw [if_neg hk,aE,aE]; omega
theorem rK.some_of {v:V} {o:Option ag} (r:rK (some v) o):∃ u,o=some u/\RelV v u:=by
 cases o with
 | none=>exact (show False from r).elim
 | some u=>exact ⟨u,rfl,r⟩
theorem rK.none_of {o:Option ag} (r:rK none o):o=none:=by
 cases o with
 | none=>rfl
 | some u=>exact (show False from r).elim
theorem vV {v:V} {u:ag} (r:RelV v u):sL u=true:=by
 cases v with
 | non=>cases (show u=Value.none from r); rfl
 | bl b=>cases (show u=Value.bool b from r); rfl
 | int i=>obtain ⟨t,e⟩:=(show ∃ t,u=Value.int i t from r); cases e; rfl
 | str x=>obtain ⟨t,e⟩:=(show ∃ t,u=Value.str x t from r); cases e; rfl
 | byt b=>obtain ⟨t,e⟩:=(show ∃ t,u=Value.bytes b t from r); cases e; rfl
 | flt b=>obtain ⟨t,e⟩:=(show ∃ t,u=Value.float b t from r); cases e; rfl
 | ref a=>cases (show u=Value.ref a from r); rfl
 | ty n=>cases (show u=Value.type n from r); rfl
section
variable {P:aS} {w:bN} {H H':Hp} {h h':cI} {a C dx:aj} {fs fs':List (Str×V)}
theorem xb (hok:HOk P w H h) (e:H a=some (.ins C dx fs)):∃ mA,zH h a dx C mA/\(∀ f,rK (fs.lookup f) (mA f))/\yk mA (fs.map (·.1))/\fs.length<=1000/\H dx=some (.own a):=by
 obtain ⟨d,z,ne,ob,mA,n,r,q⟩:=(show gj P w H h a (.ins C dx fs) from hok a _ e);exact ⟨mA,⟨ob,n,ne⟩,r,q,z,d⟩
end
structure Cls (K:ai) (C:aj):Prop where
 pg:oE K C uA=true
 hd:jV K C=true
 po:AJ K C=true
 sa:bV K (.ref C) "__setattr__"=some (some (.builtin "object.__setattr__"))
theorem Cls.get {K:ai} {C:aj} (c:Cls K C) (f:Str):oE K C f=true:=c.pg
def nX (K:ai) (C:aj) (f:Str):Prop:=bV K (.ref C) f=some none
theorem nX.taker {K:ai} {C:aj} {f:Str} (n:nX K C f):tO K C f=some none:=by
 unfold tO;rw [show bV K (.ref C) f=some none from n];rfl
structure BC (K:ai) (C:aj) (m:Str) (f:aj):Prop where
 at_:bV K (.ref C) m=some (some (.ref f))
 fn:jW K (.ref f)=true
 kp:dZ K (.ref f)=true
section
variable {X:Cx} {pins:List (aj×Obj)} {σ:St} {H:Hp} {s:ah} {a C dx:aj} {fs:List (Str×V)} {f:Str} {v:V} {A:bJ} {E:ag->ah->Prop}
theorem uB {b:Bool} {Q:ag->ah->Prop} (I:Inv X pins σ H s) (e:H a=some (.ins C dx fs)) (c:Cls X.K C) (n:nX X.K C f) (l:fs.lookup f=some v)
  (h:∀ u s',Inv X pins σ H s'->RelV v u->Q u s'):aY (aM X.prog X.w) A (CL (.ref a) f b) Q E s:=by
 obtain ⟨mA,O,r,_,_,_⟩:=xb I.hok e;obtain ⟨u,hu,ru⟩:=rK.some_of (v:=v) (o:=mA f) (by rw [<- l]; exact r f);exact EZ I.kIn O (c.get f) c.hd n hu (vV ru) (h u _ (I.tok _) ru)
theorem rb {m:Str} {g:aj} {pl:Sem Bool} {Q:ag×List ag->ah->Prop} (I:Inv X pins σ H s) (e:H a=some (.ins C dx fs)) (c:Cls X.K C) (k:BC X.K C m g) (l:fs.lookup m=none)
  (h:Q (.ref g,[.ref a]) s):aY (aM X.prog X.w) A (xa (.ref a) m pl) Q E s:=by
 obtain ⟨mA,O,r,_,_,_⟩:=xb I.hok e;have hn:mA m=none:=rK.none_of (by rw [<- l]; exact r m);exact CM I.kIn O (c.get m) k.at_ k.fn hn h
theorem uC {y:V} {u:ag} {Q:Unit->ah->Prop} (I:Inv X pins σ H s) (e:H a=some (.ins C dx fs)) (c:Cls X.K C) (n:nX X.K C f) (hl:fs.length < 1000) (ry:RelV y u)
  (h:∀ s',Inv X pins σ (upd H a (.ins C dx (lH f y fs))) s'->Q () s'):aY (aM X.prog X.w) A (setAttr (.ref a) f u) Q E s:=by
 obtain ⟨mA,O,r,wi,_,ho⟩:=xb I.hok e;have hz:(fs.map (·.1)).length<=ax:=by rw [aa,pO]; omega
 refine E1 I.kIn O c.sa c.po n.taker c.hd wi hz fun h' O' sb=>h _ ?_;have hd:∃ o,h'.get? dx=some o:=let ⟨o,_,_,e',_⟩:=O'.ns; ⟨o,e'⟩;refine I.write (x:=a) (e:=dx) (by rw [e]; exact True.intro) (.inr ho) (fun b q hb z=>(sb.2 b hb).trans z) hd ?_;refine ⟨by rw [aX O.ne]; exact ho,?_,O.ne,O'.obj,_,O'.ns,fun g=>?_,fun g hg=>?_⟩
 ·have:=tu f y fs; omega
 ·show rK ((lH f y fs).lookup g) (if g=f then some u else mA g);rw [tm]
  by_cases q:g=f
  ·rw [if_pos q,if_pos q]; exact ry
  ·rw [if_neg q,if_neg q]; exact r g
 ·by_cases q:g=f
  ·rw [q]; exact (sO f y fs).1
  ·refine (sO f y fs).2 g (wi g fun z=>hg ?_);show (if g=f then some u else mA g)=none;rw [if_neg q]; exact z
theorem Inv.made (I:Inv X pins σ H s):Inv X pins σ (upd (upd H s.heap.objs.size (.own (s.heap.objs.size + 1))) (s.heap.objs.size + 1) (.ins C s.heap.objs.size []))
  {s with heap:=(s.heap.push eX).push (gH C s.heap.objs.size)}:=by
 have e1:(s.heap.push eX).get? s.heap.objs.size=some eX:=bH s.heap rfl;have e2:((s.heap.push eX).push (gH C s.heap.objs.size)).get? (s.heap.objs.size + 1)=some (gH C s.heap.objs.size):=by
  have:=bH (s.heap.push eX) (o:=gH C s.heap.objs.size) rfl
  rwa [jk] at this
 have e3:(s.heap.push eX).Ns s.heap.objs.size (fun _=>none):=⟨eX,#[],_,e1,rfl,(fun e he=>absurd he (by simp)),fun _=>rfl⟩;have I1:=I.laid (a:=s.heap.objs.size) (o:=.own (s.heap.objs.size + 1)) (h':=s.heap.push eX) (t':=s.toks) (fun b u q=>ay _ q) (aF _) ⟨_,e1⟩;refine I1.laid (a:=s.heap.objs.size + 1) (o:=.ins C s.heap.objs.size []) (t':=s.toks) (fun b u q=>ay _ q) (zI (jk _ _)) ?_;have ne:s.heap.objs.size≠s.heap.objs.size + 1:=br (ju _);refine ⟨by rw [aX ne,ao],aR _,ne,e2,fun _=>none,(zJ e3).at fun o q=>ay _ q,fun _=>True.intro,fun y hy=>absurd rfl hy⟩
theorem AL {prog:aS} {w:bN} {env:Env} {e:cA} {f:Str} {pos:Pos} {s:ah} {Q:ag->ah->Prop} (hb:jm e f env (d6 e env)=d6 e env)
  (h:aY (aM prog w) A (d6 e env) (fun o s₁=>aY (aM prog w) A (CL o f true) Q E s₁) E s):aY (aM prog w) A (d6 (.Attribute e f pos) env) Q E s:=
 Attribute_any_ h (by rw [arm_eval_Attribute,hb])
end
inductive FldI (K:ai) (f:Str) (x:V) (H:Hp) (Q:VK):Prop where
 | mk (a C dx:aj) (fs:List (Str×V)) (v:V) (hx:x=.ref a) (h:H a=some (.ins C dx fs)) (c:Cls K C) (n:nX K C f) (e:fs.lookup f=some v) (q:Q v H):FldI K f x H Q
def E2 (K:ai) (ta:TE) (f:Str):TE:=fun σ H Q=>ta σ H fun x H1=>FldI K f x H1 Q
def sFld (K:ai) (ta tv:TE) (f:Str):TS:=fun D σ H=>tv σ H fun y H1=>ta σ H1 fun x H2=>∃ a C dx fs,x=.ref a/\H2 a=some (.ins C dx fs)/\Cls K C/\nX K C f/\fs.length < 1000 /\
 D.nx σ (upd H2 a (.ins C dx (lH f y fs)))
def InOp (X:Cx) (op:zF) (rd:V->V->Hp->VK->Prop):Prop:=
 ∀ (pins:List (aj×Obj)) (s:ah) (σ:St) (H:Hp) (x y:V) (u v:ag) (Q:VK),Inv X pins σ H s->RelV x u->RelV y v->rd x y H Q->aY (aM X.prog X.w) X.A (inplaceOp op u v) (EP X pins σ Q) X.xe s
def E3 (K:ai) (ta tv:TE) (rd:V->V->Hp->VK->Prop) (f:Str):TS:=fun D σ H=>ta σ H fun x H1=>∃ a C dx fs v,x=.ref a/\H1 a=some (.ins C dx fs)/\Cls K C/\nX K C f/\fs.lookup f=some v /\
 tv σ H1 fun y H2=>rd v y H2 fun z H3=>∃ dx' fs',H3 a=some (.ins C dx' fs')/\fs'.length < 1000/\D.nx σ (upd H3 a (.ins C dx' (lH f z fs')))
section
variable {X:Cx} {o e value:cA} {f:Str} {pos pos' tpos:Pos} {ta tv:TE}
theorem Il (he:PE X e ta) (hb:jm e f X.env (d6 e X.env)=d6 e X.env):PE X (.Attribute e f pos) (E2 X.K ta f):=by
 intro pins s σ H Q I h;refine AL hb (thn (he pins s σ H _ I h) fun u s1 ⟨x,H1,I1,rx,a,C,dx,fs,v,ex,ea,c,n,l,q⟩=>?_);subst ex;obtain rfl:u=Value.ref a:=rx;exact uB I1 ea c n l fun u' s2 I2 ru=>⟨v,H1,I2,ru,q⟩
theorem xc (ha:PE X o ta) (hv:PE X value tv) (hs:lZ value (some (.Attribute o f pos')) pos.line X.env=pure false):PS X (.Assign [.Attribute o f pos'] value pos) (sFld X.K ta tv f):=by
 intro pins s σ H D I h;refine vW (thn (hv pins s σ H _ I h) fun u s1 ⟨y,H1,I1,ry,q⟩=>thn (ha pins s1 σ H1 _ I1 q) fun ov s2 ⟨x,H2,I2,rx,a,C,dx,fs,ex,ea,c,n,l,q2⟩=>?_) hs;subst ex;obtain rfl:ov=Value.ref a:=rx;exact uC I2 ea c n l ry fun s3 I3=>⟨σ,_,I3,q2⟩
theorem vX {op:zF} {rd:V->V->Hp->VK->Prop} (ha:PE X o ta) (hv:PE X value tv) (hop:InOp X op rd):PS X (.AugAssign (.Attribute o f tpos) op value pos) (E3 X.K ta tv rd f):=by
 intro pins s σ H D I h;refine wpAny_AugAssign_AttributeAny (thn (ha pins s σ H _ I h) fun ov s1 ⟨x,H1,I1,rx,a,C,dx,fs,v,ex,ea,c,n,l,q⟩=>?_);subst ex;obtain rfl:ov=Value.ref a:=rx;refine uB I1 ea c n l fun u s2 I2 ru=>thn (hv pins s2 σ H1 _ I2 q) fun w3 s3 ⟨y,H2,I3,ry,q3⟩=>thn (hop pins s3 σ H2 v y u w3 _ I3 ru ry q3) fun w4 s4 ⟨z,H3,I4,rz,dx',fs',ea',l',q4⟩=>?_;exact uC I4 ea' c n l' rz fun s5 I5=>⟨σ,_,I5,q4⟩
def rAdd:V->V->Hp->VK->Prop:=fun x y H Q=>∃ i j,x=.int i/\y=.int j/\Q (.int (i + j)) H
theorem CP:InOp X .Add rAdd:=by
 rintro pins s σ H x y u v Q I rx ry ⟨i,j,rfl,rfl,q⟩;obtain ⟨t,rfl⟩:=(show ∃ t,u=Value.int i t from rx);obtain ⟨t',rfl⟩:=(show ∃ t',v=Value.int j t' from ry);exact PyProof.Rows.iadd_int ⟨.int (i + j),H,I.tok _,⟨_,rfl⟩,q⟩
theorem methcall_of {pl:Sem Bool} {m:Str} {apos:Pos} {args:List cA} {pins:List (aj×Obj)} {s:ah} {σ:St} {H:Hp} {Q:ag->ah->Prop} {te:TE} (he:PE X e te) (I:Inv X pins σ H s)
  (h:te σ H fun x H1=>∃ a C dx fs g,x=.ref a/\H1 a=some (.ins C dx fs)/\Cls X.K C/\BC X.K C m g/\fs.lookup m=none /\
   ∀ s1,Inv X pins σ H1 s1->aY (aM X.prog X.w) X.A (kg pos (.ref g) [.ref a] (fg pos (bM args X.env)) (qO pos (kC [] X.env))) Q X.xe s1)
  (ht:d6 (.Call (.Attribute e m apos) args [] pos) X.env=(do
   let ov <- d6 e X.env
   sZ apos.atName
   let (f,first) <- pK [ov] (xa ov m pl)
   kg pos f first (fg pos (bM args X.env)) (qO pos (kC [] X.env)))) :
  aY (aM X.prog X.w) X.A (d6 (.Call (.Attribute e m apos) args [] pos) X.env) Q X.xe s:=by
 refine pI (pl:=pl) (thn (he pins s σ H _ I h) fun u s1 ⟨x,H1,I1,rx,a,C,dx,fs,g,ex,ea,c,k,l,q⟩=>?_) ht;subst ex;obtain rfl:u=Value.ref a:=rx;exact rb I1 ea c k l (q s1 I1)
end
section
variable {X:Cx} {pins:List (aj×Obj)} {σ:St} {H:Hp} {s:ah} {A:bJ} {E:ag->ah->Prop} {Q:ag->ah->Prop} {c:ag} {b:Bool}
inductive uD (K:ai) (H:Hp):V->ag->Prop where
 | non:uD K H .non (.type "NoneType")
 | bl (x:Bool):uD K H (.bl x) (.type "bool")
 | int (i:Int):uD K H (.int i) (.type "int")
 | str (x:Str):uD K H (.str x) (.type "str")
 | flt (x:UInt64):uD K H (.flt x) (.type "float")
 | lst {a:aj} {xs:List V} (e:H a=some (.lst xs)):uD K H (.ref a) (.type "list")
 | frz {a:aj} {o:Obj} {xs:List V} (e:H a=some (.frz o (.lst xs))):uD K H (.ref a) (.type "list")
 | tup {a:aj} {xs:List V} (e:H a=some (.tup xs)):uD K H (.ref a) (.type "tuple")
 | dK {a:aj} {kvs:List (Key×V)} (e:H a=some (.dK kvs)):uD K H (.ref a) (.type "dict")
 | dT {a:aj} {kvs:List (List Key×V)} (e:H a=some (.dT kvs)):uD K H (.ref a) (.type "dict")
 | ins {a C dx:aj} {fs:List (Str×V)} (e:H a=some (.ins C dx fs)) (cl:Cls K C) (ha:bV K (.ref C) "__class__"=some (some (.builtin "object.__class__")))
   (hn:rR K (.builtin "object.__class__") "__get__"=some (some (.builtin "getset_descriptor.__get__"))) (htk:tQ K (.builtin "object.__class__")=some true)
   (hm:nY K C (.type "object")=some true):uD K H (.ref a) (.ref C)
end
structure dE (k:Nat) (A:bJ):Prop where
 hd:A.handled=none
 dp:A.depth + 3 * k + 5 < zK
 un:A.units + 16 * k + 200 < gp
theorem dE.mono {j k:Nat} {A:bJ} (r:dE k A) (h:j<=k):dE j A:=⟨r.hd,by have:=r.dp; omega,by have:=r.un; omega⟩
theorem dE.deeper {k:Nat} {A:bJ} (r:dE (k + 1) A) (env:Env):dE k (A.deeper env):=
 ⟨r.hd,by have:=r.dp; show A.depth + 1 + 3 * k + 5 < _; omega,by have:=r.un; show A.units + 3 + 16 * k + 200 < _; omega⟩
theorem zL {A:bJ} {C:aj} {us:List ag} {kw:List (Str×ag)}:(A.under (.builtin "type.__call__" ⟨.ref C :: us,kw⟩)).depth=A.depth + 1:=by
 first | rfl | simp [yb,Code.weight,Code.isCreation,Code.isGuard,Code.isCaller,Code.frames,zw,guardIds]
theorem zM {A:bJ} {C:aj} {us:List ag} {kw:List (Str×ag)}:(A.under (.builtin "type.__call__" ⟨.ref C :: us,kw⟩)).units=A.units + 1:=by
 first | rfl | simp [yb,Code.cUnits,Code.frames,zw]
theorem dE.make {k:Nat} {A:bJ} (r:dE (k + 1) A) (C:aj) (us:List ag) (kw:List (Str×ag)):dE k (A.under (.builtin "type.__call__" ⟨.ref C :: us,kw⟩)):=
 ⟨r.hd,by have:=r.dp; rw [zL]; omega,by have:=r.un; rw [zM]; omega⟩
theorem dE.depth {k:Nat} {A:bJ} (r:dE k A):A.depth < zK:=by have:=r.dp; omega
theorem dE.units {k:Nat} {A:bJ} (r:dE k A):A.units + 64 < gp:=by have:=r.un; omega
def rg:TA:=fun _ H Q=>Q [] H
def gX (ta:TE) (tr:TA):TA:=fun σ H Q=>ta σ H fun x H1=>tr σ H1 fun xs H2=>Q (x :: xs) H2
section
variable {X:Cx} {e:cA} {es:List cA} {te:TE} {t:TA} {pos:Pos}
theorem ak:PA X [] rg:=fun _ _ _ _ H Q I h=>oq ⟨[],H,I,.nil,h⟩
theorem eJ (ha:PE X e te) (hr:PA X es t) (hs:bM (e :: es) X.env=(false,d6 e X.env) :: bM es X.env:=by rfl):PA X (e :: es) (gX te t):=by
 intro pos pins s σ H Q I h;rw [hs];show aY _ _ (zu ((false,d6 e X.env) :: fg pos (bM es X.env))) _ _ s;refine mY (thn (ha pins s σ H _ I h) fun u s1 ⟨x,H1,I1,r1,q1⟩=>?_);exact thn (hr pos pins s1 σ H1 _ I1 q1) fun us s2 ⟨xs,H2,I2,r2,q2⟩=>⟨x :: xs,H2,I2,.cons r1 r2,q2⟩
def tTup (t:TA):TE:=fun σ H Q=>t σ H fun xs H1=>xs.length<=ax/\∀ p,H1 p=none->Q (.ref p) (upd H1 p (.tup xs))
def Im (t:TA):TE:=fun σ H Q=>t σ H fun xs H1=>xs.length<=ax/\∀ p,H1 p=none->Q (.ref p) (upd H1 p (.lst xs))
theorem fz {x1} (h:PA X es t):PE X (.Tuple es x1 pos) (tTup t):=by
 intro pins s σ H Q I hq;refine wpAny_Tuple_spliced (thn (h pos pins s σ H _ I hq) fun us s1 ⟨xs,H1,I1,r,z,q⟩=>⟨by rw [<- r.length]; exact z,?_⟩);have hf:H1 s1.heap.objs.size=none:=I1.hok.fresh (aF _);refine ⟨.ref s1.heap.objs.size,upd H1 s1.heap.objs.size (.tup xs),I1.laid (t':=s1.toks) (fun b u e=>ay _ e) (aF _) ?_,rfl,q _ hf⟩;exact ⟨z,us,r,⟨_,bH _ rfl,rfl,_,rfl⟩⟩
theorem cZ (h:PA X es t):PE X (.List es pos) (Im t):=by
 intro pins s σ H Q I hq;refine wpAny_List_spliced (thn (h pos pins s σ H _ I hq) fun us s1 ⟨xs,H1,I1,r,z,q⟩=>⟨by rw [<- r.length]; exact z,?_⟩);have hf:H1 s1.heap.objs.size=none:=I1.hok.fresh (aF _);refine ⟨.ref s1.heap.objs.size,upd H1 s1.heap.objs.size (.lst xs),I1.laid (t':=s1.toks) (fun b u e=>ay _ e) (aF _) ?_,rfl,q _ hf⟩;exact ⟨z,us,0,r,bH _ rfl⟩
end
abbrev Sp:=List V->Hp->VK->XK->Prop
abbrev CXT:=List Env->Hp->ah->XK->ag->ah->Prop
structure yt (P:aS) (w:bN) (K:ai) (mg:Str->Option ag) (base:cI) (A:bJ) (outer:List Env) (s:ah) (H:Hp):Prop where
 frames:A.frames=some outer
 mod:Mod K mg base
 bs:∀ b o,base.get? b=some o->s.heap.get? b=some o/\H b=none
 bsz:base.objs.size<=s.heap.objs.size
 funs:s.heap.FunFrames base outer
 frf:∀ b∈frs outer,H b=none
 hok:HOk P w H s.heap
 bare:q8 s.gens
def CE (outer:List Env) (P:aS) (w:bN) (H:Hp) (s:ah) (Q:VK) (u:ag) (s':ah):Prop:=
 ∃ v H',s'.os=s.os/\q8 s'.gens/\Un (frs outer) [] H H' s.heap s'.heap/\HOk P w H' s'.heap/\RelV v u/\Q v H'
def CR (CX:CXT) (outer:List Env) (P:aS) (w:bN) (H:Hp) (s:ah) (Q:VK) (E:XK) (r:ma) (s':ah):Prop:=
 match r with
 | .ok (.ret u)=>CE outer P w H s Q u s'
 | .ok _=>False
 | .error e=>CX outer H s E e s'
structure cQ (P:aS) (w:bN) (K:ai) (mg:Str->Option ag) (base:cI) (CX:CXT) (k:Nat) (f:aj) (fd:cf) (ps:List Str) (sp:Sp):Prop where
 len:∀ vs H Q E,sp vs H Q E->vs.length=ps.length
 run:∀ (A:bJ) (outer:List Env) (s:ah) (H:Hp) (args:Args) (us:List ag) (vs:List V) (Q:VK) (E:XK),dE k A->yt P w K mg base A outer s H->tD s fd args (ps.zip us)->dq vs us->sp vs H Q E ->
  pQ (aM P w) A (.call (.ref f) args) (CR CX outer P w H s Q E) s
theorem cQ.mono {P:aS} {w:bN} {K:ai} {mg:Str->Option ag} {base:cI} {CX:CXT} {j k:Nat} {f:aj} {fd:cf} {ps:List Str} {sp:Sp} (F:cQ P w K mg base CX j f fd ps sp) (h:j<=k) :
  cQ P w K mg base CX k f fd ps sp:=⟨F.len,fun A outer s H args us vs Q E hr=>F.run A outer s H args us vs Q E (hr.mono h)⟩
theorem yt.make {P:aS} {w:bN} {K:ai} {mg:Str->Option ag} {base:cI} {A:bJ} {outer:List Env} {s:ah} {H:Hp} (e:yt P w K mg base A outer s H) (C:aj) (us:List ag) (kw:List (Str×ag)) :
  yt P w K mg base (A.under (.builtin "type.__call__" ⟨.ref C :: us,kw⟩)) outer s H:=⟨by first | exact e.frames | (simpa [yb,Code.envs,zw,pushEnvs] using e.frames),e.mod,e.bs,e.bsz,e.funs,e.frf,e.hok,e.bare⟩
section
variable {X:Cx} {pins:List (aj×Obj)} {σ:St} {H:Hp} {s s':ah}
theorem Inv.env0 (I:Inv X pins σ H s):yt X.prog X.w X.K X.mg X.base X.A X.stack s H:=
 ⟨I.ok.frames,I.ok.mod,I.bs,bC I.ok.bsz I.sz,I.stack,I.stkFree,I.hok,I.bare⟩
theorem Inv.after {Q:VK} {u:ag} (I:Inv X pins σ H s) (h:CE X.stack X.prog X.w H s Q u s'):EP X pins σ Q u s':=by
 obtain ⟨v,H',os,bare,un,hok,r,q⟩:=h;obtain ⟨hh,g,d,t,os'⟩:=s';obtain rfl:os'=s.os:=os;exact ⟨v,H',I.call (h':=hh) (g':=g) (d':=d) (t':=t) (ch:=[]) un hok bare (fun b z=>absurd z (by simp)),r,q⟩
end
def vY (sp:Sp) (dvs:List V) (E:XK) (t:TA):TE:=fun σ H Q=>t σ H fun vs H1=>sp (vs++dvs) H1 Q E
def CQ (C:aj) (m:Str) (sp:Sp) (dvs:List V) (E:XK) (ta:TE) (t:TA):TE:=fun σ H Q=>ta σ H fun x H1=>∃ a dx fs,x=.ref a/\H1 a=some (.ins C dx fs)/\fs.lookup m=none /\
 t σ H1 fun vs H2=>sp (x :: (vs++dvs)) H2 Q E
def tMake (C:aj) (sp:Sp) (dvs:List V) (E:XK) (t:TA):TE:=fun σ H Q=>t σ H fun vs H1=>∀ x dx,H1 x=none->H1 dx=none->dx≠x ->
 sp (.ref x :: (vs++dvs)) (upd (upd H1 dx (.own x)) x (.ins C dx [])) (fun v H2=>v=.non/\Q (.ref x) H2) E
def Binds (K:ai) (fd:cf) (ps:List Str) (ds:List ag):Prop:=
 ∀ (s:ah) (us:List ag),K.In s.heap->(us++ds).length=ps.length->tD s fd ⟨us,[]⟩ (ps.zip (us++ds))
theorem Binds.all {K:ai} {fd:cf} {ps:List Str} (h:∀ us:List ag,us.length=ps.length->vD fd ⟨us,[]⟩=pure (ps.zip us)):Binds K fd ps []:=fun s us _ hl=>by
 rw [bW] at hl |-;exact .of_eq (h us hl)
def nZ (CX:CXT) (X:Cx) (E:XK):Prop:=∀ (pins:List (aj×Obj)) (σ:St) (H:Hp) (s:ah) (e:ag) (s':ah),Inv X pins σ H s->CX X.stack H s E e s'->X.xe e s'
section
variable {X:Cx} {CX:CXT} {k:Nat} {f C:aj} {fd:cf} {ps:List Str} {sp:Sp} {dvs:List V} {ds:List ag} {E:XK} {x m:Str} {p pos apos:Pos} {e o:cA} {es:List cA} {ta:TE} {t:TA}
theorem zN {pins:List (aj×Obj)} {σ:St} {H:Hp} {s:ah} {Q:VK} {us:List ag} {vs:List V} (F:cQ X.prog X.w X.K X.mg X.base CX k f fd ps sp) (hr:dE k X.A) (hb:Binds X.K fd ps ds) (hd:dq dvs ds) (hx:nZ CX X E)
  (I:Inv X pins σ H s) (r:dq vs us) (h:sp (vs++dvs) H Q E):aY (aM X.prog X.w) X.A (rO (.ref f) us) (EP X pins σ Q) X.xe s:=by
 have r2:dq (vs++dvs) (us++ds):=r.append hd;have hl:(us++ds).length=ps.length:=by rw [<- r2.length]; exact F.len _ _ _ _ h
 refine kq (CS (F.run X.A X.stack s H ⟨us,[]⟩ (us++ds) (vs++dvs) Q E hr I.env0 (hb s us I.kIn hl) r2 h) fun r s' hq=>?_)
 cases r with
 | error e=>exact hx pins σ H s e s' I hq
 | ok fl =>
  cases fl with
  | ret u=>exact I.after hq
  | next=>exact cL hq
  | brk=>exact cL hq
  | cont=>exact cL hq
theorem bq (F:cQ X.prog X.w X.K X.mg X.base CX k f fd ps sp) (hr:dE k X.A) (hg:Gl X x) (hm:X.mg x=some (.ref f)) (hk:dZ X.K (.ref f)=true) (hb:Binds X.K fd ps ds) (hd:dq dvs ds) (hx:nZ CX X E)
  (ha:PA X (e :: es) t) (hdb:(x == ("__debug__":Str))=false:=by decide) (he:bM (e :: es) X.env=(false,d6 e X.env) :: bM es X.env:=by rfl) (hpl:(fg pos (bM es X.env)).any (·.1)=false:=by rfl) :
  PE X (.Call (.Name x p) (e :: es) [] pos) (vY sp dvs E t):=by
 intro pins s σ H Q I h;refine kr (oW I hg hm ?_ hdb);refine mf (h₀:=X.base) I.ok.mod.kin hk (thn (ha pos pins s σ H _ I h) fun us s1 ⟨vs,H1,I1,r,q⟩=>⟨I1.kIn,?_⟩) he hpl;exact zN F hr hb hd hx I1 r q
theorem nA {pl:Sem Bool} (he:PE X o ta) (c:Cls X.K C) (hm:BC X.K C m f) (F:cQ X.prog X.w X.K X.mg X.base CX k f fd ps sp) (hr:dE k X.A) (hb:Binds X.K fd ps ds) (hd:dq dvs ds) (hx:nZ CX X E) (ha:PA X (e :: es) t)
  (hst:bM (e :: es) X.env=(false,d6 e X.env) :: bM es X.env:=by rfl) (hpl:(fg pos (bM es X.env)).any (·.1)=false:=by rfl)
  (ht:d6 (.Call (.Attribute o m apos) (e :: es) [] pos) X.env=(do
   let ov <- d6 o X.env
   sZ apos.atName
   let (f,first) <- pK [ov] (xa ov m pl)
   kg pos f first (fg pos (bM (e :: es) X.env)) (qO pos (kC [] X.env))):=by rfl) :
  PE X (.Call (.Attribute o m apos) (e :: es) [] pos) (CQ C m sp dvs E ta t):=by
 intro pins s σ H Q I h;refine pI (pl:=pl) (thn (he pins s σ H _ I h) fun u s1 ⟨x,H1,I1,rx,a,dx,fs,ex,ea,l,q⟩=>?_) ht;subst ex;obtain rfl:u=Value.ref a:=rx;refine rb I1 ea c hm l ?_;refine mf (first:=[.ref a]) (h₀:=X.base) I.ok.mod.kin hm.kp (thn (ha pos pins s1 σ H1 _ I1 q) fun us s2 ⟨vs,H2,I2,r,q2⟩=>⟨I2.kIn,?_⟩) hst hpl;exact zN (us:=.ref a :: us) (vs:=.ref a :: vs) F hr hb hd hx I2 (.cons rfl r) q2
theorem jX {pl:Sem Bool} (he:PE X o ta) (c:Cls X.K C) (hm:BC X.K C m f) (F:cQ X.prog X.w X.K X.mg X.base CX k f fd ps sp) (hr:dE k X.A) (hb:Binds X.K fd ps ds) (hd:dq dvs ds) (hx:nZ CX X E)
  (ht:d6 (.Call (.Attribute o m apos) [] [] pos) X.env=(do
   let ov <- d6 o X.env
   sZ apos.atName
   let (f,first) <- pK [ov] (xa ov m pl)
   kg pos f first (fg pos (bM [] X.env)) (qO pos (kC [] X.env))):=by rfl) :
  PE X (.Call (.Attribute o m apos) [] [] pos) (CQ C m sp dvs E ta rg):=by
 intro pins s σ H Q I h;refine pI (pl:=pl) (thn (he pins s σ H _ I h) fun u s1 ⟨x,H1,I1,rx,a,dx,fs,ex,ea,l,q⟩=>?_) ht;subst ex;obtain rfl:u=Value.ref a:=rx;refine rb I1 ea c hm l ?_;exact PySem.W.callWith_K0 (first:=[.ref a]) I1.kIn hm.kp (zN (us:=[.ref a]) (vs:=[.ref a]) F hr hb hd hx I1 (.cons rfl .nil) q)
structure Mk (K:ai) (C f:aj):Prop where
 makes:tP K C=true
 init:bV K (.ref C) "__init__"=some (some (.ref f))
 fn:jW K (.ref f)=true
 kp:dZ K (.ref C)=true
theorem CT {pins:List (aj×Obj)} {σ:St} {H:Hp} {s:ah} {Q:VK} {us:List ag} {vs:List V} (M:Mk X.K C f) (F:cQ X.prog X.w X.K X.mg X.base CX k f fd ps sp) (hr:dE (k + 1) X.A) (hb:Binds X.K fd ps ds) (hd:dq dvs ds)
  (hx:nZ CX X E) (I:Inv X pins σ H s) (r:dq vs us)
  (h:∀ x dx,H x=none->H dx=none->dx≠x->sp (.ref x :: (vs++dvs)) (upd (upd H dx (.own x)) x (.ins C dx [])) (fun v H2=>v=.non/\Q (.ref x) H2) E) :
  aY (aM X.prog X.w) X.A (rO (.ref C) us) (EP X pins σ Q) X.xe s:=by
 have hq:=h (s.heap.objs.size + 1) s.heap.objs.size (I.hok.fresh (gS _)) (I.hok.fresh (aF _)) (br (ju _));have I2:=Inv.made (C:=C) I;have r2:dq (V.ref (s.heap.objs.size + 1) :: (vs++dvs)) (Value.ref (s.heap.objs.size + 1) :: (us++ds)):=.cons rfl (r.append hd);have hl:(Value.ref (s.heap.objs.size + 1) :: us++ds).length=ps.length:=by
  have e:=r2.length;rw [F.len _ _ _ _ hq] at e;exact e.symm
 refine kq (CO (f:=f) I.kIn M.makes M.init (beq_iff_eq.mp M.fn) (CS (F.run _ X.stack _ _ ⟨Value.ref (s.heap.objs.size + 1) :: us,[]⟩ (Value.ref (s.heap.objs.size + 1) :: (us++ds)) _ _ E (hr.make C us [])
  (I2.env0.make C us []) (hb _ (Value.ref (s.heap.objs.size + 1) :: us) I2.kIn hl) r2 hq) fun r s' hq'=>?_))
 cases r with
 | error e=>exact hx pins σ _ _ e s' I2 hq'
 | ok fl =>
  cases fl with
  | ret u =>
   obtain ⟨v,H',I3,rv,ev,q3⟩:=I2.after hq';subst ev;exact ⟨rv,⟨V.ref (s.heap.objs.size + 1),H',I3,rfl,q3⟩⟩
  | next=>exact cL hq'
  | brk=>exact cL hq'
  | cont=>exact cL hq'
theorem E4 (M:Mk X.K C f) (F:cQ X.prog X.w X.K X.mg X.base CX k f fd ps sp) (hr:dE (k + 1) X.A) (hg:Gl X x) (hm:X.mg x=some (.ref C)) (hb:Binds X.K fd ps ds) (hd:dq dvs ds) (hx:nZ CX X E)
  (ha:PA X (e :: es) t) (hdb:(x == ("__debug__":Str))=false:=by decide) (he:bM (e :: es) X.env=(false,d6 e X.env) :: bM es X.env:=by rfl) (hpl:(fg pos (bM es X.env)).any (·.1)=false:=by rfl) :
  PE X (.Call (.Name x p) (e :: es) [] pos) (tMake C sp dvs E t):=by
 intro pins s σ H Q I h;refine kr (oW I hg hm ?_ hdb);refine mf (h₀:=X.base) I.ok.mod.kin M.kp (thn (ha pos pins s σ H _ I h) fun us s1 ⟨vs,H1,I1,r,q⟩=>⟨I1.kIn,?_⟩) he hpl;exact CT M F hr hb hd hx I1 r q
end
section
variable {X:Cx} {CX:CXT} {k:Nat} {f C:aj} {fd:cf} {ps ks:List Str} {sp:Sp} {E:XK} {x m:Str} {p pos apos kpos:Pos} {e o:cA} {es:List cA} {kws:List rh} {te ta:TE} {t tk:TA} {nm:Option Str}
variable {g:List ag->List ag->List ag} {gV:List V->List V->List V}
end
structure cH (N P:List Str) (sc:kB):Prop where
 kind:sc.kind=.function
 co:sc.isCoroutine=false
 gen:sc.isGenerator=false
 nd:N.Nodup
 pre:N.take P.length=P
 par:∀ x∈P,sc.names.lookup x=some .local\/sc.names.lookup x=some .cell
 nofree:∀ y∈sc.names,y.2≠.free
theorem vZ {kindOf:Str->Option kY} {x:Str}:∀ {binds:List (Str×ag)} {m:Str->Option ag},(∀ v,(x,v)∉binds)->Cp kindOf binds m x=m x
 | [],_,_=>rfl
 |(n,v) :: r,m,h=>by
  unfold Cp;rw [vZ fun w hw=>h w (ar _ hw)]
  split
  ·have:x≠n:=by rintro rfl; exact h v aw
   simp [this]
  ·rfl
theorem v9 {kindOf:Str->Option kY} {x:Str}:∀ {binds:List (Str×ag)} {m:Str->Option ag},(∀ v,(x,v)∉binds)->Cq kindOf binds m x=m x
 | [],_,_=>rfl
 |(n,v) :: r,m,h=>by
  unfold Cq;rw [v9 fun w hw=>h w (ar _ hw)]
  split
  ·rfl
  ·have:x≠n:=by rintro rfl; exact h v aw
   simp [this]
theorem wa {kindOf:Str->Option kY} {x:Str} {v:ag}:∀ {P:List Str} {vs:List ag} {i:Nat} {m:Str->Option ag},P.Nodup->P[i]?=some x->vs[i]?=some v->kindOf x=some .local ->
  Cp kindOf (P.zip vs) m x=some v
 | [],_,_,_,_,h,_,_=>by simp at h
 | _ :: _,[],_,_,_,_,h,_=>by simp at h
 | p :: P,w :: vs,0,m,nd,h1,h2,hk=>by
  simp at h1 h2; subst h1; subst h2;show Cp kindOf ((p,w) :: P.zip vs) m p=_;unfold Cp;rw [vZ fun v hv=>(eO.mp nd).1 (qh hv).1,if_pos hk];simp
 | p :: P,w :: vs,i + 1,m,nd,h1,h2,hk=>by
  show Cp kindOf ((p,w) :: P.zip vs) m x=_;unfold Cp;exact wa (i:=i) (eO.mp nd).2 (by simpa using h1) (by simpa using h2) hk
theorem wb {kindOf:Str->Option kY} {x:Str} {v:ag}:∀ {P:List Str} {vs:List ag} {i:Nat} {m:Str->Option ag},P.Nodup->P[i]?=some x->vs[i]?=some v->kindOf x≠some .local ->
  Cq kindOf (P.zip vs) m x=some v
 | [],_,_,_,_,h,_,_=>by simp at h
 | _ :: _,[],_,_,_,_,h,_=>by simp at h
 | p :: P,w :: vs,0,m,nd,h1,h2,hk=>by
  simp at h1 h2; subst h1; subst h2;show Cq kindOf ((p,w) :: P.zip vs) m p=_;unfold Cq;rw [v9 fun v hv=>(eO.mp nd).1 (qh hv).1,if_neg hk];simp
 | p :: P,w :: vs,i + 1,m,nd,h1,h2,hk=>by
  show Cq kindOf ((p,w) :: P.zip vs) m x=_;unfold Cq;exact wb (i:=i) (eO.mp nd).2 (by simpa using h1) (by simpa using h2) hk
def start (N:List Str) (vs:List V):St:=vs.map some++aJ (N.length - vs.length) none
def tR (CX:CXT) (P:aS) (w:bN) (K:ai) (mg:Str->Option ag) (base:cI) (N:List Str) (qual:Str) (scope:kB) (f:aj) (cd:ag) (A:bJ) (outer:List Env) (s:ah) (H:Hp) (E:XK):Cx where
 prog:=P
 w:=w
 K:=K
 mg:=mg
 base:=base
 A:=A.deeper (qi qual scope s.heap.objs.size f cd)
 N:=N
 s₀:=s
 H₀:=H
 env:=qi qual scope s.heap.objs.size f cd
 outer:=outer
 stack:=qi qual scope s.heap.objs.size f cd :: outer
 ex:=[]
 calm:=true
 fn:=fun _=>true
 pn:=[]
 xe:=fun e s'=>aY (aM P w) (A.deeper (qi qual scope s.heap.objs.size f cd)) (tE (qi qual scope s.heap.objs.size f cd) e) (fun _ s''=>CX outer H s E e s'') (fun e' s''=>CX outer H s E e' s'') s'
theorem yu {sc:kB} {n:Nat} {x:Str} (h:sc.names.lookup x=some .cell):∃ c,(Cr n sc.names []).lookup x=some c:=by
 have q:=o8 sc.names n [] (.inl h);exact ou.mp q
theorem wc {CX:CXT} {P:aS} {w:bN} {K:ai} {mg:Str->Option ag} {base:cI} {N ps:List Str} {qual:Str} {scope:kB} {f:aj} {cd:ag} {A:bJ} {outer:List Env} {s s1:ah} {H:Hp} {E:XK} {us:List ag} {vs:List V}
  (S:cH N ps scope) (hd:A.handled=none) (e0:yt P w K mg base A outer s H) (hl:vs.length=ps.length) (r:dq vs us)
  (x:InCallC s s.heap.objs.size (Cp (qi qual scope s.heap.objs.size f cd).kindOf (ps.zip us) fun _=>none) (Cr (s.heap.objs.size + 1) scope.names []) (Cq (qi qual scope s.heap.objs.size f cd).kindOf (ps.zip us) fun _=>none) s1) :
  Inv (tR CX P w K mg base N qual scope f cd A outer s H E) [] (start N vs) H s1:=by
 have hpl:ps.length<=N.length:=by have:=congrArg fZ S.pre; rw [bP] at this; omega
 obtain ⟨h1,tk,rfl,hk⟩:=x.done;have noA:∀ b:aj,b∉(tR CX P w K mg base N qual scope f cd A outer s H E).ex:=fun b z=>absurd (show b∈([]:List aj) from z) (by simp);refine ⟨⟨e0.mod,S.kind,rfl,rfl,aF _,fun y z c h1 h2=>?_,fun y hy=>?_,fun y c _ h=>?_,fun _=>hd,Around.frames_deeper e0.frames,.inr ⟨rfl,rfl⟩,fun b z=>absurd z (noA b),e0.bs,e0.bsz,fun b _ _=>noA b,fun b z=>absurd z (noA b),e0.funs,e0.frf⟩,
  rfl,e0.bare,Un.kept hk,⟨_,x.toInCall.ns,fun i y v h1 h2 h3=>?_⟩,fun y c h=>⟨_,x.cell y c h⟩,e0.hok.fresh (aF _),fun y c h=>?_,fun p hp=>absurd (show p∈([]:List (aj×Obj)) from hp) (by simp),e0.hok.kept hk,?_⟩
 ·exact name_of_addr x.apart (eD h1) (eD h2)
 ·have hy:scope.names.lookup y=some .cell\/scope.names.lookup y=some .free:=hy
  rcases hy with hy | hy
  ·exact yu hy
  ·exact absurd rfl (S.nofree _ (eD hy))
 ·exact kn (x.above y c (eD h))
 ·have hi:i < vs.length:=by
   unfold start at h2
   by_cases hi:i < vs.length
   ·exact hi
   ·rw [dJ (by simpa using hi)] at h2;rw [hZ] at h2
    split at h2 <;> cases h2
  have ha:vs[i]?=some v:=by
   unfold start at h2;rw [jv (by simpa using hi),cw] at h2
   cases e:vs[i]? with
   | none=>rw [e] at h2; cases h2
   | some a=>rw [e] at h2; cases h2; rfl
  obtain ⟨u,hu,rv⟩:=r.get ha;have hp:ps[i]?=some y:=by
   rw [<- S.pre,yc (by omega)]; exact h1
  have ndP:ps.Nodup:=by rw [<- S.pre]; exact S.nd.sublist (iS _ _)
  refine ⟨u,rv,?_⟩
  rcases S.par y (bS hp) with k | k
  ·exact .inl ⟨k,wa ndP hp hu k⟩
  ·obtain ⟨c,e⟩:=yu (n:=s.heap.objs.size + 1) k;refine .inr ⟨.inl k,c,e,?_⟩;have q:=x.cell y c e;rw [wb ndP hp hu (by show scope.names.lookup y≠_; rw [k]; decide)] at q;exact q
 ·exact e0.hok.fresh (kn (x.above y c (eD h)))
 ·unfold start;show _=N.length;rw [ae,aa,cW];omega
theorem fn_of {CX:CXT} {P:aS} {w:bN} {K:ai} {mg:Str->Option ag} {base:cI} {k:Nat} {f:aj} {name qual:Str} {params:Arguments} {body:List dw} {scope:kB} {dV kV doc pm cdv ct oc:ag} {an od:Option aj}
  {osl:Array (Option ag)} {N ps:List Str} {sp:Sp} (lk:K.lookup f=some ⟨oc,od,.func (eY name qual params body scope dV kV doc pm an cdv ct),osl⟩) (hcd:jY K cdv qual=true) (S:cH N ps scope)
  (len:∀ vs H Q E,sp vs H Q E->vs.length=ps.length)
  (hbody:∀ (A:bJ) (outer:List Env) (s:ah) (H:Hp) (vs:List V) (Q:VK) (E:XK),dE k (A.deeper (qi qual scope s.heap.objs.size f cdv))->sp vs H Q E ->
   ∃ t,PSs (tR CX P w K mg base N qual scope f cdv A outer s H E) body t/\t {nx:=fun _ H'=>Q .non H',rt:=Q} (start N vs) H) :
  cQ P w K mg base CX (k + 1) f (eY name qual params body scope dV kV doc pm an cdv ct) ps sp:=by
 refine ⟨len,fun A outer s H args us vs Q E hr e0 hb r hsp=>?_⟩;have hl:=len _ _ _ _ hsp;have KX:K.In s.heap:=e0.mod.kin.keeps fun b o e=>(e0.bs b o e).1;have lim:s.heap.NoLimit:=e0.mod.nolimit.keeps fun b o e=>(e0.bs b o e).1;have hkind:∀ y∈ps.zip us,scope.names.lookup y.1=some .local\/(scope.names.lookup y.1=some .cell/\((Cr (s.heap.objs.size + 1) scope.names []).lookup y.1).isSome=true):=fun ⟨n,v⟩ hy=>by
  rcases S.par n (qh hy).1 with q | q
  ·exact .inl q
  ·exact .inr ⟨q,o8 _ _ _ (.inl q)⟩
 refine codeAny_call_function hr.depth (KX _ _ lk) rfl S.co S.gen rfl (zO KX hcd) (hb _ _ _ _ ?_);refine zP S.kind hkind fun env he s1 x=>?_;subst he;refine ⟨lim.keeps x.toInCall.keep,codeAny_func ?_⟩;obtain ⟨t,ht,hq⟩:=hbody A outer s H vs Q E (hr.deeper _) hsp;have I:Inv (tR CX P w K mg base N qual scope f cdv A outer s H E) [] (start N vs) H s1:=wc S hr.hd e0 hl r x;refine cg (ht [] s1 (start N vs) H _ I hq) (fun fl s' hs=>?_) fun e s' hs=>hs;have fin:∀ {σ':St} {H':Hp} {v:V} {u:ag},Inv (tR CX P w K mg base N qual scope f cdv A outer s H E) [] σ' H' s'->RelV v u->Q v H'->CE outer P w H s Q u s':=
  fun {σ' H' v u} J rv q=>⟨v,H',J.os,J.bare,J.base,J.hok,rv,q⟩
 cases fl with
 | ret u =>
  obtain ⟨v,σ',H',J,rv,q⟩:=hs;exact fin J rv q
 | next =>
  obtain ⟨σ',H',J,q⟩:=hs;exact fin (v:=V.non) (u:=Value.none) J rfl q
 | brk =>
  obtain ⟨_,_,_,q⟩:=hs;exact cL q
 | cont =>
  obtain ⟨_,_,_,q⟩:=hs;exact cL q
section
variable {X:Cx} {x:Str} {p pos:Pos} {e:cA} {es:List cA} {t:TA} {id T:String} {r:List V->Hp->VK->Prop}
def tCB (r:List V->Hp->VK->Prop) (t:TA):TE:=fun σ H Q=>t σ H fun vs H1=>r vs H1 Q
theorem cY (hc:l8 X (.builtin id) r) (hg:Gl X x) (hm:X.mg x=none) (hv:eE x=some (.builtin id)) (ha:PA X (e :: es) t) (hn:x≠"__name__":=by decide) (hdb:(x == ("__debug__":Str))=false:=by decide)
  (he:bM (e :: es) X.env=(false,d6 e X.env) :: bM es X.env:=by rfl) (hpl:(fg pos (bM es X.env)).any (·.1)=false:=by rfl):PE X (.Call (.Name x p) (e :: es) [] pos) (tCB r t):=by
 intro pins s σ H Q I h;refine kr (oY I hg hm hv ?_ hn hdb);exact PyProof.Rows.callWith_builtin1 (thn (ha pos pins s σ H _ I h) fun us s1 ⟨vs,H1,I1,r1,q1⟩=>hc pins s1 σ H1 vs us Q I1 r1 q1) he hpl
theorem fA (hc:l8 X (.type T) r) (hg:Gl X x) (hm:X.mg x=none) (hv:eE x=some (.type T)) (ha:PA X (e :: es) t) (hn:x≠"__name__":=by decide) (hdb:(x == ("__debug__":Str))=false:=by decide)
  (he:bM (e :: es) X.env=(false,d6 e X.env) :: bM es X.env:=by rfl) (hpl:(fg pos (bM es X.env)).any (·.1)=false:=by rfl):PE X (.Call (.Name x p) (e :: es) [] pos) (tCB r t):=by
 intro pins s σ H Q I h;refine kr (oY I hg hm hv ?_ hn hdb);exact fY (thn (ha pos pins s σ H _ I h) fun us s1 ⟨vs,H1,I1,r1,q1⟩=>hc pins s1 σ H1 vs us Q I1 r1 q1) he hpl
end
end L2
namespace HT
open PySem PyProof.Rows
section
open PySem.SeqAt
open PySem.AutoSeq1 (wpAny_loadPart')
open PySem.MeetsSeq PySem.MeetsSeq2 PySem.MeetsSeq3
end
section
variable {prog:aS} {w:bN} {A:bJ} {E:ag->ah->Prop} {s:ah}
theorem cat_tup {t b:aj} {vs ws:List ag} {Q:ag->ah->Prop} (ht:IsTup s.heap t vs.toArray) (hb:IsTup s.heap b ws.toArray) (hv:vs≠[])
  (h1:ws=[]->Q (.ref t) s) (h2:ws≠[]->Q (.ref s.heap.objs.size) {s with heap:=s.heap.push {cls:=.type "tuple",data:=.seq (vs++ws).toArray}})
  (hsz:vs.length + ws.length<=ax):aY (aM prog w) A (jE .Add (.ref t) (.ref b)) Q E s:=by
 obtain ⟨⟨cls,dd,data,sl⟩,ho,hc,n,hd⟩:=id ht;obtain ⟨⟨cls2,dd2,data2,sl2⟩,ho2,hc2,n2,hd2⟩:=id hb;simp only at hc hd hc2 hd2;subst hc hd hc2 hd2;have e:vs.toArray++ws.toArray=(vs++ws).toArray:=by simp
 by_cases hw:ws=[]
 ·exact concat_meets ⟨_,ho,rfl⟩ ⟨_,ho2,rfl⟩ noFill_tuple_add seq_tuple_add xf we (vE _ _)
   (tuple_addW1 t b vs.toArray ws.toArray n n2 dd dd2 sl sl2 (by simpa using hv) (by simp [hw])) ⟨ho,ho2,h1 hw⟩
 ·refine concat_meets ⟨_,ho,rfl⟩ ⟨_,ho2,rfl⟩ noFill_tuple_add seq_tuple_add xf we (vE _ _)
   (tuple_addW2 t b vs.toArray ws.toArray n n2 dd dd2 sl sl2 (by simpa using hv) (by simpa using hw) (by rw [aA,aA]; exact hsz)) ⟨ho,ho2,?_⟩
  rw [e];exact h2 hw
def sIx (n d:Nat):Option Int->Nat
 | none=>d
 | some v=>if v < 0 then (v + (n:Int)).toNat else min v.toNat n
theorem sIx_none (n d:Nat):sIx n d none=d:=rfl
theorem sIx_nat (n d k:Nat):sIx n d (some (k:Int))=min k n:=by
 show (if (k:Int) < 0 then ((k:Int) + (n:Int)).toNat else min (k:Int).toNat n)=min k n;rw [if_neg (by omega),eI]
theorem Io (n d:Nat) (hd:d<=n) (o:Option Int):sIx n d o<=n:=by
 cases o with
 | none=>exact hd
 | some v =>
  show (if v < 0 then (v + (n:Int)).toNat else min v.toNat n)<=n
  by_cases hv:v < 0
  ·rw [if_pos hv]; omega
  ·rw [if_neg hv]; exact Nat.min_le_right _ _
theorem AM (v:Int) (n d:Nat):(if v < 0 then max (v + (n:Int)) 0 else min v (n:Int))=((sIx n d (some v):Nat):Int):=by
 show (if v < 0 then max (v + (n:Int)) 0 else min v (n:Int))=(((if v < 0 then (v + (n:Int)).toNat else min v.toNat n):Nat):Int)
 by_cases hv:v < 0
 ·simp only [if_pos hv]; omega
 ·simp only [if_neg hv]; omega
theorem zQ (lo hi:Option Int) (n:Nat):kZ lo hi 1 (n:Int)=(((sIx n 0 lo:Nat):Int),((sIx n n hi:Nat):Int)):=by
 have h1:¬ ((1:Int) < 0):=by omega
 unfold kZ;simp only [h1,if_false];refine Prod.ext ?_ ?_
 ·cases lo with
  | none=>rfl
  | some v=>exact AM v n 0
 ·cases hi with
  | none=>rfl
  | some v=>exact AM v n n
theorem zR (i j:Nat):iI (i:Int) (j:Int) 1=j - i:=by
 unfold iI;have h1:(1:Int) > 0:=by omega
 simp only [h1,if_true,Int.ediv_one]
 split <;> omega
theorem uE {v:ag} {o:Option Int} {Q:Option Int->ah->Prop} (p:xg v o) (h:Q o s):aY (aM prog w) A (Builtin.Slice.slicePartIndex v) Q E s:=by
 cases p with
 | none=>exact slicePart_none h
 | int i t=>exact slicePart_int h
theorem sP {sl:aj} {vl vu:ag} {lo hi:Option Int} {n:Nat} {Q:Int×Int×Nat->ah->Prop} (hs:s.heap.IsSliceOf sl vl vu .none) (pl:xg vl lo) (pu:xg vu hi)
  (h:Q (((sIx n 0 lo:Nat):Int),1,sIx n n hi - sIx n 0 lo) s):aY (aM prog w) A (rS (.ref sl) (pure (n:Int))) Q E s:=by
 obtain ⟨os,hos,hcs,hds⟩:=id hs;unfold rS Builtin.Slice.sliceFields;refine af (af (iN hos hds (x:=vl) rfl (af (iN hos hds (x:=vu) rfl (af (iN hos hds (x:=.none) rfl (av ?_)))))));refine af (slicePart_none ?_);show aY _ _ (if ((1:Int) == 0)=true then _ else _) _ _ s;rw [if_neg (by decide)];refine af (uE pl (af (uE pu (af (av ?_)))));show aY _ _ (match kZ lo hi 1 (n:Int) with | (lo,hi)=>pure (lo,(1:Int),iI lo hi 1)) _ _ s;rw [zQ lo hi n];show aY _ _ (pure (((sIx n 0 lo:Nat):Int),(1:Int),iI ((sIx n 0 lo:Nat):Int) ((sIx n n hi:Nat):Int) 1)) _ _ s;rw [zR];exact av h
theorem CU (xs:Array ag) (i k:Nat):((iz k).filterMap fun (m:Nat)=>xs[((i:Int) + (m:Int) * 1).toNat]?).toArray=((xs.toList.drop i).take k).toArray:=by
 have e:(fun (m:Nat)=>xs[((i:Int) + (m:Int) * 1).toNat]?)=fun m=>xs[i + m]?:=by
  funext m
  have:((i:Int) + (m:Int) * 1).toNat=i + m:=by omega
  rw [this]
 rw [e];have:=pick_run xs i k;rw [List.filterMap_map] at this;have e2:((fun x=>xs[x]?) ∘ fun x=>i + x)=fun m=>xs[i + m]?:=rfl;rw [e2] at this;rw [this]
theorem getItem_tuple_cut {t sl:aj} {items:Array ag} {vl vu:ag} {lo hi:Option Int} {Q:ag->ah->Prop} (ht:IsTup s.heap t items) (hs:s.heap.IsSliceOf sl vl vu .none) (pl:xg vl lo) (pu:xg vu hi)
  (hw:¬ (sIx items.size 0 lo=0/\sIx items.size items.size hi=items.size))
  (h:Q (.ref s.heap.objs.size) {s with heap:=s.heap.push {cls:=.type "tuple",data:=.seq ((items.toList.drop (sIx items.size 0 lo)).take (sIx items.size items.size hi - sIx items.size 0 lo)).toArray}})
  (hsz:items.size<=ax):aY (aM prog w) A (rj (.ref t) (.ref sl)) Q E s:=by
 have htake:sizeOk (.seq ((items.toList.drop (sIx items.size 0 lo)).take (sIx items.size items.size hi - sIx items.size 0 lo)).toArray):=by
  show ((items.toList.drop (sIx items.size 0 lo)).take (sIx items.size items.size hi - sIx items.size 0 lo)).toArray.size<=ax;rw [aA,bP,kO,bY];omega
 have hj:sIx items.size items.size hi<=items.size:=Io _ _ (aF _) hi;obtain ⟨os,hos,hcs,hds⟩:=id hs;have hTs:s.TypeIs (.ref sl) "slice":=⟨os,hos,hcs⟩;unfold rj
 try with_reducible refine bK ?_
 first | refine af (av ?_) | skip
 refine af (wpAny_sequenceKey ht.typeIs (by decide) ?_);refine af (wpAny_callSpecial?_slot (name:=ba "__getitem__") ht.typeIs jG
  (wpAny_call_entry jG ht.typeIs entry_tuple_getitem ?_ (args_tuple_getitem _ _)))
 show aY _ _ (Builtin.Tuple.tupleItemsOf (.ref t) >>= _) _ _ s;refine af (tupleItemsOf_ ht ?_);refine af (wpAny_typeOf hTs ?_);rw [if_pos (by decide)];refine af (sP hs pl pu ?_);have hno:¬ ((((sIx items.size 0 lo:Nat):Int) == 0 && (1:Int) == 1 && (sIx items.size items.size hi - sIx items.size 0 lo) == items.size)=true):=by
  intro q;rw [dA,dA] at q;have q1:((sIx items.size 0 lo:Nat):Int)=0:=eq_of_beq q.1.1;have q2:sIx items.size items.size hi - sIx items.size 0 lo=items.size:=eq_of_beq q.2;exact hw ⟨by omega,by omega⟩
 show aY _ _ (if (((sIx items.size 0 lo:Nat):Int) == 0 && (1:Int) == 1 && (sIx items.size items.size hi - sIx items.size 0 lo) == items.size)=true then _ else _) _ _ s;rw [if_neg hno,CU]
 first
  | exact af (m:=iT _) (gw (av ⟨_,rfl,av h⟩) htake)
  | exact af (m:=iT _) (gw (af (av (av ⟨_,rfl,av h⟩))) htake)
  | exact af (af (m:=iT _) (gw (av (av ⟨_,rfl,av h⟩)) htake))
  | exact af (af (m:=iT _) (gw (av ⟨_,rfl,av h⟩) htake))
end
end HT
namespace L2
open PySem PySem.Spec PyProof.Rows
abbrev TO:=St->Hp->(Option Int->Hp->Prop)->Prop
def PO (X:Cx) (e:Option cA) (t:TO):Prop:=
 ∀ (pins:List (aj×Obj)) (s:ah) (σ:St) (H:Hp) (Q:Option Int->Hp->Prop),Inv X pins σ H s->t σ H Q ->
  aY (aM X.prog X.w) X.A (evalPart e X.env) (fun u s'=>∃ o H',Inv X pins σ H' s'/\xg u o/\Q o H') X.xe s
def E5:TO:=fun _ H Q=>Q none H
def tPart (t:TE):TO:=fun σ H Q=>t σ H fun x H1=>∃ i,x=.int i/\Q (some i) H1
section
variable {X:Cx} {e:cA} {te:TE} {lo hi:Option cA} {tl th:TO} {pos p2:Pos}
theorem i7:PO X none E5:=by
 intro pins s σ H Q I h;rw [evalPart_none];exact av ⟨none,H,I,.none,h⟩
theorem ib (h:PE X e te):PO X (some e) (tPart te):=by
 intro pins s σ H Q I hw;rw [evalPart_some];refine thn (h pins s σ H _ I hw) fun u s1 ⟨x,H1,I1,r1,q1⟩=>?_;obtain ⟨i,rfl,q⟩:=q1;obtain ⟨t,rfl⟩:=r1;exact ⟨some i,H1,I1,.int i t,q⟩
def SlR (X:Cx) (r:V->Option Int->Option Int->Hp->VK->Prop):Prop:=
 ∀ (pins:List (aj×Obj)) (s:ah) (σ:St) (H:Hp) (x:V) (v vl vu:ag) (lo hi:Option Int) (sl:aj) (Q:VK),Inv X pins σ H s->RelV x v->s.heap.IsSliceOf sl vl vu .none->xg vl lo->xg vu hi->r x lo hi H Q ->
  ∃ T id,uF (.type T) "__getitem__"=pure (some (.builtin id))/\s.TypeIs v T/\aY (aM X.prog X.w) X.A (rj v (.ref sl)) (EP X pins σ Q) X.xe s
def tSl (r:V->Option Int->Option Int->Hp->VK->Prop) (te:TE) (tl th:TO):TE:=fun σ H Q=>te σ H fun x H1=>tl σ H1 fun l H2=>th σ H2 fun u H3=>r x l u H3 Q
theorem gM {r:V->Option Int->Option Int->Hp->VK->Prop} (hr:SlR X r) (he:PE X e te) (hl:PO X lo tl) (hu:PO X hi th):PE X (.Subscript e (.Slice lo hi none p2) pos) (tSl r te tl th):=by
 intro pins s σ H Q I h;refine Iq (thn (he pins s σ H _ I h) fun v s1 ⟨x,H1,I1,r1,q1⟩=>?_);refine wpAny_Slice (thn (hl pins s1 σ H1 _ I1 q1) fun vl s2 ⟨l,H2,I2,pl,q2⟩=>thn (hu pins s2 σ H2 _ I2 q2) fun vu s3 ⟨u,H3,I3,pu,q3⟩=>?_);rw [evalPart_none];refine av ?_;have I4:Inv X pins σ H3 {s3 with heap:=s3.heap.push {cls:=.type "slice",data:=.fields #[vl,vu,.none]}}:=I3.kept (t':=s3.toks) fun b ob q=>ay _ q;obtain ⟨T,id,hT,ht,hg⟩:=hr pins {s3 with heap:=s3.heap.push {cls:=.type "slice",data:=.fields #[vl,vu,.none]}} σ H3 x v vl vu l u s3.heap.objs.size Q I4 r1 (Jn ..) pl pu q3;show aY (aM X.prog X.w) X.A (BD e (.Slice lo hi none p2) v (.ref s3.heap.objs.size)) (EP X pins σ Q) X.xe {s3 with heap:=s3.heap.push {cls:=.type "slice",data:=.fields #[vl,vu,.none]}};exact tail_any (ops:=[.ref s3.heap.objs.size,v]) ht hT hg (by with_unfolding_all rfl)
def jZ (xs:List V) (lo hi:Option Int):List V:=(xs.drop (HT.sIx xs.length 0 lo)).take (HT.sIx xs.length xs.length hi - HT.sIx xs.length 0 lo)
theorem qj (xs:List V) (lo hi:Option Int):(jZ xs lo hi).length<=xs.length:=by
 unfold jZ;rw [bP,kO];omega
def rSlT (K:ai):V->Option Int->Option Int->Hp->VK->Prop:=fun x lo hi H Q=>∃ a xs,x=.ref a/\SqT K H a xs /\
 ¬ (HT.sIx xs.length 0 lo=0/\HT.sIx xs.length xs.length hi=xs.length)/\∀ p,H p=none->Q (.ref p) (upd H p (.tup (jZ xs lo hi)))
theorem CV:SlR X (rSlT X.K):=by
 intro pins s σ H x v vl vu lo hi sl Q I rx hs pl pu h;obtain ⟨a,xs,rfl,hx,hw,q⟩:=h
 cases rx;obtain ⟨its,r,ht,hz⟩:=I.tuple hx;have hlen:its.toArray.size=xs.length:=by rw [aA]; exact r.length.symm
 refine ⟨"tuple",_,jG.lookup,ht.typeIs,?_⟩;refine HT.getItem_tuple_cut ht hs pl pu (by rw [hlen]; exact hw) ?_ (by rw [hlen]; exact hz);rw [hlen];refine ⟨.ref s.heap.objs.size,_,I.laid (t':=s.toks) (o:=.tup (jZ xs lo hi)) (fun b ob q=>ay _ q) (aF _) ?_,rfl,q _ (I.hok.fresh (aF _))⟩;exact ⟨bC (qj xs lo hi) hz,_,(r.drop (HT.sIx xs.length 0 lo)).take (HT.sIx xs.length xs.length hi - HT.sIx xs.length 0 lo),CW _ _⟩
def rCatT (K:ai):R2:=fun x y H Q=>∃ a b xs ys,x=.ref a/\y=.ref b/\SqT K H a xs/\SqT K H b ys/\xs≠[]/\xs.length + ys.length<=ax /\
 (ys=[]->Q (.ref a) H)/\(ys≠[]->∀ p,H p=none->Q (.ref p) (upd H p (.tup (xs++ys))))
theorem dq.nil_iff {xs:List V} {us:List ag} (r:dq xs us):us=[]↔xs=[]:=by
 cases r with
 | nil=>simp
 | cons _ _=>simp
theorem AN:OpR X (jE .Add) (rCatT X.K):=by
 intro pins s σ H x y v u Q I rx ry h;obtain ⟨a,b,xs,ys,rfl,rfl,ha,hb,hx,hz,q1,q2⟩:=h
 cases rx
 cases ry;obtain ⟨its,r1,p1,_⟩:=I.tuple ha;obtain ⟨its2,r2,p2,_⟩:=I.tuple hb;refine HT.cat_tup p1 p2 (fun z=>hx (r1.nil_iff.mp z)) (fun z=>⟨.ref a,H,I,rfl,q1 (r2.nil_iff.mp z)⟩) (fun z=>?_) (by rw [<- r1.length,<- r2.length]; exact hz);refine ⟨.ref s.heap.objs.size,_,I.laid (t':=s.toks) (o:=.tup (xs++ys)) (fun b ob q=>ay _ q) (aF _) ?_,rfl,q2 (fun w=>z (r2.nil_iff.mpr w)) _ (I.hok.fresh (aF _))⟩;exact ⟨by rw [ae]; exact hz,_,r1.append r2,CW _ _⟩
end
def ixN (n:Nat) (i:Int):Option Nat:=if 0<=i then (if i < n then some i.toNat else none) else if -(n:Int)<=i then some (i + n).toNat else none
def atI {α:Type} (xs:List α) (i:Int):Option α:=(ixN xs.length i).bind fun j=>xs[j]?
theorem AO {n:Nat} {i:Int} {j:Nat} (h:ixN n i=some j):seqIndex? i n=some j/\j < n/\-(n:Int)<=i/\i < n:=by
 unfold ixN at h
 by_cases h0:0<=i
 ·rw [if_pos h0] at h
  by_cases h1:i < n
  ·rw [if_pos h1] at h;have e:i.toNat=j:=b0 h;exact ⟨by rw [E6 h0 h1,e],by omega,by omega,h1⟩
  ·rw [if_neg h1] at h; cases h
 ·rw [if_neg h0] at h
  by_cases h1:-(n:Int)<=i
  ·rw [if_pos h1] at h;have e:(i + n).toNat=j:=b0 h;exact ⟨by rw [CY (by omega) h1,e],by omega,h1,by omega⟩
  ·rw [if_neg h1] at h; cases h
theorem xh {α:Type} {xs:List α} {i:Int} {v:α} (h:atI xs i=some v):∃ j,seqIndex? i xs.length=some j/\xs[j]?=some v/\j < xs.length/\-(xs.length:Int)<=i/\i < xs.length:=by
 unfold atI at h
 cases e:ixN xs.length i with
 | none=>rw [e] at h; cases h
 | some j =>
  rw [e] at h;obtain ⟨h1,h2,h3,h4⟩:=AO e;exact ⟨j,h1,h,h2,h3,h4⟩
theorem eZ {α:Type} {xs:List α} {j:Nat} {v:α} (h:xs[j]?=some v):atI xs (j:Int)=some v:=by
 have hj:j < xs.length:=(aQ.mp h).1;have e:ixN xs.length (j:Int)=some j:=by
  unfold ixN;rw [if_pos (by omega),if_pos (by omega)]; simp
 unfold atI; rw [e]; exact h
def E7 (b:cA):Prop:=∀ o i,yd b false o i=Jo [o,i] (rj o i)
def IxR (X:Cx) (r:R2):Prop:=
 ∀ (value slice:cA) (pins:List (aj×Obj)) (s:ah) (σ:St) (H:Hp) (x y:V) (v u:ag) (Q:VK),Inv X pins σ H s->RelV x v->RelV y u->r x y H Q ->
  yd slice false v u=Jo [v,u] (rj v u)->aY (aM X.prog X.w) X.A (BD value slice v u) (EP X pins σ Q) X.xe s
def MtR (X:Cx) (id:String) (r:V->List V->Hp->VK->Prop):Prop:=
 ∀ (pins:List (aj×Obj)) (s:ah) (σ:St) (H:Hp) (x:V) (xs:List V) (v:ag) (us:List ag) (Q:VK),Inv X pins σ H s->RelV x v->dq xs us->r x xs H Q ->
  aY (aM X.prog X.w) X.A (rO (.builtin id) (v :: us)) (EP X pins σ Q) X.xe s
section
variable {X:Cx} {a b:cA} {ta tb:TE} {pos:Pos}
theorem bR {r:R2} (hr:IxR X r) (ha:PE X a ta) (hb:PE X b tb) (hs:E7 b):PE X (.Subscript a b pos) (tOp r ta tb):=by
 intro pins s σ H Q I h;exact Iq (Ig ha hb I h fun v u s2 x y H2 I2 rx ry q=>hr a b pins s2 σ H2 x y v u Q I2 rx ry q (hs _ _))
inductive RIxL (K:ai) (x y:V) (H:Hp) (Q:VK):Prop where
 | mk (p:aj) (xs:List V) (i:Int) (v:V) (hx:x=.ref p) (hy:y=.int i) (s:SqL K H p xs) (e:atI xs i=some v) (q:Q v H):RIxL K x y H Q
def rIxL (K:ai):R2:=fun x y H Q=>RIxL K x y H Q
inductive RIxT (K:ai) (x y:V) (H:Hp) (Q:VK):Prop where
 | mk (p:aj) (xs:List V) (i:Int) (v:V) (hx:x=.ref p) (hy:y=.int i) (s:SqT K H p xs) (e:atI xs i=some v) (q:Q v H):RIxT K x y H Q
def rIxT (K:ai):R2:=fun x y H Q=>RIxT K x y H Q
def rIxS:R2:=fun x y H Q=>∃ z i c,x=.str z/\y=.int i/\z.length<=ax/\atI z.cps.toList i=some c/\Q (.str ⟨#[c]⟩) H
theorem cU:IxR X (rIxL X.K):=by
 intro value slice pins s σ H x y v u Q I rx ry h hs;obtain ⟨p,xs,i,z,rfl,rfl,hq,he,q⟩:=h
 cases rx;obtain ⟨t,rfl⟩:=ry;obtain ⟨its,r,pl,hz⟩:=I.list hq;obtain ⟨j,h1,h2,h3,h4,h5⟩:=xh he;obtain ⟨w,ew,rw'⟩:=r.get h2;have hl:=r.length;have hn:=ra;have fin:EP X pins σ Q w s:=⟨z,H,I,rw',q⟩
 by_cases h0:0<=i
 ·have hj:i.toNat=j:=by
   rw [E6 h0 h5] at h1;exact b0 h1
  exact item_listR pl.isList h0 (by omega) (by rw [hj]; simpa using ew) fin hs
 ·have hj:(i + (its.toArray.size:Int)).toNat=j:=by
   rw [CY (by omega) h4] at h1;rw [aA,<- hl];exact b0 h1
  exact CZ (x:=w) pl.isList.typeIs Jp.lookup
   (wpAny_getItem_list_neg (Q:=fun r s'=>r=w/\EP X pins σ Q r s') pl.isList (by omega) (by rw [aA] <;> omega) (by omega) (by rw [hj]; simpa using ew) ⟨rfl,fin⟩) hs
theorem cM:IxR X (rIxT X.K):=by
 intro value slice pins s σ H x y v u Q I rx ry h hs;obtain ⟨p,xs,i,z,rfl,rfl,hq,he,q⟩:=h
 cases rx;obtain ⟨t,rfl⟩:=ry;obtain ⟨its,r,pl,hz⟩:=I.tuple hq;obtain ⟨j,h1,h2,h3,h4,h5⟩:=xh he;obtain ⟨w,ew,rw'⟩:=r.get h2;have hl:=r.length;have hn:=ra;have fin:EP X pins σ Q w s:=⟨z,H,I,rw',q⟩;exact CZ (x:=w) pl.typeIs slot_tuple_getitem.lookup
  (getItem_tuple (j:=j) (Q:=fun r s'=>r=w/\EP X pins σ Q r s') pl (by omega) (by omega) (by rw [aA,<- hl]; exact h1) (by simpa using ew) ⟨rfl,fin⟩) hs
theorem C0:IxR X rIxS:=by
 intro value slice pins s σ H x y v u Q I rx ry h hs;obtain ⟨z,i,c,rfl,rfl,hz,he,q⟩:=h;obtain ⟨t,rfl⟩:=rx;obtain ⟨t',rfl⟩:=ry;obtain ⟨j,h1,h2,h3,h4,h5⟩:=xh he;have hl:z.cps.toList.length=z.length:=by simp [C1]
 rw [hl] at h1 h4 h5;have hn:=ra;exact tail_any (mj s z t) slot_str_getitem.lookup (getItem_str (c:=c) (by
  have e1:decide (i < -(2 ^ 63:Int))=false:=decide_eq_false (by omega);have e2:decide (i ≥ 2 ^ 63)=false:=decide_eq_false (by omega);rw [e1,e2,ye]) (by rw [h1]; simpa using h2) ⟨.str ⟨#[c]⟩,H,I.tok _,⟨_,rfl⟩,q⟩) hs
theorem zS (its:List ag) (n j:Nat) (u:ag):j0 (·.setIfInBounds j u) {cls:=.type "list",data:=.seq its.toArray n}={cls:=.type "list",data:=.seq (its.set j u).toArray n}:=by
 simp [j0]
theorem Inv.lst {pins:List (aj×Obj)} {σ:St} {H:Hp} {s:ah} {p:aj} {xs:List V} (I:Inv X pins σ H s) (h:H p=some (.lst xs)) :
  ∃ (its:List ag) (n:Nat),dq xs its/\s.heap.get? p=some {cls:=.type "list",data:=.seq its.toArray n}/\xs.length<=ax:=by
 obtain ⟨z,its,n,r,e⟩:=I.hok p _ h;exact ⟨its,n,r,e,z⟩
theorem Inv.lstUpd {pins:List (aj×Obj)} {σ:St} {H:Hp} {s:ah} {p:aj} {xs ys:List V} {its its':List ag} {n n':Nat} {f:Obj->Obj} (I:Inv X pins σ H s) (h:H p=some (.lst xs))
  (ho:s.heap.get? p=some {cls:=.type "list",data:=.seq its.toArray n}) (hf:f {cls:=.type "list",data:=.seq its.toArray n}={cls:=.type "list",data:=.seq its'.toArray n'}) (r:dq ys its') (hz:ys.length<=ax) (t:Nat) :
  Inv X pins σ (upd H p (.lst ys)) {s with heap:=s.heap.update p f,toks:=t}:=by
 have e:(s.heap.update p f).get? p=some {cls:=.type "list",data:=.seq its'.toArray n'}:=by
  rw [fJ f ho (by rw [hf] <;> rfl),hf]
 refine I.write (x:=p) (e:=p) (by rw [h]; trivial) (.inl rfl) (fun b u hb q=>(c9 _ _ (eU hb)).trans q) ⟨_,e⟩ ?_;exact ⟨hz,its',n',r,e⟩
def rSetL:V->V->V->Hp->(Hp->Prop)->Prop:=fun o i v H Q=>∃ p xs k j,o=.ref p/\i=.int k/\H p=some (.lst xs)/\ixN xs.length k=some j/\Q (upd H p (.lst (xs.set j v)))
theorem yv:PSet X rSetL:=by
 intro pins s σ H o i v ov iv u Q I ro ri rv h;obtain ⟨p,xs,k,j,rfl,rfl,hp,hj,q⟩:=h
 cases ro;obtain ⟨t,rfl⟩:=ri;obtain ⟨its,n,r,ho,hz⟩:=I.lst hp;obtain ⟨h1,h2,h3,h4⟩:=AO hj;have hl:=r.length;have hn:=ra;have I':Inv X pins σ (upd H p (.lst (xs.set j v))) {s with heap:=s.heap.update p (j0 (·.setIfInBounds j u))}:=
  I.lstUpd hp ho (zS its n j u) (r.set rv j) (by rw [List.length_set]; exact hz) s.toks
 by_cases h0:0<=k
 ·have hk:k.toNat=j:=by
   rw [E6 h0 h4] at h1;exact b0 h1
  exact PySem.W.ki_setAt ho h0 (by omega) (by rw [aA,<- hl]; exact h4) (by rw [hk]; exact ⟨_,I',q⟩)
 ·have hk:(k + (its.toArray.size:Int)).toNat=j:=by
   rw [CY (by omega) h3] at h1;rw [aA,<- hl];exact b0 h1
  exact PySem.W.ki_setBack ho (by omega) (by rw [aA,<- hl]; exact h3) (by omega) (by rw [hk]; exact ⟨_,I',q⟩)
theorem xi (lo hi:Option Int) (n:Nat):(mZ lo hi none n).1=((HT.sIx n 0 lo:Nat):Int)/\(mZ lo hi none n).2.1=((HT.sIx n n hi:Nat):Int)/\(mZ lo hi none n).2.2=1:=by
 refine ⟨?_,?_,rfl⟩
 ·cases lo with
  | none=>simp [mZ,HT.sIx]
  | some i =>
   simp only [mZ,HT.sIx,Cs,show (1:Int) > 0 by decide,if_true]
   by_cases h:i < 0
   ·simp only [h,if_true] <;> omega
   ·simp only [h,if_false] <;> omega
 ·cases hi with
  | none=>simp [mZ,HT.sIx]
  | some i =>
   simp only [mZ,HT.sIx,Cs,show (1:Int) > 0 by decide,if_true]
   by_cases h:i < 0
   ·simp only [h,if_true] <;> omega
   ·simp only [h,if_false] <;> omega
theorem vF (its:List ag) (lo hi:Option Int):slicePick its.toArray lo hi none=((its.drop (HT.sIx its.length 0 lo)).take (HT.sIx its.length its.length hi - HT.sIx its.length 0 lo)).toArray:=by
 obtain ⟨h1,h2,h3⟩:=xi lo hi its.toArray.size;unfold slicePick;rw [h1,h2,h3];simp only [sliceRange_one,pick_run,aA] <;> rfl
def rSlL (K:ai):V->Option Int->Option Int->Hp->VK->Prop:=fun x lo hi H Q=>∃ a xs,x=.ref a/\SqL K H a xs/\∀ p,H p=none->Q (.ref p) (upd H p (.lst (jZ xs lo hi)))
theorem nC:SlR X (rSlL X.K):=by
 intro pins s σ H x v vl vu lo hi sl Q I rx hs pl pu h;obtain ⟨a,xs,rfl,hx,q⟩:=h
 cases rx;obtain ⟨its,r,ht,hz⟩:=I.list hx;have hlen:=r.length;refine ⟨"list",_,Jp.lookup,ht.isList.typeIs,?_⟩;refine wpAny_getItem_list_slice ht.isList hs pl pu .none (by simp) ?_ (by rw [aA] <;> omega);rw [vF,<- hlen];refine ⟨.ref s.heap.objs.size,_,I.laid (t':=s.toks) (o:=.lst (jZ xs lo hi)) (fun b ob q=>ay _ q) (aF _) ?_,rfl,q _ (I.hok.fresh (aF _))⟩;exact ⟨bC (qj xs lo hi) hz,_,0,(r.drop (HT.sIx xs.length 0 lo)).take (HT.sIx xs.length xs.length hi - HT.sIx xs.length 0 lo),bH _ rfl⟩
def oF:V->Bool
 | .non=>true
 | .bl _=>true
 | .int _=>true
 | .str _=>true
 | _=>false
def eqV:V->V->Bool
 | .non,.non=>true
 | .bl a,.bl b=>a == b
 | .bl a,.int b=>(if a then 1 else 0) == b
 | .int a,.bl b=>a == (if b then 1 else 0)
 | .int a,.int b=>a == b
 | .str a,.str b=>a == b
 | _,_=>false
theorem Ir {A:bJ} {s:ah} {y x:V} {u v:ag} (ry:RelV y u) (rx:RelV x v) (fy:oF y=true) (fx:oF x=true):SeqAt.EqAt A s u v (eqV y x):=by
 cases y with
 | non =>
  cases ry
  cases x with
  | non=>cases rx; exact SeqAt.EqAt.same _
  | bl b=>cases rx; exact SeqAt.EqAt.none_bool b
  | int b=>obtain ⟨t,rfl⟩:=rx; exact SeqAt.EqAt.none_int b t
  | str b=>obtain ⟨t,rfl⟩:=rx; exact SeqAt.EqAt.none_str b t
  | _=>exact absurd (show false=true from fx) bc
 | bl a =>
  cases ry
  cases x with
  | non=>cases rx; exact SeqAt.EqAt.bool_none a
  | bl b=>cases rx; exact SeqAt.EqAt.bool_bool a b
  | int b=>obtain ⟨t,rfl⟩:=rx; exact SeqAt.EqAt.bool_int a b t
  | str b=>obtain ⟨t,rfl⟩:=rx; exact SeqAt.EqAt.bool_str a b t
  | _=>exact absurd (show false=true from fx) bc
 | int a =>
  obtain ⟨t',rfl⟩:=ry
  cases x with
  | non=>cases rx; exact SeqAt.EqAt.int_none a t'
  | bl b=>cases rx; exact SeqAt.EqAt.int_bool a t' b
  | int b=>obtain ⟨t,rfl⟩:=rx; exact SeqAt.EqAt.int_int a t' b t
  | str b=>obtain ⟨t,rfl⟩:=rx; exact x8 a t' b t
  | _=>exact absurd (show false=true from fx) bc
 | str a =>
  obtain ⟨t',rfl⟩:=ry
  cases x with
  | non=>cases rx; exact SeqAt.EqAt.str_none a t'
  | bl b=>cases rx; exact SeqAt.EqAt.str_bool a t' b
  | int b=>obtain ⟨t,rfl⟩:=rx; exact x9 a t' b t
  | str b=>obtain ⟨t,rfl⟩:=rx; exact SeqAt.EqAt.str_str a t' b t
  | _=>exact absurd (show false=true from fx) bc
 | _=>exact absurd (show false=true from fy) bc
def eqU (x:V) (u:ag):Bool:=match u with
 | .none=>eqV .non x
 | .bool b=>eqV (.bl b) x
 | .int i _=>eqV (.int i) x
 | .str z _=>eqV (.str z) x
 | _=>false
theorem C2 {x y:V} {u:ag} (r:RelV y u) (f:oF y=true):eqU x u=eqV y x:=by
 cases y with
 | non=>cases r; rfl
 | bl b=>cases r; rfl
 | int i=>obtain ⟨t,rfl⟩:=r; rfl
 | str z=>obtain ⟨t,rfl⟩:=r; rfl
 | _=>exact absurd (show false=true from f) bc
theorem xj {x:V}:∀ {xs:List V} {us:List ag},dq xs us->xs.all oF=true->us.any (eqU x)=xs.any fun y=>eqV y x
 | _,_,.nil,_=>rfl
 | y :: xs,u :: us,.cons r t,f=>by
  rw [Iu,dA] at f;rw [jH,jH,C2 r f.1,xj t f.2]
theorem uG {A:bJ} {s:ah} {x:V} {v:ag} (rx:RelV x v) (fx:oF x=true):∀ {xs:List V} {us:List ag},dq xs us->xs.all oF=true->∀ u∈us,SeqAt.EqAt A s u v (eqU x u)
 | _,_,.nil,_=>fun u hu=>by cases hu
 | y :: xs,u :: us,.cons r t,f=>fun u' hu=>by
  rw [Iu,dA] at f
  rcases au.mp hu with rfl | hu
  ·rw [C2 r f.1]; exact Ir r rx f.1 fx
  ·exact uG rx fx t f.2 u' hu
def inV (x:V) (xs:List V):Bool:=xs.any fun y=>eqV y x
def rIn (K:ai) (neg:Bool):R2:=fun x y H Q=>∃ p xs,y=.ref p/\(SqL K H p xs\/SqT K H p xs)/\oF x=true/\xs.all oF=true/\Q (.bl (if neg then !inV x xs else inV x xs)) H
theorem sQ:OpR X (dF .In) (rIn X.K false):=by
 intro pins s σ H x y v u Q I rx ry h;obtain ⟨p,xs,rfl,hq,fx,fs,q⟩:=h
 cases ry
 rcases hq with hq | hq
 ·obtain ⟨its,r,pl,hz⟩:=I.list hq;refine SeqAt.in_listAt (eqU x) pl.isList (fun w hw=>uG rx fx r fs w (by simpa using hw)) ⟨.bl _,H,I,rfl,?_⟩;rw [show its.toArray.any (eqU x)=its.any (eqU x) by simp,xj r fs];exact q
 ·obtain ⟨its,r,pl,hz⟩:=I.tuple hq;refine SeqAt.in_tupleAt (eqU x) pl (fun w hw=>uG rx fx r fs w (by simpa using hw)) ⟨.bl _,H,I,rfl,?_⟩;rw [show its.toArray.any (eqU x)=its.any (eqU x) by simp,xj r fs];exact q
theorem xk:l8 X (.builtin "len") (fun xs H Q=>∃ p ys,xs=[.ref p]/\(SqL X.K H p ys\/SqT X.K H p ys)/\Q (.int ys.length) H):=by
 intro pins s σ H xs us Q I r h;obtain ⟨p,ys,rfl,hq,q⟩:=h;obtain ⟨u,rfl,rx⟩:=vals1 r
 cases rx;have hn:=ra
 rcases hq with hq | hq
 ·obtain ⟨its,r',pl,hz⟩:=I.list hq;have hlen:=r'.length;exact Calls.call_len_list pl.isList (by simp only [aA] <;> omega) ⟨.int ys.length,H,I.tok _,⟨s.toks + 1,by rw [aA,hlen]⟩,q⟩
 ·obtain ⟨its,r',pl,hz⟩:=I.tuple hq;have hlen:=r'.length;exact len_tuple pl (by simp only [aA] <;> omega) ⟨.int ys.length,H,I.tok _,⟨s.toks + 1,by rw [aA,hlen]⟩,q⟩
theorem i8:l8 X (.builtin "len") (fun xs H Q=>∃ z,xs=[.str z]/\z.length<=ax/\Q (.int z.length) H):=by
 intro pins s σ H xs us Q I r h;obtain ⟨z,rfl,hz,q⟩:=h;obtain ⟨u,rfl,t,rfl⟩:=vals1 r;have hn:=ra;exact len_str (by omega) ⟨.int z.length,H,I.tok _,⟨_,rfl⟩,q⟩
theorem vG:l8 X (.type "tuple") (fun xs H Q=>∃ p ys,xs=[.ref p]/\((SqL X.K H p ys/\∀ l,H l=none->Q (.ref l) (upd H l (.tup ys)))\/(SqT X.K H p ys/\Q (.ref p) H))):=by
 intro pins s σ H xs us Q I r h;obtain ⟨p,ys,rfl,h⟩:=h;obtain ⟨u,rfl,rx⟩:=vals1 r
 cases rx
 rcases h with ⟨hq,q⟩ | ⟨hq,q⟩
 ·obtain ⟨its,r',pl,hz⟩:=I.list hq;have hlen:=r'.length;refine call_tuple_list pl.isList (fun h' kp=>?_) (by simp only [aA] <;> omega);have I1:Inv X pins σ H {s with heap:=h'}:=I.kept (t':=s.toks) kp;have I2:Inv X pins σ (upd H h'.objs.size (.tup ys)) {s with heap:=h'.push {cls:=.type "tuple",data:=.seq its.toArray}}:=
   I1.laid (t':=s.toks) (fun b o e=>ay _ e) (aF _) (show gj X.prog X.w _ _ _ (.tup ys) from ⟨hz,its,r',CW _ _⟩)
  exact ⟨.ref h'.objs.size,_,I2,rfl,q _ (I1.hok.fresh (aF _))⟩
 ·obtain ⟨its,r',pl,hz⟩:=I.tuple hq;exact call_tuple_same pl ⟨.ref p,H,I,rfl,q⟩
def tyV (K:ai) (T:String) (x:V) (H:Hp):Prop:=match x with
 | .str _=>T="str"
 | .int _=>T="int"
 | .ref p=>(T="list"/\∃ xs,SqL K H p xs)\/(T="tuple"/\∃ o,K.lookup p=some o/\o.cls=.type "tuple"/\o.dict=none) \/
   (T="dict"/\((∃ kvs,H p=some (.dK kvs))\/∃ kvs,H p=some (.dT kvs)))\/(T="set"/\∃ S n,H p=some (.set S n))
 | _=>False
theorem zT {pins:List (aj×Obj)} {σ:St} {H:Hp} {s:ah} {T:String} {x:V} {v:ag} (I:Inv X pins σ H s) (r:RelV x v) (ty:tyV X.K T x H) :
  s.TypeIs v T/\∀ a,v=.ref a->∃ ob,s.heap.get? a=some ob/\ob.dict=none:=by
 cases x with
 | str z =>
  obtain ⟨t,rfl⟩:=r
  cases (show T="str" from ty);exact ⟨mj s z t,fun _ e=>nomatch e⟩
 | int i =>
  obtain ⟨t,rfl⟩:=r
  cases (show T="int" from ty);exact ⟨typeIs_int s i t,fun _ e=>nomatch e⟩
 | ref p =>
  cases r
  rcases ty with ⟨rfl,xs,hq⟩ | ⟨rfl,o,hk,hc,hd⟩ | ⟨rfl,hk⟩ | ⟨rfl,S,n,hk⟩
  ·obtain ⟨its,_,pl,_⟩:=I.list hq;refine ⟨pl.isList.typeIs,fun a e=>?_⟩
   cases e;obtain ⟨o,n,e,c,hd,_⟩:=pl;exact ⟨o,e,hd⟩
  ·refine ⟨⟨o,I.kIn p o hk,hc⟩,fun a e=>?_⟩
   cases e;exact ⟨o,I.kIn _ o hk,hd⟩
  ·have z:∃ o,s.heap.get? p=some o/\o.ExactDict:=by
    rcases hk with ⟨kvs,hk⟩ | ⟨kvs,hk⟩
    ·obtain ⟨_,_,_,_,o,_,_,e,ex,_⟩:=I.hok p _ hk;exact ⟨o,e,ex⟩
    ·obtain ⟨_,_,_,_,o,_,_,e,ex,_⟩:=I.hok p _ hk;exact ⟨o,e,ex⟩
   obtain ⟨o,e,ex⟩:=z;refine ⟨⟨o,e,ex.1⟩,fun a e2=>?_⟩
   cases e2;exact ⟨o,e,ex.2.1⟩
  ·obtain ⟨o,_,_,_,e,ex,_⟩:=I.hok p _ hk;refine ⟨⟨o,e,ex.1⟩,fun a e2=>?_⟩
   cases e2;exact ⟨o,e,ex.2.1⟩
 | _=>exact cL ty
def tBM0 (K:ai) (T:String) (r:V->List V->Hp->VK->Prop) (to:TE):TE:=fun σ H Q=>to σ H fun x H1=>tyV K T x H1/\r x [] H1 Q
def tBM (K:ai) (T:String) (r:V->List V->Hp->VK->Prop) (to:TE) (t:TA):TE:=fun σ H Q=>to σ H fun x H1=>tyV K T x H1/\t σ H1 fun xs H2=>r x xs H2 Q
variable {o e:cA} {es:List cA} {to:TE} {t:TA} {name:Str} {apos cpos:Pos} {T id:String} {r:V->List V->Hp->VK->Prop}
theorem C3 (pa:Iv T) (slot:Slot T name id) (hty:Iw (.builtin id)=pure (.type "method_descriptor")) (hm:MtR X id r) (ho:PE X o to)
  (hbase:jm o name X.env (d6 o X.env)=d6 o X.env:=by rfl) (hline:(apos.endLine == cpos.line)=true:=by rfl):PE X (.Call (.Attribute o name apos) [] [] cpos) (tBM0 X.K T r to):=by
 intro pins s σ H Q I h;refine wpAny_Call_method0_late hbase hline (thn (ho pins s σ H _ I h) fun v s1 ⟨x,H1,I1,r1,ty,q1⟩=>?_);obtain ⟨h1,h2⟩:=zT I1 r1 ty;exact ⟨T,id,pa,slot,hty,h1,h2,yw rfl (PySem.evalArgs_none (hm pins s1 σ H1 x [] v [] Q I1 r1 .nil q1))⟩
theorem d9 (pa:Iv T) (slot:Slot T name id) (hty:Iw (.builtin id)=pure (.type "method_descriptor")) (hm:MtR X id r) (ho:PE X o to) (ha:PA X (e :: es) t)
  (hbase:jm o name X.env (d6 o X.env)=d6 o X.env:=by rfl)
  (hfew:((fg cpos (bM (e :: es) X.env)).all (fun x=>!x.1) && (qO cpos (kC [] X.env)).all (fun x=>x.1.isSome)
   && decide ((e :: es).length + ([]:List rh).length + (if ([]:List rh).isEmpty then 0 else 1) < 30))=true:=by rfl)
  (hline:(apos.endLine == cpos.line)=true:=by rfl) (hs:bM (e :: es) X.env=(false,d6 e X.env) :: bM es X.env:=by rfl) (hplain:(fg cpos (bM es X.env)).any (·.1)=false:=by rfl) :
  PE X (.Call (.Attribute o name apos) (e :: es) [] cpos) (tBM X.K T r to t):=by
 intro pins s σ H Q I h;refine wpAny_Call_method_late hbase hfew hline rfl (thn (ho pins s σ H _ I h) fun v s1 ⟨x,H1,I1,r1,ty,q1⟩=>?_);obtain ⟨h1,h2⟩:=zT I1 r1 ty;refine ⟨T,id,pa,slot,hty,h1,h2,?_⟩;have hA:=ha cpos pins s1 σ H1 _ I1 q1;rw [hs] at hA |-;refine yw (by show (false || (fg cpos (bM es X.env)).any (·.1))=false; rw [hplain] <;> rfl) (k7 ?_);exact thn hA fun us s2 ⟨vs,H2,I2,r2,q2⟩=>hm pins s2 σ H2 x vs v us Q I2 r1 r2 q2
end
def MtM (X:Cx) (id:String) (r:V->List V->Hp->VK->Prop):Prop:=
 ∀ (pins:List (aj×Obj)) (s:ah) (σ:St) (H:Hp) (x:V) (xs:List V) (v:ag) (us:List ag) (Q:VK),Inv X pins σ H s->RelV x v->dq xs us->r x xs H Q ->
  aY (aM X.prog X.w) X.A (rO (.builtin id) (v :: us)) (EP X pins σ Q) X.xe s
theorem dq.one:∀ {x:V} {us:List ag},dq [x] us->∃ u,us=[u]/\RelV x u
 | _,_,.cons r .nil=>⟨_,rfl,r⟩
theorem dq.zero:∀ {us:List ag},dq [] us->us=[]
 | _,.nil=>rfl
theorem dq.dropLast {xs:List V} {us:List ag} (h:dq xs us):dq xs.dropLast us.dropLast:=by
 induction h with
 | nil=>exact .nil
 | cons r t ih =>
  cases t with
  | nil=>exact .nil
  | cons q t'=>exact .cons r ih
theorem dq.eraseIdx:∀ {xs:List V} {us:List ag} (i:Nat),dq xs us->dq (xs.eraseIdx i) (us.eraseIdx i)
 | _,_,_,.nil=>.nil
 | _,_,0,.cons _ t=>t
 | _,_,i + 1,.cons r t=>.cons r (dq.eraseIdx i t)
theorem dq.reverse {xs:List V} {us:List ag} (h:dq xs us):dq xs.reverse us.reverse:=by
 induction h with
 | nil=>exact .nil
 | cons r t ih=>rw [gk,gk]; exact dq.append ih (.cons r .nil)
theorem zU {α:Type} (l:List α):l.eraseIdx (l.length - 1)=l.dropLast:=by
 induction l with
 | nil=>rfl
 | cons a r ih =>
  cases r with
  | nil=>rfl
  | cons b r =>
   have e:(a :: b :: r).length - 1=((b :: r).length - 1) + 1:=by
    have h1:(a :: b :: r).length=r.length + 2:=rfl;have h2:(b :: r).length=r.length + 1:=rfl;omega
   rw [e,List.eraseIdx_cons_succ,ih]
   all_goals rfl
section
variable {X:Cx} {pins:List (aj×Obj)} {σ:St} {H:Hp} {s:ah} {l b:aj} {xs ys zs:List V}
theorem Inv.lset {its its':List ag} {n:Nat} {f:Array ag->Array ag} {t':Nat} (I:Inv X pins σ H s) (hH:H l=some (.lst xs))
  (e:s.heap.get? l=some {cls:=.type "list",data:=.seq its.toArray n}) (hf:f its.toArray=its'.toArray) (hv:dq ys its') (hz:ys.length<=ax) :
  Inv X pins σ (upd H l (.lst ys)) {s with heap:=s.heap.update l (j0 f),toks:=t'}:=by
 have q:=PySem.IsL.update e f;rw [hf] at q;refine I.write (x:=l) (e:=l) (by rw [hH]; exact trivial) (.inl rfl) (fun b' u hb hu=>(c9 s.heap (j0 f) (eU hb)).trans hu) ⟨_,q⟩ ?_;exact ⟨hz,its',_,hv,q⟩
theorem Inv.lnew {its:List ag} {t':Nat} (I:Inv X pins σ H s) (hv:dq ys its) (hz:ys.length<=ax) :
  Inv X pins σ (upd H s.heap.objs.size (.lst ys)) {s with heap:=s.heap.push {cls:=.type "list",data:=.seq its.toArray},toks:=t'}:=
 I.laid (fun _ _ q=>ay _ q) (aF _) ⟨hz,its,0,hv,bH _ rfl⟩
theorem Inv.fresh (I:Inv X pins σ H s):H s.heap.objs.size=none:=I.hok.fresh (aF _)
theorem Inv.lstM (I:Inv X pins σ H s) (hH:H l=some (.lst xs)):xs.length<=ax/\∃ (its:List ag) (n:Nat),dq xs its/\xs.length=its.length/\s.heap.get? l=some {cls:=.type "list",data:=.seq its.toArray n}:=by
 obtain ⟨z,its,n,r,e⟩:=I.hok l _ hH;exact ⟨z,its,n,r,r.length,e⟩
theorem C4 {n:Nat} (h:n<=ax):lW n=false:=by
 unfold lW;exact decide_eq_false (by omega)
end
section
variable {X:Cx}
inductive AppI (x:V) (vs:List V) (H:Hp) (Q:VK):Prop where
 | mk (l:aj) (xs:List V) (y:V) (hx:x=.ref l) (hv:vs=[y]) (h:H l=some (.lst xs)) (n:xs.length < ax) (q:Q .non (upd H l (.lst (xs++[y])))):AppI x vs H Q
def E8:V->List V->Hp->VK->Prop:=fun x vs H Q=>AppI x vs H Q
theorem dR:MtM X "list.append" E8:=by
 intro pins s σ H x vs v us Q I rx rv h;obtain ⟨l,xs,y,rfl,rfl,hH,hz,q⟩:=h
 cases rx;obtain ⟨u,rfl,ru⟩:=rv.one;obtain ⟨z,its,n,r,hl,e⟩:=I.lstM hH;refine o9 F.slot_list_append ⟨_,e,rfl⟩ F.entry_list_append (F.args_list_append_2 _ _) (PySem.list_append l its.toArray n u (by rw [aA]; omega)) ⟨e,?_⟩;refine ⟨.non,_,I.lset (its':=its++[u]) hH e (by simp) (r.append (.cons ru .nil)) ?_,rfl,q⟩;rw [ae,kJ];omega
def E9:V->List V->Hp->VK->Prop:=fun x vs H Q=>∃ l b xs zs,x=.ref l/\vs=[.ref b]/\H l=some (.lst xs)/\H b=some (.lst zs)/\xs.length + zs.length<=ax/\Q .non (upd H l (.lst (xs++zs)))
theorem oG:MtM X "list.extend" E9:=by
 intro pins s σ H x vs v us Q I rx rv h;obtain ⟨l,b,xs,zs,rfl,rfl,hH,hB,hz,q⟩:=h
 cases rx;obtain ⟨u,rfl,ru⟩:=rv.one
 cases ru;obtain ⟨z,its,n,r,hl,e⟩:=I.lstM hH;obtain ⟨z2,its2,n2,r2,hl2,e2⟩:=I.lstM hB;have hsz:its.toArray.size + its2.toArray.size<=ax:=by rw [aA,aA]; omega
 have hlong:¬ (!its.toArray.isEmpty && lW (its.toArray.size + its2.toArray.size))=true:=by
  rw [C4 hsz,jo];exact bc
 refine o9 F.slot_list_extend ⟨_,e,rfl⟩ F.entry_list_extend (F.args_list_extend_2 _ _)
  (AutoSeq1.list_extend_list_list_0 l its.toArray n b its2.toArray n2 hlong (by rw [aA]; omega) (by omega)) ⟨e,e2,?_⟩
 refine ⟨.non,_,I.lset (its':=its++its2) hH e (by simp) (r.append r2) ?_,rfl,q⟩;rw [ae];omega
def rPop:V->List V->Hp->VK->Prop:=fun x vs H Q=>∃ l xs y,x=.ref l/\vs=[]/\H l=some (.lst xs)/\xs[xs.length - 1]?=some y/\Q y (upd H l (.lst xs.dropLast))
theorem C5:MtM X "list.pop" rPop:=by
 intro pins s σ H x vs v us Q I rx rv h;obtain ⟨l,xs,y,rfl,rfl,hH,hy,q⟩:=h
 cases rx;have hus:=rv.zero;subst hus;obtain ⟨z,its,n,r,hl,e⟩:=I.lstM hH;obtain ⟨u,hu,ru⟩:=r.get hy;have hy':its.toArray[its.toArray.size - 1]?=some u:=by
  show its.toArray[its.length - 1]?=some u;rw [<- kD,<- hl];exact hu
 refine o9 F.slot_list_pop ⟨_,e,rfl⟩ F.entry_list_pop (F.args_list_pop_1 _) (MeetsSeq.list_pop_last l its.toArray n u hy' (by rw [aA]; omega)) ⟨e,?_⟩;refine ⟨y,_,I.lset (its':=its.dropLast) hH e ?_ r.dropLast ?_,ru,q⟩
 ·show its.toArray.eraseIdxIfInBounds (its.toArray.size - 1)=its.dropLast.toArray;rw [aA,List.eraseIdxIfInBounds_toArray,zU]
 ·rw [List.length_dropLast];omega
def rCat:R2:=fun x y H Q=>∃ l b xs zs,x=.ref l/\y=.ref b/\H l=some (.lst xs)/\H b=some (.lst zs)/\xs.length + zs.length<=ax/\∀ p,H p=none->Q (.ref p) (upd H p (.lst (xs++zs)))
theorem j3:OpR X (jE .Add) rCat:=by
 intro pins s σ H x y v u Q I rx ry h;obtain ⟨l,b,xs,zs,rfl,rfl,hH,hB,hz,q⟩:=h
 cases rx
 cases ry;obtain ⟨z,its,n,r,hl,e⟩:=I.lstM hH;obtain ⟨z2,its2,n2,r2,hl2,e2⟩:=I.lstM hB;refine PySem.P.add_list e e2 ?_ (by rw [aA,aA]; omega);have ea:its.toArray++its2.toArray=(its++its2).toArray:=by simp
 rw [ea];exact ⟨.ref _,_,I.lnew (t':=s.toks) (r.append r2) (by rw [ae]; omega),rfl,q _ I.fresh⟩
end
section
variable {prog:aS} {w:bN} {A:bJ} {E:ag->ah->Prop} {s:ah}
end
section
variable {X:Cx}
end
end L2
namespace Att
open PySem PySem.W PySem.Calls PyProof.Rows
theorem ints_of_wellAll {P:Params} {h:cI}:∀ (ns:List Int) (vs:List ag),WellAll P h vs (ns.map WData.int)->C6 vs ns:=by
 intro ns
 induction ns with
 | nil =>
  intro vs w;rw [zx] at w
  cases w;exact .nil
 | cons n ns ih =>
  intro vs w;rw [bu] at w
  cases w with
  | cons a b =>
   cases a;exact .cons _ _ (ih _ b)
theorem script_of {l:OpenLaw} {n:Nat} (hn:l.most=some n) {P:Params} {h:cI} {args:List WData} {vals:List ag}
  (hpre:l.row.toRowW.claim.pre args=true) (hwl:WellAll P h vals args) :
  ∃ a vs ns,vals=[Value.ref a]/\args=[WData.list (ns.map WData.int)]/\h.get? a=some {cls:=.type "list",data:=.seq vs.toArray}/\C6 vs ns/\ns.length<=n:=by
 have hsh:WShape.hasAll [] args [.list .int]=true:=(Iy hpre).1;have hc:l.pre.holds [] {args:=args}=true:=(Iy hpre).2;obtain ⟨d,r,rfl,h1,h2⟩:=hasAllW_cons hsh;obtain rfl:=hasAllW_nil h2;obtain ⟨xs,rfl,h3⟩:=hasW_list h1;obtain ⟨ns,rfl⟩:=items_int h3;have hlen:ns.length<=n:=by
  unfold OpenLaw.pre at hc;have h4:(WTm.not (.lt (.lit (.int (n:Int))) (.len (.arg 0)))).holds [] {args:=[.list (ns.map .int)]}=true:=by
   have h4:=(holds_andW hc).1;rw [hn] at h4;exact h4
  have h5:=condW_of h4 (w_not (w_lt w_lit (w_len_list (w_arg rfl))));rw [aa] at h5;refine Nat.le_of_not_lt fun q=>?_;have q':(n:Int) < ((ns.length:Nat):Int):=by omega
  first
   |(rw [decide_eq_true q'] at h5; exact absurd h5 (by decide))
   |(simp at h5; omega)
 cases hwl with
 | cons w1 w2 =>
  cases w2
  cases w1 with
  | list ho hall=>exact ⟨_,_,ns,rfl,rfl,ho,ints_of_wellAll ns _ hall,hlen⟩
theorem post_true (l:OpenLaw) (args:List WData):l.row.toRowW.claim.post args (.bool true) args=true:=
 postW_of (r:=l.row.toRowW) (X:=(true == true))
  (show Jq [] (.bool true) .bool=true by first | rfl | decide | simp [Jq,WShape.arms,WShape.armsAll])
  (show (WTm.eq .res (.lit (.bool true))).value [] {args:=args,res:=some (.bool true),after:=args}=some (.bool (true == true)) from w_eq_bool (w_res rfl) w_lit) rfl
section
variable {prog:aS} {w:bN} {A:bJ} {E:ag->ah->Prop} {s:ah} {K:Frag}
end
end Att
namespace L2
open PySem PySem.Spec PyProof.Rows
theorem wj:∀ {vs:List ag} {ns:List Int},C6 vs ns->dq (ns.map V.int) vs
 | _,_,.nil=>.nil
 | _,_,.cons n t h=>.cons ⟨t,rfl⟩ (wj h)
def Only (H:Hp):Prop:=∀ b,H b=none\/∃ o xs,H b=some (.frz o (.lst xs))
def qA (s:dw) (j:Nat):dw:=match s with
 | .ClassDef _ _ _ body _ _ _ _ _ _ _=>body.getD j (.Pass ⟨0,0,0,0⟩)
 | _=>.Pass ⟨0,0,0,0⟩
def lI (s:dw):Arguments:=match s with
 | .FunctionDef _ a _ _ _ _ _ _ _ _=>a
 | _=>{posonlyargs:=[],args:=[],vararg:=none,kwonlyargs:=[],kw_defaults:=[],kwarg:=none,defaults:=[]}
def jz (s:dw):List dw:=match s with
 | .FunctionDef _ _ b _ _ _ _ _ _ _=>b
 | _=>[]
def bf (s:dw):kB:=match s with
 | .FunctionDef _ _ _ _ _ _ sc _ _ _=>sc
 | _=>{kind:=.function,names:=[],isGenerator:=false,isCoroutine:=false}
abbrev CX0:CXT:=fun _ _ _ _ _ _=>False
abbrev E0:XK:=fun _ _ _=>False
theorem bQ {X:Cx}:nZ CX0 X E0:=fun _ _ _ _ _ _ _ h=>h.elim
structure Fun (K:ai) (x qual:Str) (st:dw) (f:aj) (fd:cf):Prop where
 ex:∃ (oc:ag) (od:Option aj) (kV doc pm:ag) (an:Option aj) (cdv ct:ag) (osl:Array (Option ag)),
  fd=eY x qual (lI st) (jz st) (bf st) .none kV doc pm an cdv ct/\K.lookup f=some ⟨oc,od,.func fd,osl⟩/\jY K cdv qual=true
 kp:dZ K (.ref f)=true
section
variable {P:aS} {w:bN} {K:ai} {mg:Str->Option ag} {base:cI}
theorem Fun.ok {x qual:Str} {st:dw} {f:aj} {fd:cf} {N ps:List Str} {k:Nat} {sp:Sp} (F:Fun K x qual st f fd) (S:cH N ps (bf st)) (len:∀ vs H Q E,sp vs H Q E->vs.length=ps.length)
  (hbody:∀ (cdv:ag) (A:bJ) (outer:List Env) (s:ah) (H:Hp) (vs:List V) (Q:VK) (E:XK),dE k (A.deeper (qi qual (bf st) s.heap.objs.size f cdv))->sp vs H Q E ->
   ∃ t,PSs (tR CX0 P w K mg base N qual (bf st) f cdv A outer s H E).nox (jz st) t/\t {nx:=fun _ H'=>Q .non H',rt:=Q} (start N vs) H):cQ P w K mg base CX0 (k + 1) f fd ps sp:=by
 obtain ⟨oc,od,kV,doc,pm,an,cdv,ct,osl,rfl,lk,hcd⟩:=F.ex;refine fn_of lk hcd S len fun A outer s H vs Q E hr hsp=>?_;obtain ⟨t,h,q⟩:=hbody cdv A outer s H vs Q E hr hsp;exact ⟨t,h.nox,q⟩
theorem Fun.binds {x qual:Str} {st:dw} {f:aj} {fd:cf} {ps:List Str} (F:Fun K x qual st f fd)
  (h:∀ (kV doc pm:ag) (an:Option aj) (cdv ct:ag) (us:List ag),us.length=ps.length->vD (eY x qual (lI st) (jz st) (bf st) .none kV doc pm an cdv ct) ⟨us,[]⟩=pure (ps.zip us)):Binds K fd ps []:=by
 obtain ⟨oc,od,kV,doc,pm,an,cdv,ct,osl,rfl,lk,hcd⟩:=F.ex;exact .all (h kV doc pm an cdv ct)
theorem C7 {x qual:Str} {st:dw} {f:aj} {oc:ag} {od an:Option aj} {osl:Array (Option ag)} {kV doc pm cdv ct:ag} (l:K.lookup f=some ⟨oc,od,.func (eY x qual (lI st) (jz st) (bf st) .none kV doc pm an cdv ct),osl⟩)
  (c:jY K cdv qual=true) (k:dZ K (.ref f)=true):Fun K x qual st f (eY x qual (lI st) (jz st) (bf st) .none kV doc pm an cdv ct):=⟨⟨oc,od,kV,doc,pm,an,cdv,ct,osl,rfl,l,c⟩,k⟩
end
theorem hu_of {A:bJ} {k:Nat} (hr:dE k A):A.units + 1 < gp:=Nat.lt_of_le_of_lt (Nat.add_le_add_left (by decide:1<=64) _) hr.units
section
variable {X:Cx}
theorem pv (i:Nat) {x:Str} {pos:Pos} (hN:X.N[i]?=some x:=by rfl) (hv:Vis X.env.scope x:=by first | exact Or.inl rfl | exact Or.inr (Or.inl rfl) | exact Or.inr (Or.inr rfl)) (hd:(x == ("__debug__":Str))=false:=by decide)
  (hcd:(x == ("__classdict__":Str))=false:=by decide):PE X (.Name x pos) (kH i):=HV hN hv hd hcd
end
theorem du {A B:Prop} (h:B):if false=true then A else B:=by
 rw [if_neg bc];exact h
theorem cV {A B:Prop} (h:A):if true=true then A else B:=by
 rw [if_pos rfl];exact h
theorem Iz {c A B:Prop} [Decidable c] (h1:c->A) (h2:¬ c->B):if c then A else B:=by
 by_cases h:c
 ·rw [if_pos h];exact h1 h
 ·rw [if_neg h];exact h2 h
def cB (H H':Hp):Prop:=∀ b o,H b=some o->H' b=some o
theorem cB.refl (H:Hp):cB H H:=fun _ _ h=>h
theorem cB.trans {H H1 H2:Hp} (a:cB H H1) (b:cB H1 H2):cB H H2:=fun c o h=>b c o (a c o h)
theorem cB.free {H H':Hp} (e:cB H H') {l:aj} (h:H' l=Option.none):H l=Option.none:=by
 cases q:H l with
 | none=>rfl
 | some o =>
  rw [e l o q] at h
  cases h
section
variable {κ:Type} [DecidableEq κ]
def vH (kvs:List (κ×V)) (k:κ):Option V:=(kvs.find? fun kv=>decide (kv.1=k)).map (·.2)
def yx (kvs:List (κ×V)) (k:κ) (v:V):List (κ×V):=
 if (kvs.any fun kv=>decide (kv.1=k))=true then kvs.map (fun kv=>if kv.1=k then (kv.1,v) else kv) else kvs++[(k,v)]
theorem yy {p:κ×V} {r:List (κ×V)} {k:κ} (e:p.1=k):vH (p :: r) k=some p.2:=by simp [vH,jP,e]
theorem yz {p:κ×V} {r:List (κ×V)} {k:κ} (e:¬ p.1=k):vH (p :: r) k=vH r k:=by simp [vH,jP,e]
theorem yA (kvs:List (κ×V)) (k:κ) (v:V):(yx kvs k v).length<=kvs.length + 1:=by
 unfold yx
 split
 ·rw [aa]; omega
 ·rw [ae,aE,iJ]; omega
theorem KV.val {kvs:List (κ×V)} {vs:List (κ×ag)} (r:KV kvs vs) (k:κ):rK (vH kvs k) (pR vs k):=by
 unfold KV at r
 induction r with
 | nil=>exact True.intro
 | @cons p q ps qs h t ih =>
  obtain ⟨h1,h2⟩:=h
  by_cases e:p.1=k
  ·have e':q.1=k:=h1.symm.trans e;have b:pR (q :: qs) k=some q.2:=by simp [pR,jP,e']
   rw [yy e,b]; exact h2
  ·have e':¬ q.1=k:=fun z=>e (h1.trans z);have b:pR (q :: qs) k=pR qs k:=by simp [pR,jP,e']
   rw [yz e,b]; exact ih
theorem KV.any {kvs:List (κ×V)} {vs:List (κ×ag)} (r:KV kvs vs) (k:κ):(kvs.any fun kv=>decide (kv.1=k))=vs.any fun kv=>decide (kv.1=k):=by
 unfold KV at r
 induction r with
 | nil=>rfl
 | cons h t ih=>rw [jH,jH,ih,h.1]
theorem KV.repl {kvs:List (κ×V)} {vs:List (κ×ag)} (r:KV kvs vs) (k:κ) {y:V} {u:ag} (ry:RelV y u) :
  KV (kvs.map fun kv=>if kv.1=k then (kv.1,y) else kv) (vs.map fun kv=>if kv.1=k then (kv.1,u) else kv):=by
 unfold KV at r |-
 induction r with
 | nil=>exact .nil
 | @cons p q ps qs h t ih =>
  rw [bu,bu];refine .cons ?_ ih;obtain ⟨h1,h2⟩:=h
  by_cases e:p.1=k
  ·rw [if_pos e,if_pos (h1.symm.trans e)]; exact ⟨h1,ry⟩
  ·rw [if_neg e,if_neg (fun z=>e (h1.trans z))]; exact ⟨h1,h2⟩
theorem KV.put {kvs:List (κ×V)} {vs:List (κ×ag)} (r:KV kvs vs) (k:κ) {y:V} {u:ag} (ry:RelV y u):KV (yx kvs k y) (stored vs k u):=by
 unfold yx stored;rw [r.any k]
 by_cases e:(vs.any fun kv=>decide (kv.1=k))=true
 ·rw [if_pos e,if_pos e]; exact r.repl k ry
 ·rw [if_neg e,if_neg e]; exact Paired.snoc r ⟨rfl,ry⟩
end
theorem C8 {P:aS} {w:bN} {k:Key} {u:ag} (r:RelV (kV k) u):(gL P w).is k u=true:=by
 cases k with
 | inl i=>obtain ⟨t,e⟩:=(show ∃ t,u=Value.int i t from r); subst e; exact yi P w i t
 | inr x=>obtain ⟨t,e⟩:=(show ∃ t,u=Value.str x t from r); subst e; exact yj P w x t
theorem wm {P:aS} {w:bN}:∀ {ks:List Key} {us:List ag},dq (ks.map kV) us->ItemsAre (gL P w) ks us
 | [],_,r=>by rw [zx] at r; cases r; exact .nil
 | k :: ks,_,r=>by
  rw [bu] at r
  cases r with
  | cons h t=>exact .cons (C8 h) (wm t)
abbrev KT (H:Hp):List (List Key×V)->List (List Key×aj×ag)->Prop:=cK fun p q=>p.1=q.1/\H q.2.1=some (.tup (p.1.map kV))/\RelV p.2 q.2.2
theorem KT.val {H:Hp} {kvs:List (List Key×V)} {xs:List (List Key×aj×ag)} (r:KT H kvs xs) (k:List Key):rK (vH kvs k) ((Fb xs k).map (·.2)):=by
 induction r with
 | nil=>exact True.intro
 | @cons p q ps qs h t ih =>
  obtain ⟨h1,_,h2⟩:=h
  by_cases e:p.1=k
  ·have e':q.1=k:=h1.symm.trans e;have b:Fb (q :: qs) k=some q.2:=by simp [Fb,jP,e']
   rw [yy e,b]; exact h2
  ·have e':¬ q.1=k:=fun z=>e (h1.trans z);have b:Fb (q :: qs) k=Fb qs k:=by simp [Fb,jP,e']
   rw [yz e,b]; exact ih
section
variable {P:aS} {w:bN} {H:Hp} {h:cI} {a:aj}
theorem Gs {u:HO} (ok:HOk P w H h) (e:Rd H a u):gj P w H h a u:=e.ok ok
theorem C9 {kvs:List (Key×V)} (ok:HOk P w H h) (e:Rd H a (.dK kvs)):kvs.length<=ax/\(a == fw)=false/\∃ vs,KV kvs vs/\h.DictOf (gL P w) a vs:=
 show gj P w H h a (.dK kvs) from Gs ok e
theorem dk_of {kvs:List (Key×V)} (ok:HOk P w H h) (e:H a=some (.dK kvs)):kvs.length<=ax/\(a == fw)=false/\∃ vs,KV kvs vs/\h.DictOf (gL P w) a vs:=C9 ok (.inl e)
theorem Da {ks:List Key} (ok:HOk P w H h) (e:H a=some (.tup (ks.map kV))):(Cm (gL P w)).is h ks a:=by
 obtain ⟨_,its,r,o,h1,h2,n,h3⟩:=(show gj P w H h a (.tup (ks.map kV)) from ok a _ e);exact ⟨o,its.toArray,n,h1,h2,h3,by simpa using wm r⟩
theorem Gu {kvs:List (List Key×V)} (ok:HOk P w H h) (e:Rd H a (.dT kvs)):kvs.length<=ax/\(a == fw)=false /\
  ∃ xs,KT H kvs xs/\h.DictOfH (Cm (gL P w)) a xs:=by
 obtain ⟨z,y,xs,r,o,es,ep,h1,h2,h3,h4,h5⟩:=(show gj P w H h a (.dT kvs) from Gs ok e);refine ⟨z,y,xs,r,o,es,ep,h1,h2,h3,h4,fun x hx=>?_,h5⟩;have all:∀ {l:List (List Key×V)} {m:List (List Key×aj×ag)},KT H l m->∀ x∈m,(Cm (gL P w)).is h x.1 x.2.1:=by
  intro l m q
  induction q with
  | nil=>intro x hx; exact nomatch hx
  | @cons p q ps qs hq t ih =>
   intro x hx
   rcases au.mp hx with e | hx
   ·subst e;exact Da ok (by rw [<- hq.1]; exact hq.2.1)
   ·exact ih x hx
 exact all r x hx
end
def IA (H:Hp) (a:aj) (y:V) (r:Option V):Prop:=
 (∃ kvs k,Rd H a (.dK kvs)/\y=kV k/\r=vH kvs k)\/∃ kvs k b,Rd H a (.dT kvs)/\y=.ref b/\H b=some (.tup (k.map kV))/\r=vH kvs k
section
variable {X:Cx} {pins:List (aj×Obj)} {σ:St} {H:Hp} {s:ah} {a:aj} {y v:V} {u r:ag} {o:Option V} {A:bJ} {E:ag->ah->Prop}
theorem Inv.big (I:Inv X pins σ H s):fw < s.heap.objs.size:=by
 have h:bF < s.heap.objs.size:=(I.mod.glob.keeps I.bk).lt;exact tT (by decide) h
theorem BE {Q:ag->ah->Prop} (hu:A.units + 1 < gp) (I:Inv X pins σ H s) (g:IA H a y (some v)) (ry:RelV y u) (h:∀ w' s',Inv X pins σ H s'->RelV v w'->Q w' s') :
  aY (aM X.prog X.w) A (rj (.ref a) u) Q E s:=by
 rcases g with ⟨kvs,k,e,ey,l⟩ | ⟨kvs,k,b,e,ey,eb,l⟩
 ·subst ey;obtain ⟨z,hd,vs,rel,dd⟩:=C9 I.hok e;obtain ⟨w',hw,rw'⟩:=rK.some_of (v:=v) (o:=pR vs k) (by rw [l]; exact rel.val k);exact wpAny_getItem_of (C8 ry) dd.mapOf hw (h w' _ (I.tok _) rw')
 ·subst ey
  cases (show u=Value.ref b from ry);obtain ⟨z,hd,xs,rel,dd⟩:=Gu I.hok e;obtain ⟨w',hw,rw'⟩:=rK.some_of (v:=v) (o:=(Fb xs k).map (·.2)) (by rw [l]; exact rel.val k);obtain ⟨p,hp,hp2⟩:=c8.mp hw;refine wpAny_getItem_heap (tupleKind_room_in1 hu) (Da I.hok eb) dd hp ?_;rw [hp2];exact h w' _ (I.tok _) rw'
theorem Fc {h':cI} {t':Nat} {ob:HO} (I:Inv X pins σ H s) (mu:Mut (H a)) (hs:mQ a s.heap h') (he:∃ q,h'.get? a=some q) (new:gj X.prog X.w (upd H a ob) h' a ob) :
  Inv X pins σ (upd H a ob) {s with heap:=h',toks:=t'}:=
 I.write (x:=a) (e:=a) mu (.inl rfl) (fun b q hb z=>(hs.2 b hb).trans z) he new
theorem IB {P:aS} {w:bN} {H':Hp} {h':cI} {kvs:List (Key×V)} {vs:List (Key×ag)} (z:kvs.length<=ax) (hd:(a == fw)=false) (rel:KV kvs vs) (dd:h'.DictOf (gL P w) a vs) :
  gj P w H' h' a (.dK kvs):=⟨z,hd,vs,rel,dd⟩
end
section
variable {X:Cx} {pins:List (aj×Obj)} {σ:St} {H:Hp} {s:ah} {a:aj} {kvs:List (Key×V)} {k:Key} {u:ag} {A:bJ} {E:ag->ah->Prop}
end
def NoSl (i:cA):Prop:=∀ ov iv,yd i false ov iv=Jo [ov,iv] (rj ov iv)
theorem Fd {prog:aS} {w:bN} {A:bJ} {E:ag->ah->Prop} {s:ah} {env:Env} {value slice:cA} {pos:Pos} {T id:String} {Q:ag->ah->Prop}
  (hl:uF (.type T) "__getitem__"=pure (some (.builtin id))) (hs:NoSl slice)
  (h:aY (aM prog w) A (d6 value env) (fun o s₁=>aY (aM prog w) A (d6 slice env) (fun i s₂=>s₂.TypeIs o T/\aY (aM prog w) A (rj o i) Q E s₂) E s₁) E s) :
  aY (aM prog w) A (d6 (.Subscript value slice pos) env) Q E s:=by
 refine Iq (cg h (fun o s₁ h₁=>cg h₁ (fun i s₂ h₂=>?_) fun _ _ x=>x) fun _ _ x=>x);obtain ⟨hT,h₂⟩:=h₂;unfold BD;refine af ?_;rw [getitemInPython_of_ne hT.not_modules];refine af (rF hT hl ?_);have fin:aY (aM prog w) A (yd slice false o i) (fun r s₃=>aY (aM prog w) A (letTemporaryGo value o r >>= fun _=>pure r) Q E s₃) E s₂:=by
  rw [hs o i];exact wpAny_operating (cg h₂ (fun r s₃ h₃=>af (wpAny_letTemporaryGo (av h₃))) fun _ _ x=>x)
 first
  | exact av (af fin)
  | exact af (av (af fin))
  | exact af fin
theorem yB {X:Cx} {pins:List (aj×Obj)} {σ:St} {H:Hp} {s:ah} {a:aj} {y:V} {o:Option V} (I:Inv X pins σ H s) (g:IA H a y o):s.TypeIs (.ref a) "dict":=by
 rcases g with ⟨kvs,k,e,_,_⟩ | ⟨kvs,k,b,e,_,_,_⟩
 ·obtain ⟨_,_,vs,_,dd⟩:=C9 I.hok e;exact dd.typeIs
 ·obtain ⟨_,_,xs,_,dd⟩:=Gu I.hok e;exact dd.typeIs
inductive DGI (x y:V) (H:Hp) (Q:VK):Prop where
 | mk (a:aj) (v:V) (hx:x=.ref a) (d:IA H a y (some v)) (q:Q v H):DGI x y H Q
def tDGet (td ty:TE):TE:=fun σ H Q=>td σ H fun x H1=>ty σ H1 fun y H2=>DGI x y H2 Q
section
variable {X:Cx} {o i e value:cA} {pos pos' tpos:Pos} {td ty tv:TE}
theorem Fe (hu:X.A.units + 1 < gp) (ho:PE X o td) (hi:PE X i ty) (hs:NoSl i):PE X (.Subscript o i pos) (tDGet td ty):=by
 intro pins s σ H Q I h;refine Fd PySem.F.slot_dict_getitem.lookup hs (thn (ho pins s σ H _ I h) fun u s1 ⟨x,H1,I1,rx,q1⟩=>thn (hi pins s1 σ H1 _ I1 q1) fun iv s2 ⟨y,H2,I2,ry,a,v,ex,g,q2⟩=>?_);subst ex;obtain rfl:u=Value.ref a:=rx;exact ⟨yB I2 g,BE hu I2 g ry fun w' s3 I3 rw'=>⟨v,H2,I3,rw',q2⟩⟩
end
theorem Dc {P:aS} {w:bN} {H:Hp} (h:cI) (hb:fw < h.objs.size):gj P w H (h.push {cls:=.type "dict",data:=.dict #[]}) h.objs.size (.dK []):=
 ⟨aR _,beq_eq_false_iff_ne.mpr (eU (br hb)),[],.nil,Heap.DictOf.new h⟩
section
variable {X:Cx} {pos:Pos}
end
def zV:List (TE×TE)->St->Hp->(List (V×V)->Hp->Prop)->Prop
 | [],_,H,Q=>Q [] H
 |(tk,tv) :: r,σ,H,Q=>tk σ H fun x H1=>tv σ H1 fun y H2=>zV r σ H2 fun ps H3=>Q ((x,y) :: ps) H3
abbrev VV:List (V×V)->List (ag×ag)->Prop:=cK fun p q=>RelV p.1 q.1/\RelV p.2 q.2
def PPs (X:Cx) (pos:Pos) (keys:List (Option cA)) (values:List cA) (trs:List (TE×TE)):Prop:=
 ∀ (pins:List (aj×Obj)) (s:ah) (σ:St) (H:Hp) (Q:List (V×V)->Hp->Prop),Inv X pins σ H s->zV trs σ H Q ->
  aY (aM X.prog X.w) X.A (evalPairs (pairTrees keys values X.env pos)) (fun vs s'=>∃ ps H',Inv X pins σ H' s'/\VV ps vs/\Q ps H') X.xe s
theorem Ff {X:Cx} {pos:Pos}:PPs X pos [] [] []:=fun pins s σ H Q I h=>pairTrees_nil_walk ⟨[],H,I,.nil,h⟩
theorem mm {X:Cx} {pos:Pos} {k v:cA} {ks:List (Option cA)} {vs:List cA} {tk tv:TE} {trs:List (TE×TE)} (hk:PE X k tk) (hv:PE X v tv) (hr:PPs X pos ks vs trs) :
  PPs X pos (some k :: ks) (v :: vs) ((tk,tv) :: trs):=fun pins s σ H Q I h =>
 pairTrees_cons_walk (thn (hk pins s σ H _ I h) fun u s1 ⟨x,H1,I1,rx,q1⟩=>thn (hv pins s1 σ H1 _ I1 q1) fun w2 s2 ⟨y,H2,I2,ry,q2⟩ =>
  thn (hr pins s2 σ H2 _ I2 q2) fun ws s3 ⟨ps,H3,I3,rel,q3⟩=>⟨(x,y) :: ps,H3,I3,.cons ⟨rx,ry⟩ rel,q3⟩)
def qk (kvs more:List (Key×V)):List (Key×V):=more.foldl (fun acc kv=>yx acc kv.1 kv.2) kvs
theorem KV.merge:∀ {more:List (Key×V)} {rs:List (Key×ag)} {kvs:List (Key×V)} {vs:List (Key×ag)},KV more rs->KV kvs vs->KV (qk kvs more) (merged vs rs):=by
 intro more rs kvs vs r;unfold KV at r
 induction r generalizing kvs vs with
 | nil=>intro q; exact q
 | @cons p q ps qs h t ih =>
  intro r0;have e:KV (yx kvs p.1 p.2) (stored vs q.1 q.2):=by
   have:=r0.put p.1 h.2;rw [<- h.1]; exact this
  exact ih e
theorem qW:∀ (more kvs:List (Key×V)),(qk kvs more).length<=kvs.length + more.length
 | [],kvs=>by show kvs.length<=kvs.length + 0; omega
 | p :: r,kvs=>by
  have h1:=qW r (yx kvs p.1 p.2);have h2:=yA kvs p.1 p.2;show (qk (yx kvs p.1 p.2) r).length<=_;rw [aE]; omega
theorem uH {P:aS} {w:bN}:∀ {kvs:List (Key×V)} {ws:List (ag×ag)},VV (kvs.map fun kv=>(kV kv.1,kv.2)) ws->∃ rs,Carries (gL P w) ws rs/\KV kvs rs
 | [],_,r=>by rw [zx] at r; cases r; exact ⟨[],True.intro,.nil⟩
 | p :: kvs,_,r=>by
  rw [bu] at r
  cases r with
  | @cons a b as bs h t =>
   obtain ⟨rs,c,q⟩:=uH (P:=P) (w:=w) t;obtain ⟨b1,b2⟩:=b;exact ⟨(p.1,b2) :: rs,⟨C8 h.1,rfl,c⟩,.cons ⟨rfl,h.2⟩ q⟩
def tDisp (trs:List (TE×TE)):TE:=fun σ H Q=>∀ p,H p=none->zV trs σ (upd H p (.dK [])) fun ps H2=>H2 p=some (.dK [])/\∃ kvs:List (Key×V),ps=kvs.map (fun kv=>(kV kv.1,kv.2))/\kvs.length<=15/\Q (.ref p) (upd H2 p (.dK (qk [] kvs)))
theorem Fg {X:Cx} {pos:Pos} {keys:List (Option cA)} {values:List cA} {trs:List (TE×TE)} (h:PPs X pos keys values trs) (hall:keys.all (·.isSome)=true) (hl:keys.length=values.length) (h0:keys≠[])
  (h15:keys.length<=15):PE X (.Dict keys values pos) (tDisp trs):=by
 intro pins s σ H Q I q;have hn:=I.hok.fresh (aF s.heap.objs.size);have I1:=I.laid (a:=s.heap.objs.size) (o:=.dK []) (h':=s.heap.push {cls:=.type "dict",data:=.dict #[]}) (t':=s.toks) (fun _ _ q=>ay _ q) (aF _) (Dc s.heap I.big);refine wpAny_Dict_walk (knd:=gL X.prog X.w) hall hl h0 h15 (thn (h pins _ σ _ _ I1 (q _ hn)) fun ws s2 ⟨ps,H2,I2,rel,e,kvs,ep,lk,q2⟩=>?_);subst ep;obtain ⟨rs,c,rk⟩:=uH (P:=X.prog) (w:=X.w) rel;obtain ⟨z,hd,vs0,r0,dd⟩:=dk_of I2.hok e
 cases r0;refine ⟨rs,c,dd,fun h' dd' hs=>⟨.ref s.heap.objs.size,_,?_,rfl,q2⟩⟩;have hz:(qk [] kvs).length<=ax:=by
  have h1:=qW kvs [];rw [iJ] at h1;rw [pO]; omega
 have he:∃ q,h'.get? s.heap.objs.size=some q:=let ⟨q,_,_,hq,_⟩:=dd'; ⟨q,hq⟩;exact Fc I2 (by rw [e]; exact True.intro) hs he (IB hz hd (rk.merge .nil) dd')
section
variable {X:Cx} {pins:List (aj×Obj)} {σ:St} {H:Hp} {s:ah} {a:aj} {y d:V} {u r:ag} {o:Option V} {A:bJ} {E:ag->ah->Prop}
end
section
variable {X:Cx} {o e f:cA} {apos cpos:Pos} {td ty tx:TE}
end
section
variable {X:Cx} {pins:List (aj×Obj)} {σ:St} {H:Hp} {s:ah} {a:aj} {kvs:List (Key×V)} {A:bJ} {E:ag->ah->Prop}
end
section
variable {X:Cx} {pins:List (aj×Obj)} {σ:St} {H:Hp} {s:ah} {a:aj} {y:V} {u:ag} {A:bJ} {E:ag->ah->Prop}
end
section
variable {X:Cx}
end
section
variable {κ:Type} [DecidableEq κ]
end
end L2
set_option maxHeartbeats 4000000
namespace L2
open PySem PySem.Spec PyProof.Rows
theorem gj.has {P:aS} {w:bN} {H:Hp} {h:cI} {a:aj} {o:HO} (x:gj P w H h a o):∃ ob,h.get? a=some ob:=by
 cases o with
 | lst xs=>obtain ⟨_,_,_,_,e⟩:=x; exact ⟨_,e⟩
 | tup xs=>obtain ⟨_,_,_,ob,e,_⟩:=x; exact ⟨_,e⟩
 | dK kvs=>obtain ⟨_,_,_,_,o,_,_,e,_⟩:=x; exact ⟨_,e⟩
 | dT kvs=>obtain ⟨_,_,_,_,o,_,_,e,_⟩:=x; exact ⟨_,e⟩
 | set S n=>obtain ⟨o,_,_,_,e,_⟩:=x; exact ⟨_,e⟩
 | ins C dx fs=>obtain ⟨_,_,_,e,_⟩:=x; exact ⟨_,e⟩
 | own y=>exact x
 | xd fs=>obtain ⟨_,⟨_,_,_,e,_⟩,_⟩:=x; exact ⟨_,e⟩
 | rng lo hi=>obtain ⟨_,_,_,e⟩:=x; exact ⟨_,e⟩
 | frz ob u=>obtain ⟨e,_⟩:=x; exact ⟨_,e⟩
 | tbl ps=>exact ⟨_,(show h.get? a=some _ from x)⟩
 | met f y=>exact ⟨_,(show h.get? a=some _ from x)⟩
 | ext φ=>obtain ⟨_,e,_⟩:=x; exact e
theorem HOk.has {P:aS} {w:bN} {H:Hp} {h:cI} (x:HOk P w H h) {b:aj} (n:H b≠none):∃ ob,h.get? b=some ob:=by
 cases z:H b with
 | none=>exact absurd z n
 | some u=>exact (x b u z).has
def FlD (B:cI) (l:List Env) (e:aj) (cls fl:ag) (h:cI):Prop:=
 B.StaysIn h/\B.get? e=none/\h.FunFrames B l/\∃ oe vs T oT ts,h.get? e=some oe/\oe.cls=cls/\oe.dict=none/\oe.data=.fields vs/\vs[1]?=some (.ref T)/\B.get? T=none/\T≠e/\h.get? T=some oT/\oT.data=.fields ts/\ts[3]?=some fl
theorem wo (o:Obj) (f:Array ag->Array ag):(o.mapFields f).dict=o.dict:=by
 obtain ⟨c,d,dt,sl⟩:=o
 cases dt <;> rfl
section
variable {M:lU} {A:bJ} {E:ag->ah->Prop} {s:ah} {B:cI} {env:Env} {outer l:List Env} {L e:aj} {cls fl:ag} {Q:Unit->ah->Prop}
theorem Dd {oe:Obj} {vs:Array ag} {head:ag} {nx:Bool} (hfr:A.frames=some (env :: outer)) (hl:s.heap.FunFrames B (env :: outer)) (hf:env.frame=some L) (he:s.heap.get? e=some oe) (hB:B.StaysIn s.heap) (hn:B.get? e=none)
  (hd:oe.data=.fields vs) (hz:1 < vs.size) (hdc:oe.dict=none) (k:∀ h',FlD B (env :: outer) e oe.cls (kX L) h'->s.heap.UpToSlots h'->Q () {s with heap:=h'}) :
  aY M A (do let a <- frameOf env; let pl <- entryPlaceOf L nx; let b <- kK head a .none (kX L) .none pl; setField (.ref e) 1 b) Q E s:=by
 have ef:e∉(env :: outer).filterMap (·.frame):=fun hm=>by
  obtain ⟨_,o,ho,q⟩:=hl.mem hm;rw [he] at ho
  cases ho;exact q vs hd
 refine af (Jr hfr hl hf fun h1 g1=>af (IC fun pl hpl=>?_));unfold kK newFields;refine af (gw ?_ (hpl.sizeOk5 _ _ _ _ _));have e1:h1.get? e=some oe:=(g1.2.1 e ef).trans he;have b1:B.StaysIn h1:=fun b o z=>(g1.2.1 b fun hm=>by rw [(hl.mem hm).1] at z; cases z).trans (hB b o z);have ne:h1.objs.size≠e:=mX (bb e1);generalize hob:({cls:=.type "traceback",dict:=none,data:=.fields ([head,.ref L,.none,kX L,.none]++(if pl.isEmpty then aJ 6 Value.none else pl)).toArray}:Obj)=ob;have e2:(h1.push ob).get? e=some oe:=ay _ e1;have t2:(h1.push ob).get? h1.objs.size=some ob:=bH h1 (by rw [<- hob]; rfl);refine pe e2 hd hz (k _ ?_ ?_)
 ·have d3:=iG hd (·.setIfInBounds 1 (Value.ref h1.objs.size));have keep:∀ b o,b≠e->h1.get? b=some o->((h1.push ob).update e (lE (·.setIfInBounds 1 (Value.ref h1.objs.size)))).get? b=some o:=fun b o q z=>by
   rw [c9 _ _ (eU q)];exact ay _ z
  refine ⟨fun b o z=>keep b o (fun q=>by rw [q,hn] at z; cases z) (b1 b o z),hn,hl.of_keeps fun b o z q=>?_,_,_,h1.objs.size,ob,_,fJ _ e2 (kP d3),EM _ _,(wo _ _).trans hdc,d3,by simp [hz],b1.fresh,ne,?_,by rw [<- hob],?_⟩
  ·obtain ⟨sl,w⟩:=g1.2.2 b o z;exact ⟨_,keep b _ (fun y=>by rw [y,he] at z; cases z; exact q vs hd) w,rfl⟩
  ·rw [c9 _ _ (eU ne)];exact t2
  ·first | (simp; done) | (rcases hpl with rfl | ⟨_,_,_,_,_,_,_,rfl⟩ <;> simp)
 ·intro b o z q;obtain ⟨sl,w⟩:=g1.2.2 b o z;refine ⟨sl,?_⟩;rw [c9 _ _ (fun y=>by rw [<- y,he] at z; cases z; exact q vs hd)];exact ay _ w
theorem qB {T:aj} {oT:Obj} {ts:Array ag} {h:cI} (hT:h.get? T=some oT) (hdT:oT.data=.fields ts) {b:aj} {o:Obj} (hb:h.get? b=some o) (q:∀ vs,o.data≠.fields vs):b≠T:=fun y=>by
 rw [y,hT] at hb
 cases hb;exact q ts hdT
theorem yC (x:FlD B l e cls fl s.heap) (k:∀ h',FlD B l e cls .none h'->s.heap.UpToSlots h'->Q () {s with heap:=h'}):aY M A (xm (.ref e) none) Q E s:=by
 obtain ⟨hB,hn,hl,oe,vs,T,oT,ts,he,hc,hdc,hd,h1,nT,Te,hT,dT,h3⟩:=x;have z3:3 < ts.size:=(gC.mp h3).1;have ot:∀ b,b≠T->(s.heap.update T (lE (·.setIfInBounds 3 ((none:Option aj).elim Value.none fun f=>kX f)))).get? b=s.heap.get? b:=fun b hb=>c9 _ _ (eU hb);unfold xm;refine af (iN he hd h1 ?_);rw [if_pos (show (Value.ref T != Value.none)=true from by simp)];refine pe hT dT z3 (k _ ⟨fun b o z=>(ot b fun y=>by rw [y,nT] at z; cases z).trans (hB b o z),hn,hl.of_keeps fun b o z q=>⟨o,(ot b (qB hT dT z q)).trans z,rfl⟩,oe,vs,T,_,_,(ot e (eU Te)).trans he,hc,hdc,hd,h1,nT,Te,fJ _ hT (kP (iG dT _)),iG dT _,by simp [z3]⟩
  fun b o z q=>⟨o.slots,(ot b (qB hT dT z q)).trans z⟩)
theorem FlD.there {h:cI} (x:FlD B l e cls fl h):∃ ob,h.get? e=some ob/\ob.cls=cls:=by
 obtain ⟨_,_,_,oe,_,_,_,_,he,hc,_⟩:=x;exact ⟨oe,he,hc⟩
end
theorem Un.left {fs stk:List aj} {H₀ H:Hp} {h₀ h h' B:cI} (u:Un fs [] H₀ H h₀ h) (hB:B.StaysIn h') (cov:∀ b o,(H b≠none\/∃ o',h₀.get? b=some o')->b∉stk->h.get? b=some o->B.get? b=some o)
  (hst:∀ b o,h₀.get? b=some o->b∈stk->b∈fs) (sl:∀ b∈fs,∀ o,h.get? b=some o->∃ sl,h'.get? b=some {o with slots:=sl}):Un fs [] H₀ H h₀ h' where
 keep:=fun b o e n hb hx=>hB b o (cov b o (.inr ⟨o,e⟩) (fun z=>hb (hst b o e z)) (u.keep b o e n hb hx))
 slot:=fun b o e n hb hx=>by
  obtain ⟨s1,e1⟩:=u.slot b o e n hb hx;obtain ⟨s2,e2⟩:=sl b hb _ e1;exact ⟨s2,e2⟩
 free:=u.free
 there:=fun b o e hx=>by
  obtain ⟨o',e'⟩:=u.there b o e hx
  by_cases hb:b∈stk
  ·obtain ⟨s2,e2⟩:=sl b (hst b o e hb) _ e';exact ⟨_,e2⟩
  ·exact ⟨o',hB b o' (cov b o' (.inr ⟨o,e⟩) hb e')⟩
 tups:=u.tups
 frzs:=u.frzs
 tbls:=u.tbls
theorem HOk.left {P:aS} {w:bN} {H:Hp} {h h' B:cI} (ok:HOk P w H h) (hB:B.StaysIn h') (cov:∀ b o,H b≠none->h.get? b=some o->B.get? b=some o):HOk P w H h':=fun a o e =>
 (ok a o e).stay (fun b u hb q=>hB b u (cov b u (by
  rcases hb with z | z
  ·rw [z,e]; simp
  ·rw [z]; simp) q)) (fun _ q=>q) (fun _ _ q=>q)
section
variable {X:Cx} {pins:List (aj×Obj)} {σ:St} {H:Hp} {s:ah} {E E':XK}
theorem Inv.oldfs (I:Inv X pins σ H s):∀ b o,X.s₀.heap.get? b=some o->b∈frs X.stack->b∈X.fs:=fun b o e hb=>by
 rcases au.mp (I.stkSub b hb) with z | z
 ·exact absurd (bg (bb e) I.ok.above) (by rw [z]; exact dz _)
 ·exact z
theorem Inv.ntr (I:Inv X pins σ H s):∀ b,H b≠none->b∉frs X.stack:=fun b hn z=>hn (I.stkFree b z)
theorem Inv.slotsOf (I:Inv X pins σ H s) {h':cI} (sm:s.heap.UpToSlots h'):∀ b∈X.fs,∀ o,s.heap.get? b=some o->∃ sl,h'.get? b=some {o with slots:=sl}:=fun b hb o e=>by
 obtain ⟨_,o',ho',hd⟩:=I.funs.mem hb;rw [e] at ho'
 cases ho';exact sm b o e hd
end
section
variable {X:Cx} {E:XK} {x:Str} {C:aj} {np cpos pos:Pos} {e₀:cA} {rest:List cA} {ta:TA} {K:ai} {h:cI}
theorem Fh {bmB:List ag} {newId:String} (X:K.In h) (q:qX K C bmB newId=true) :
  ∃ bm N nm q bs hdct sn sub ab col dd k0 k1 k2 k3 k5 mN,h.get? C=some (excClassObj nm q C N bs bm hdct sn sub ab col dd k0 k1 k2 k3 k5 newId)/\h.Ns N mN/\mN "__init__"=none/\OwnTail h bmB bm:=by
 unfold qX at q
 split at q
 ·rename_i dd cd sl ho
  split at q
  ·rename_i C' bm k0 k1 k2 k3 n k5 hm hs
   simp only [dA,beq_iff_eq,tF] at q;obtain ⟨⟨⟨⟨⟨rfl,rfl⟩,hdel⟩,ht⟩,hok⟩,hni⟩:=q;obtain ⟨nm,bs,mro,ns,qn,hd,sn,sub,ab,col,del⟩:=cd;dsimp only at hm hdel hok hni;subst hm hdel;have e:sl=#[k0,k1,k2,k3,some (.builtin n),k5]:=by
    obtain ⟨l⟩:=sl;have hs':l=[k0,k1,k2,k3,some (.builtin n),k5]:=hs;rw [hs']
   subst e;exact ⟨bm,ns,nm,qn,bs,hd,sn,sub,ab,col,dd,k0,k1,k2,k3,k5,_,X _ _ ho,.of_isNs (PySem.W.isNs_of_in X hok),PySem.W.nsMap_none_of_in X hok hni,PySem.W.tail_of_in X ht⟩
  ·cases q
 ·cases q
def ID:List ag:=[.type "ValueError",.type "Exception",.type "BaseException",.type "object"]
end
section
variable {X:Cx} {pins:List (aj×Obj)} {σ:St} {H:Hp} {s:ah} {T:aj->St->Hp->Prop}
def vI (X:Cx) (pins:List (aj×Obj)) (H:Hp) (B h:cI):Prop:=
 ∀ b o,(H b≠none\/(b∉X.ex/\∃ o',X.s₀.heap.get? b=some o')\/∃ p∈X.pn++pins,p.1=b)->b∉frs X.stack->h.get? b=some o->B.get? b=some o
theorem AQ {h h':cI} {c:aj} {v:Option ag} (x:h.IsCell c v) (sm:h.UpToSlots h'):h'.IsCell c v:=by
 obtain ⟨o,ho,hd⟩:=x;obtain ⟨sl,e⟩:=sm c o ho (fun vs q=>by rw [hd] at q; cases q);exact ⟨_,e,hd⟩
theorem Inv.landed {B h':cI} (I:Inv X pins σ H s) (hB:B.StaysIn h') (cov:vI X pins H B s.heap) (sm:s.heap.UpToSlots h'):Inv X pins σ H {s with heap:=h'}:=by
 refine ⟨I.ok,I.os,I.bare,⟨fun b o e n hb hx=>?_,fun b o e n hb hx=>?_,I.base.free,fun b o e hx=>?_,I.base.tups,I.base.frzs,I.base.tbls⟩,?_,fun x c e=>?_,I.free,I.freeC,fun p hp=>?_,I.hok.left hB (fun b o n e=>cov b o (.inl n) (I.ntr b n) e),I.len⟩
 ·exact hB b o (cov b o (.inr (.inl ⟨hx,o,e⟩)) (fun z=>hb (I.oldfs b o e z)) (I.base.keep b o e n hb hx))
 ·obtain ⟨s1,e1⟩:=I.base.slot b o e n hb hx;obtain ⟨s2,e2⟩:=I.slotsOf sm b hb _ e1;exact ⟨s2,e2⟩
 ·obtain ⟨o',e'⟩:=I.base.there b o e hx
  by_cases hb:b∈frs X.stack
  ·obtain ⟨s2,e2⟩:=I.slotsOf sm b (I.oldfs b o e hb) _ e';exact ⟨_,e2⟩
  ·exact ⟨o',hB b o' (cov b o' (.inr (.inl ⟨hx,o,e⟩)) hb e')⟩
 ·obtain ⟨m,hn,hl⟩:=I.loc;refine ⟨m,sm.ns hn,fun i x v e1 e2 e3=>?_⟩;obtain ⟨u,r,l⟩:=hl i x v e1 e2 e3;refine ⟨u,r,?_⟩
  rcases l with l | ⟨k,c,e,l⟩
  ·exact .inl l
  ·exact .inr ⟨k,c,e,AQ l sm⟩
 ·obtain ⟨v,q⟩:=I.cell x c e;exact ⟨v,AQ q sm⟩
 ·obtain ⟨e,n,l,f,d⟩:=I.pin p hp;exact ⟨hB _ _ (cov p.1 p.2 (.inr (.inr ⟨p,hp,rfl⟩)) (fun z=>(au.mp (I.stkSub _ z)).elim l f) e),n,l,f,d⟩
theorem vI.land {B h':cI} (I:Inv X pins σ H s) (hB:B.StaysIn h') (cov:vI X pins H B s.heap):vI X pins H B h':=fun b o c n e=>by
 obtain ⟨o1,e1⟩:∃ o1,s.heap.get? b=some o1:=by
  rcases c with c | ⟨hx,o',c⟩ | ⟨p,hp,rfl⟩
  ·exact I.hok.has c
  ·exact I.base.there b o' c hx
  ·exact ⟨_,(I.pin p hp).1⟩
 have e2:=hB b o1 (cov b o1 c n e1);rw [e] at e2
 cases e2;exact cov b _ c n e1
abbrev Cx.hdl (X:Cx) (ea:aj):Cx:={X with A:=X.A.mark (some (.ref ea)),calm:=false,xe:=fun _ _=>False}
theorem Inv.hdl (I:Inv X pins σ H s) (ea:aj):Inv (X.hdl ea) pins σ H s:=
 ⟨⟨I.ok.mod,I.ok.kind,I.ok.glob,I.ok.blt,I.ok.above,I.ok.inj,I.ok.has,I.ok.cab,fun z=>t9 z,I.ok.frames,I.ok.stk,I.ok.exf,I.ok.bs,I.ok.bsz,I.ok.noex,I.ok.exfs,I.ok.funs,I.ok.frf⟩,I.os,I.bare,I.base,I.loc,I.cell,I.free,I.freeC,
  I.pin,I.hok,I.len⟩
theorem Inv.unhdl {ea:aj} (ok:X.Ok) (I:Inv (X.hdl ea) pins σ H s):Inv X pins σ H s:=⟨ok,I.os,I.bare,I.base,I.loc,I.cell,I.free,I.freeC,I.pin,I.hok,I.len⟩
theorem SP.unhdl {ea:aj} {D:Ends} {f:Flow} {s':ah} (ok:X.Ok) (h:SP (X.hdl ea) pins D f s'):SP X pins D f s':=by
 cases f with
 | next=>obtain ⟨σ',H',I,q⟩:=h; exact ⟨σ',H',I.unhdl ok,q⟩
 | brk=>obtain ⟨σ',H',I,q⟩:=h; exact ⟨σ',H',I.unhdl ok,q⟩
 | cont=>obtain ⟨σ',H',I,q⟩:=h; exact ⟨σ',H',I.unhdl ok,q⟩
 | ret u=>obtain ⟨v,σ',H',I,r,q⟩:=h; exact ⟨v,σ',H',I.unhdl ok,r,q⟩
def AR (CX:CXT) (X:Cx) (E:St->XK):Prop:=∀ (pins:List (aj×Obj)) (σ:St) (H:Hp) (s:ah) (e:ag) (s':ah),Inv X pins σ H s->CX X.stack H s (E σ) e s'->X.xe e s'
def IE (sp:Sp) (E:St->XK) (t:TA):TE:=fun σ H Q=>t σ H fun vs H1=>sp vs H1 Q (E σ)
variable {CX:CXT} {k:Nat} {f:aj} {fd:cf} {ps:List Str} {sp:Sp} {E:St->XK} {x:Str} {p pos:Pos} {e:cA} {es:List cA} {t:TA}
end
theorem xo {prog:aS} {w:bN} {A:bJ} {R:ma->ah->Prop} {s:ah} {elt target iter:cA} {ifs:List cA} {scope:kB} {pos:Pos} {it acc:ag} {env:Env} (J:Nat->ah->Prop)
  (turn:∀ n s,J n s->aY (aM prog w) A (CF it) (fun r s1=>match r with
   | none=>R (.ok .next) s1
   | some v=>aY (aM prog w) A (i6 target it v) (fun _ s2=>aY (aM prog w) A (nV target env v) (fun _ s3 =>
     aY (aM prog w) A (forIn ifs true fun c r=>if r=true then do let ok <- wY c env (d6 c env); pure (ForInStep.yield ok) else pure (ForInStep.yield r)) (fun ok s4 =>
      if ok=true then aY (aM prog w) A (d6 elt env) (fun x s5=>aY (aM prog w) A (rO (.builtin "list.append") [acc,x]) (fun _ s6=>∃ m,m < n/\J m s6) (fun _ _=>False) s5) (fun _ _=>False) s4
      else ∃ m,m < n/\J m s4) (fun _ _=>False) s3) (fun _ _=>False) s2) (fun _ _=>False) s1) (fun _ _=>False) s)
  (n:Nat) (h:J n s):pQ (aM prog w) A (.compLoop (.ListComp elt [⟨target,iter,ifs,0⟩] scope pos) 0 it acc env) R s:=by
 refine codeAny_loop rfl J (fun n s hI=>?_) n h;show aY _ A ((compTurn (.ListComp elt [⟨target,iter,ifs,0⟩] scope pos) 0 it acc env).onRaise
  (fun x=>do jq x env; oa x)) _ _ s
 refine wpAny_noted ?_;rw [compTurn_list];refine af (bU (af (cg (turn n s hI) (fun r s1 h1=>?_) fun _ _ z=>z.elim)))
 cases r with
 | none=>exact av h1
 | some v =>
  refine af (cg h1 (fun _ s2 h2=>?_) fun _ _ z=>z.elim);refine af (cg h2 (fun _ s3 h3=>?_) fun _ _ z=>z.elim);refine af (cg h3 (fun ok s4 h4=>?_) fun _ _ z=>z.elim)
  cases ok with
  | false=>exact av ⟨rfl,h4⟩
  | true =>
   refine af (af (cg h4 (fun x s5 h5=>?_) fun _ _ z=>z.elim));exact af (cg h5 (fun _ s6 h6=>av (av ⟨rfl,h6⟩)) fun _ _ z=>z.elim)
theorem uI {env:Env}:∀ {names:List (Str×kY)} {x:Str},
  (names.map fun (n,k)=>if (k == NameKind.free && env.scope.kind == .function && env.kindOf n == some .cell) then (n,NameKind.cell) else (n,k)).lookup x=some .local->names.lookup x=some .local
 | [],_,h=>by simp at h
 |(n,k) :: r,x,h=>by
  have ih:=@uI env r x;rw [bu] at h;dsimp only at h
  by_cases hc:(k == NameKind.free && env.scope.kind == .function && env.kindOf n == some .cell)=true
  ·rw [if_pos hc] at h
   cases hx:x == n with
   | true=>simp [eg,hx] at h
   | false =>
    simp only [eg,hx] at h |-;exact ih h
  ·rw [if_neg hc] at h
   cases hx:x == n with
   | true =>
    simp only [eg,hx] at h |-;exact h
   | false =>
    simp only [eg,hx] at h |-;exact ih h
theorem rm {env:Env}:∀ {names:List (Str×kY)} {x:Str},
  ((names.map fun (n,k)=>if (k == NameKind.free && env.scope.kind == .function && env.kindOf n == some .cell) then (n,NameKind.cell) else (n,k)).lookup x=some .cell \/
   (names.map fun (n,k)=>if (k == NameKind.free && env.scope.kind == .function && env.kindOf n == some .cell) then (n,NameKind.cell) else (n,k)).lookup x=some .free)->names.lookup x=some .cell\/names.lookup x=some .free
 | [],_,h=>by simp at h
 |(n,k) :: r,x,h=>by
  have ih:=@rm env r x;rw [bu] at h;dsimp only at h
  by_cases hc:(k == NameKind.free && env.scope.kind == .function && env.kindOf n == some .cell)=true
  ·rw [if_pos hc] at h;have hk:k=.free:=by
    have z:=(gb.mp (gb.mp hc).1).1;exact eq_of_beq z
   cases hx:x == n with
   | true =>
    simp only [eg,hx];rw [hk];exact .inr rfl
   | false =>
    simp only [eg,hx] at h |-;exact ih h
  ·rw [if_neg hc] at h
   cases hx:x == n with
   | true =>
    simp only [eg,hx] at h |-;exact h
   | false =>
    simp only [eg,hx] at h |-;exact ih h
def ng (env:Env):List (Str×kY)->List (Str×aj)->List (Str×aj)
 | [],cs=>cs
 |(n,k) :: r,cs=>ng env r (if k=.free then (match env.cells.lookup n with | some c=>(n,c) :: cs | none=>cs) else cs)
theorem uJ {env:Env}:∀ (names:List (Str×kY)) (cs:List (Str×aj)),(∀ y∈names,y.2=.free->∃ c,env.cells.lookup y.1=some c) ->
  (forIn names cs fun x r=>(do
   if (x.2 == NameKind.free)=true then do
    let c <- cellOf env x.1
    pure (ForInStep.yield ((x.1,c) :: r))
   else pure (ForInStep.yield r):Sem (ForInStep (List (Str×aj)))))=(pure (ng env names cs):Sem (List (Str×aj)))
 | [],cs,_=>rfl
 |(n,k) :: r,cs,h=>by
  have ih:=fun cs'=>uJ r cs' (fun y hy=>h y (ar _ hy));rw [List.forIn_cons]
  by_cases hk:k=.free
  ·subst hk;obtain ⟨c,hc⟩:=h _ aw rfl;have e1:cellOf env n=pure c:=by
    unfold cellOf;rw [show env.cells.lookup n=some c from hc]
   have e2:ng env ((n,.free) :: r) cs=ng env r ((n,c) :: cs):=by
    show ng env r (if NameKind.free=.free then (match env.cells.lookup n with | some c=>(n,c) :: cs | none=>cs) else cs)=_;rw [if_pos rfl,show env.cells.lookup n=some c from hc]
   rw [e2,<- ih];simp [e1]
  ·have e2:ng env ((n,k) :: r) cs=ng env r cs:=by
    show ng env r (if k=.free then _ else cs)=_;rw [if_neg hk]
   rw [e2,<- ih];have e3:(k == NameKind.free)=false:=by
    cases k <;> first | rfl | exact absurd rfl hk
   simp [e3]
theorem uK {env:Env}:∀ {names:List (Str×kY)} {cs:List (Str×aj)} {n:Str} {c:aj},(∀ n c,cs.lookup n=some c->env.cells.lookup n=some c)->(ng env names cs).lookup n=some c->env.cells.lookup n=some c
 | [],_,_,_,h,e=>h _ _ e
 |(m,k) :: r,cs,n,c,h,e=>by
  refine uK (names:=r) (fun n' c' e'=>?_) e
  by_cases hk:k=.free
  ·rw [if_pos hk] at e'
   cases hm:env.cells.lookup m with
   | none =>
    rw [hm] at e';exact h _ _ e'
   | some d =>
    rw [hm] at e';dsimp only at e';rw [eg] at e'
    split at e'
    ·rename_i z
     rw [eq_of_beq z,hm];exact e'
    ·exact h _ _ e'
  ·rw [if_neg hk] at e';exact h _ _ e'
theorem wq {env:Env}:∀ (names:List (Str×kY)) (cs:List (Str×aj)) (n:Str),(∃ c,cs.lookup n=some c)->∃ c,(ng env names cs).lookup n=some c
 | [],_,_,h=>h
 |(m,k) :: r,cs,n,h=>by
  refine wq r _ n ?_
  by_cases hk:k=.free
  ·rw [if_pos hk]
   cases hm:env.cells.lookup m with
   | none=>exact h
   | some d =>
    dsimp only;rw [eg]
    split
    ·exact ⟨_,rfl⟩
    ·exact h
  ·rw [if_neg hk];exact h
theorem uL {env:Env}:∀ {names:List (Str×kY)} {cs:List (Str×aj)} {n:Str},(n,NameKind.free)∈names->(∃ c,env.cells.lookup n=some c)->∃ c,(ng env names cs).lookup n=some c
 | [],_,_,h,_=>by cases h
 |(m,k) :: r,cs,n,h,hc=>by
  rcases au.mp h with e | e
  ·obtain ⟨e1,e2⟩:=Prod.mk.inj e;subst e1 e2;obtain ⟨c,hc⟩:=hc;refine wq r _ n ⟨c,?_⟩;rw [if_pos rfl,hc];dsimp only;rw [eg,beq_self_eq_true]
  ·exact uL (names:=r) e hc
structure gE (X:Cx) (scope:kB) (NN:List Str):Prop where
 nocell:∀ y∈scope.names,y.2≠.cell
 kind:scope.kind=.function
 names:∀ y∈scope.names,y.2=.local->scope.names.lookup y.1=some .local
 far:∀ y∈scope.names,y.2=.free->X.env.kindOf y.1=some .cell\/X.env.kindOf y.1=some .free
 len:NN.length=X.N.length
 apart:∀ (i:Nat) (n:Str),NN[i]?=some n->scope.names.lookup n≠some .local/\(X.N[i]?=some n\/scope.names.lookup n=none)
theorem gE.open {X:Cx} {scope:kB} {NN N:List Str} {sc:kB} (hN:X.N=N) (hsc:X.env.scope=sc) (hc:∀ y∈scope.names,y.2≠.cell) (hk:scope.kind=.function) (hn:∀ y∈scope.names,y.2=.local->scope.names.lookup y.1=some .local)
  (hf:∀ y∈scope.names,y.2=.free->sc.names.lookup y.1=some .cell) (hl:NN.length=N.length) (ha:∀ p∈NN.zip N,scope.names.lookup p.1≠some .local/\(p.2=p.1\/scope.names.lookup p.1=none)):gE X scope NN where
 nocell:=hc
 kind:=hk
 names:=hn
 far:=fun y hy e=>.inl (by have z:=hf y hy e; rw [<- hsc] at z; exact z)
 len:=by rw [hN]; exact hl
 apart:=fun i n e=>by
  have lt:i < N.length:=by rw [<- hl]; exact (aQ.mp e).1
  have e2:N[i]?=some N[i]:=aN lt;have z:=ha (n,N[i]) (bS (i:=i) (by rw [List.getElem?_zip_eq_some]; exact ⟨e,e2⟩));refine ⟨z.1,?_⟩
  rcases z.2 with z | z
  ·left
   rw [hN,e2];exact congrArg some z
  ·exact .inr z
abbrev cxC (X:Cx) (scope:kB) (NL:List Str) (fp:List aj) (s₂:ah) (H₂:Hp) (C:aj):Cx:=
 {X with N:=NL,s₀:=s₂,H₀:=H₂,env:=compEnvC scope (ng X.env scope.names []) C X.env,outer:=X.stack,ex:=fp,fn:=fun _=>false,pn:=[],xe:=fun _ _=>False}
def PTs (X:Cx) (ifs:List cA) (t:TT):Prop:=
 ∀ (pins:List (aj×Obj)) (s:ah) (σ:St) (H:Hp) (Q:Bool->Hp->Prop),Inv X pins σ H s->t σ H Q ->
  aY (aM X.prog X.w) X.A (forIn ifs true fun c r=>if r=true then do let ok <- wY c X.env (d6 c X.env); pure (ForInStep.yield ok) else pure (ForInStep.yield r)) (TP X pins σ Q) X.xe s
def rT:TT:=fun _ H Q=>Q true H
theorem ic {X:Cx}:PTs X [] rT:=fun pins s σ H Q I h=>wpAny_tests_nil ⟨H,I,h⟩
def nG (n:Nat) (wi:TI) (g:TG) (tc:TT) (te:TE):TE:=fun σ H Q=>wi σ H fun J H1=>∃ W:Nat->Nat->List V->Hp->Prop,(∃ m,W 0 m [] H1)/\∀ i m ys H,W i m ys H->ys.length < ax /\
 ((J.stop i H/\∀ p,H p=none->Q (.ref p) (upd H p (.lst ys))) \/
  (J.go i H/\∃ N:List V->Hp->Prop,(∀ ys' H',N ys' H'->∃ m',m' < m/\W (i + 1) m' ys' H')/\∀ x H',J.yld i H x H'->g x (aJ n none++σ) H' fun σ2 H2=>σ2.drop n=σ/\tc σ2 H2 fun b H3 =>
   if b=true then te σ2 H3 fun y H4=>N (ys++[y]) H4 else N ys H3))
section
variable {X:Cx}
theorem rV {σ σ2:St} {n:Nat} (h:σ2.drop n=σ) (i:Nat) (v:V) (e:(aJ n none++σ)[i]?=some (some v)):σ2[i]?=some (some v):=by
 by_cases hi:i < n
 ·rw [jv (by simpa using hi),hZ,if_pos hi] at e
  cases e
 ·rw [dJ (by simpa using hi),cW] at e;rw [<- h,Ct] at e;rw [show n + (i - n)=i by omega] at e;exact e
theorem yD {elt target iter:cA} {ifs:List cA} {scope:kB} {NN:List Str} {pos pos':Pos} {wi:TI} {g:TG} {tc:TT} {te:TE} {use:Option (ag->Sem Unit)} {Qv:ag->ah->Prop} (own:List Str) (ok:gE X scope NN) (hc:X.calm=true) (hi:PI X target iter wi)
  (hg:∀ fp s₂ H₂ C,PG (cxC X scope (own++NN) fp s₂ H₂ C) target g) (ht:∀ fp s₂ H₂ C,PTs (cxC X scope (own++NN) fp s₂ H₂ C) ifs tc) (he:∀ fp s₂ H₂ C,PE (cxC X scope (own++NN) fp s₂ H₂ C) elt te)
  (hs:∀ x,gv iter X.env x=pure x) {pins:List (aj×Obj)} {s:ah} {σ:St} {H:Hp} {Q:VK} (I:Inv X pins σ H s) (h:nG own.length wi g tc te σ H Q)
  (hfin:∀ (s4:ah) (C D:aj) (H':Hp) (m:Str->Option ag),s4.heap.Ns C m->Inv X pins σ H' s4->H' C=none->C≠X.env.locals->X.s₀.heap.objs.size<=C->(∀ x c,X.env.cells.lookup x=some c->c≠C)->(∀ p∈X.pn++pins,p.1≠C)->Q (.ref D) H' ->
   zW (aM X.prog X.w) X.A X.xe use Qv (.ref D) C (.ok .next) s4) :
  aY (aM X.prog X.w) X.A (mU (.ListComp elt [⟨target,iter,ifs,0⟩] scope pos) scope X.env pos' (Js []) false (d6 iter X.env) use) Qv X.xe s:=by
 have hfr:∀ y∈scope.names,y.2=.free->∃ c,X.env.cells.lookup y.1=some c:=fun y hy e=>I.ok.has _ (ok.far y hy e);have okclos:uM scope X.env=pure (ng X.env scope.names []):=by
  unfold uM;rw [<- uJ scope.names [] hfr];simp
 have oksub:∀ n c,(ng X.env scope.names []).lookup n=some c->X.env.cells.lookup n=some c:=fun n c e=>uK (fun n c e=>by simp at e) e;have okfar:∀ n,(scope.names.lookup n=some .cell\/scope.names.lookup n=some .free)->(∃ c,(ng X.env scope.names []).lookup n=some c)/\(X.env.kindOf n=some .cell\/X.env.kindOf n=some .free):=fun n e=>by
  rcases e with e | e
  ·exact absurd rfl (ok.nocell _ (eD e))
  ·have m:=eD e;exact ⟨uL m (hfr _ m rfl),ok.far _ m rfl⟩
 refine wpAny_comprehension_free (use:=use) rfl hs okclos ok.kind ok.names (thn (hi pins s σ H _ I h) fun xv s1 h1=>thn h1 fun itv s2 h2=>?_);obtain ⟨it,fp,tn,J,H2,e,I2,T,st2,f2,W,⟨m0,w0⟩,turn⟩:=h2;subst e;have fpLt:∀ b∈fp,b < s2.heap.objs.size:=fun b hb=>by
  obtain ⟨o,e,_⟩:=T.obj _ _ st2 b hb;exact bb e
 refine gw (Fi ok.nocell (by intro y hy; simp at hy) (fun h1 hns hsb=>?_) ok.kind);dsimp only at hns hsb |-;generalize hP:s2.heap.push {cls:=.type "list",dict:=none,data:=.seq ([]:List ag).toArray}=P at hns hsb |-;have hC:P.objs.size=s2.heap.objs.size + 1:=by rw [<- hP,jk]
 have hDC:s2.heap.objs.size≠P.objs.size:=by rw [hC]; exact br (ju _)
 have leC:s2.heap.objs.size<=P.objs.size:=by rw [hC]; exact gS _
 have old:∀ b o,s2.heap.get? b=some o->h1.get? b=some o:=fun b o e =>
  hsb.extBut b o (by rw [hC]; exact br (ku (bb e))) (ay _ (hP ▸ ay _ e))
 have accAt:h1.get? s2.heap.objs.size=some {cls:=.type "list",data:=.seq ([]:List ag).toArray 0}:=hsb.extBut _ _ hDC (ay _ (hP ▸ bH _ rfl))
 -- the block's context is well made
 have okC:(cxC X scope (own++NN) fp s2 H2 P.objs.size).Ok:=by
  refine ⟨I.ok.mod,ok.kind,I.ok.glob,I.ok.blt,by show s2.heap.objs.size<=P.objs.size; omega,fun y z c a b=>I.ok.inj y z c (oksub _ _ a) (oksub _ _ b),fun y hy=>(okfar y (rm hy)).1,fun y c z _=>t9 z,I.ok.hd,I.ok.frames,.inl rfl,
   fun b hb=>⟨fun z=>?_,fun y c e=>(f2 b hb).2.2.2.2.1 y c (oksub _ _ e)⟩,I2.bs,bC I.ok.bsz I2.sz,fun b o e hb=>?_,fun b hb z=>?_,I2.stack,I2.stkFree⟩
  ·exact br (bg (fpLt b hb) leC) z
  ·rcases (f2 b hb).2.2.2.1 with q | q
   ·exact I.ok.noex b o e q
   ·exact absurd (bg (bb e) (bC I.ok.bsz q)) (dz _)
  ·rcases au.mp (I2.stkSub b z) with q | q
   ·exact (f2 b hb).2.1 q
   ·exact (f2 b hb).2.2.1 q
 have fpOk:∀ {H':Hp} {o:Obj},(∀ b∈fp,H' b=none)->∀ b∈fp,w5 (cxC X scope (own++NN) fp s2 H2 P.objs.size) [(s2.heap.objs.size,o)] H' b:=fun {H' o} hn b hb=>by
  have lt:=fpLt b hb;refine ⟨hn b hb,fun z=>?_,fun z=>okC.exfs b hb z,.inl hb,fun y c e=>(okC.exf b hb).2 y c e,fun p hp z=>?_⟩
  ·exact br (bg lt leC) z
  ·have hp':p=(s2.heap.objs.size,o):=by simpa using hp
   subst hp';exact br lt (Fj z)
 have cellNe:∀ y c,(ng X.env scope.names []).lookup y=some c->c < s2.heap.objs.size:=fun y c e=>by
  obtain ⟨v,q⟩:=I2.cell y c (oksub _ _ e);exact q.lt
 have start:Inv (cxC X scope (own++NN) fp s2 H2 P.objs.size) [] (aJ own.length none++σ) H2 {s2 with heap:=h1,toks:=s2.toks + ([]:List (Str×ag)).length}:=by
  refine ⟨okC,rfl,I2.bare,Un.kept old,⟨_,hns,fun i y v e1 e2 e3=>?_⟩,fun y c e=>?_,I2.hok.fresh (by show s2.heap.objs.size<=P.objs.size; omega),fun y c e=>I2.freeC y c (oksub _ _ e),fun p hp=>absurd (show p∈([]:List (aj×Obj)) from by simpa using hp) (by simp),I2.hok.kept old,?_⟩
  ·by_cases hi:i < own.length
   ·rw [jv (by simpa using hi),hZ,if_pos hi] at e2
    cases e2
   ·have e1n:NN[i - own.length]?=some y:=by
     have z:(own++NN)[i]?=some y:=e1;rw [dJ (by omega)] at z;exact z
    rw [dJ (by simpa using hi),cW] at e2;obtain ⟨ap1,ap2⟩:=ok.apart _ y e1n
    rcases e3 with e3 | e3
    ·exact absurd (uI e3) ap1
    ·obtain ⟨⟨c,hcl⟩,kc⟩:=okfar y (rm e3);have e1':X.N[i - own.length]?=some y:=by
      rcases ap2 with z | z
      ·exact z
      ·rcases rm e3 with q | q <;> (rw [z] at q; cases q)
     obtain ⟨m,hn,hl⟩:=I2.loc;obtain ⟨u,r,l⟩:=hl (i - own.length) y v e1' e2 (.inr kc);refine ⟨u,r,.inr ⟨e3,c,hcl,?_⟩⟩
     rcases l with ⟨l,_⟩ | ⟨_,c',e',q⟩
     ·rcases kc with kc | kc <;> (rw [l] at kc; cases kc)
     ·rw [oksub _ _ hcl] at e'
      cases e';exact q.keeps old
  ·obtain ⟨v,q⟩:=I2.cell y c (oksub _ _ e);exact ⟨v,q.keeps old⟩
  ·show (aJ own.length none++σ).length=(own++NN).length;rw [ae,ae,cW,I2.len,ok.len]
 have nDC:s2.heap.objs.size≠P.objs.size:=hDC;have nDf:s2.heap.objs.size∉frs X.stack:=fun z=>by
  rcases au.mp (I2.stkSub _ z) with q | q
  ·exact br I2.lt (Fj q)
  ·exact I2.nofs (aF _) q
 have loop:∀ s₃:ah,s₃={s2 with heap:=h1,toks:=s2.toks + ([]:List (Str×ag)).length} ->
   pQ (aM X.prog X.w) X.A (.compLoop (.ListComp elt [⟨target,iter,ifs,0⟩] scope pos) 0 (.ref it) (.ref s2.heap.objs.size) (compEnvC scope (ng X.env scope.names []) P.objs.size X.env))
    (zW (aM X.prog X.w) X.A X.xe use Qv (.ref s2.heap.objs.size) P.objs.size) s₃:=by
  rintro s₃ rfl;refine xo (fun n s'=>∃ (i:Nat) (ys:List V) (H':Hp) (its:List ag) (k:Nat),Inv (cxC X scope (own++NN) fp s2 H2 P.objs.size) [] (aJ own.length none++σ) H' s'/\tn i s'.heap/\(∀ b∈fp,H' b=none)/\H' s2.heap.objs.size=none/\dq ys its /\
   s'.heap.get? s2.heap.objs.size=some {cls:=.type "list",data:=.seq its.toArray k}/\W i n ys H') ?_ m0
   ⟨0,[],H2,[],0,start,T.keep _ _ _ st2 (fun b _ o e=>old b o e),fun b hb=>(f2 b hb).1,I2.hok.fresh (aF _),.nil,accAt,w0⟩
  rintro n s3 ⟨i,ys,H3,its,k,I3,st3,fr3,nD,rv,hD,w3⟩;have Ip:Inv (cxC X scope (own++NN) fp s2 H2 P.objs.size) [(s2.heap.objs.size,{cls:=.type "list",data:=.seq its.toArray k})] (aJ own.length none++σ) H3 s3:=I3.pins_of fun p hp=>by
   have hp':p=(s2.heap.objs.size,{cls:=.type "list",data:=.seq its.toArray k}):=by simpa using hp
   subst hp';exact ⟨hD,nD,nDC,nDf,fun v z=>by cases z⟩
  obtain ⟨hl,hw⟩:=turn i n ys H3 w3
  rcases hw with ⟨stop,fin⟩ | ⟨go,N,hN,step⟩
  ·refine thn (T.done (cxC X scope (own++NN) fp s2 H2 P.objs.size) rfl rfl rfl hc i _ s3 _ H3 _ Ip (fpOk fr3) st3 stop) fun r s4 z=>?_;obtain ⟨hr,I4⟩:=z;subst hr;obtain ⟨m,hn,_⟩:=I4.loc;have hD4:s4.heap.get? s2.heap.objs.size=some {cls:=.type "list",data:=.seq its.toArray k}:=(I4.pin _ (aT _ aw)).1;obtain ⟨h',eh'⟩:∃ h',h'=s4.heap:=⟨_,rfl⟩;have sb':∀ b o,b≠P.objs.size->s4.heap.get? b=some o->h'.get? b=some o:=fun b o hb e=>by rw [eh']; exact e
   have oldNe:∀ b o,s2.heap.get? b=some o->b≠P.objs.size/\b≠s2.heap.objs.size:=fun b o e=>by
    have lt:=bb e;exact ⟨br (bg lt leC),br lt⟩
   have trNe:∀ b u,H3 b=some u->b≠P.objs.size/\b≠s2.heap.objs.size:=fun b u e=>by
    refine ⟨fun z=>?_,fun z=>?_⟩
    ·have q:H3 P.objs.size=none:=I4.free;rw [<- z,e] at q
     cases q
    ·rw [z,nD] at e
     cases e
   have un:Un (frs X.stack) fp H2 (upd H3 s2.heap.objs.size (.lst ys)) s2.heap h':=by
    have B:=I4.base;refine ⟨fun b o e q hb hx=>sb' b o (oldNe b o e).1 (B.keep b o e q hb hx),fun b o e q hb hx=>?_,fun b o e q hx=>?_,fun b o e hx=>?_,fun b xs e=>?_,fun b o u e=>?_,fun b ps e=>?_⟩
    ·obtain ⟨sl,e1⟩:=B.slot b o e q hb hx;exact ⟨sl,sb' _ _ (oldNe b o e).1 e1⟩
    ·rw [aX (oldNe b o e).2];exact B.free b o e q hx
    ·obtain ⟨o',e1⟩:=B.there b o e hx;exact ⟨o',sb' _ _ (oldNe b o e).1 e1⟩
    ·have q:=B.tups b xs e;rw [aX (trNe _ _ q).2];exact q
    ·have q:=B.frzs b o u e;rw [aX (trNe _ _ q).2];exact q
    ·obtain ⟨more,q⟩:=B.tbls b ps e;refine ⟨more,?_⟩;rw [aX (trNe _ _ q).2];exact q
   have hok:HOk X.prog X.w (upd H3 s2.heap.objs.size (.lst ys)) h':=fun b u e=>by
    by_cases hb:b=s2.heap.objs.size
    ·subst hb;rw [ao] at e
     cases e;exact ⟨kn hl,its,k,rv,sb' _ _ nDC hD4⟩
    ·rw [aX hb] at e;refine (I4.hok b u e).stay (fun c v hc q=>sb' c v ?_ q) (fun c q=>?_) fun c xs q=>?_
     ·rcases hc with z | z
      ·rw [z];exact (trNe _ _ e).1
      ·exact (trNe _ _ z).1
     ·rw [aX (trNe _ _ q).2];exact q
     ·rw [aX (trNe _ _ q).2];exact q
   have J:=I2.call' (s':={s4 with heap:=h'}) (ch:=fp) I4.os un hok I4.bare fun b hb=>⟨(f2 b hb).2.2.2.1,(f2 b hb).2.1,(f2 b hb).2.2.2.2.1,(f2 b hb).2.2.2.2.2⟩;subst eh';refine hfin s4 P.objs.size s2.heap.objs.size (upd H3 s2.heap.objs.size (.lst ys)) m hn J ?_ ?_ ?_ (fun y c e=>?_) (fun q hq=>?_) (fin _ nD)
   ·rw [aX nDC.symm];exact I4.free
   ·exact mX (bg I2.lt leC)
   ·exact bC I2.sz leC
   ·obtain ⟨v,z⟩:=I2.cell y c e;exact br (bg z.lt leC)
   ·exact br (bg (bb (I2.pin q hq).1) leC)
  ·refine thn (T.item (cxC X scope (own++NN) fp s2 H2 P.objs.size) rfl rfl rfl hc i _ s3 _ H3 _ Ip (fpOk fr3) st3 go) fun r s4 z=>?_;obtain ⟨u,hr,h4⟩:=z;subst hr;refine thn h4 fun _ s5 z=>?_;obtain ⟨x,H5,I5,r5,y5,st5,fr5⟩:=z;have I5':=I5.pinned (fpOk fr5) (T.obj _ _ st5);refine thn (hg fp s2 H2 P.objs.size _ s5 _ H5 x u _ I5' r5 (step x H5 y5)) fun _ s6 z=>?_;obtain ⟨σ6,H6,I6,hσ,q6⟩:=z;refine thn (ht fp s2 H2 P.objs.size _ s6 σ6 H6 _ I6 q6) fun okb s7 z=>?_;obtain ⟨H7,I7,q7⟩:=z;have pinD:∀ {H8:Hp} {s8:ah},Inv (cxC X scope (own++NN) fp s2 H2 P.objs.size) ([(s2.heap.objs.size,{cls:=.type "list",data:=.seq its.toArray k})]++o6 fp s5.heap) σ6 H8 s8 ->
     s8.heap.get? s2.heap.objs.size=some {cls:=.type "list",data:=.seq its.toArray k}/\H8 s2.heap.objs.size=none:=fun I8=>by
    have z:=I8.pin (s2.heap.objs.size,{cls:=.type "list",data:=.seq its.toArray k}) (aT _ (dj _ aw));exact ⟨z.1,z.2.1⟩
   have pinF:∀ {H8:Hp} {s8:ah},Inv (cxC X scope (own++NN) fp s2 H2 P.objs.size) ([(s2.heap.objs.size,{cls:=.type "list",data:=.seq its.toArray k})]++o6 fp s5.heap) σ6 H8 s8 ->
     tn (i + 1) s8.heap/\∀ b∈fp,H8 b=none:=fun {H8 s8} I8=>by
    refine ⟨T.keep _ _ _ st5 fun b hb o e=>(I8.pin (b,o) (aT _ (aT _ (iQ hb e)))).1,fun b hb=>?_⟩;obtain ⟨o,e,_⟩:=T.obj _ _ st5 b hb;exact (I8.pin (b,o) (aT _ (aT _ (iQ hb e)))).2.1
   have len6:(aJ own.length none++σ).length=σ6.length:=by rw [I6.len,start.len]
   cases okb with
   | false =>
    have q7':N ys H7:=q7;obtain ⟨m',lt,w'⟩:=hN _ _ q7';obtain ⟨d1,d2⟩:=pinD I7;obtain ⟨p1,p2⟩:=pinF I7;have J7:Inv (cxC X scope (own++NN) fp s2 H2 P.objs.size) [] σ6 H7 s7:=I7.pins_of (fun p hp=>absurd hp (by simp));exact ⟨m',lt,i + 1,ys,H7,its,k,J7.weak len6 (rV hσ),p1,p2,d2,rv,d1,w'⟩
   | true =>
    refine thn (he fp s2 H2 P.objs.size _ s7 σ6 H7 _ I7 q7) fun v8 s8 z=>?_;obtain ⟨y,H8,I8,r8,n8⟩:=z;obtain ⟨m',lt,w'⟩:=hN _ _ n8;obtain ⟨d1,d2⟩:=pinD I8;obtain ⟨p1,p2⟩:=pinF I8;refine append_at (hsz:=by rw [aA,<- rv.length]; exact kn hl) d1 fun h9 sb hD9=>?_;have J8:Inv (cxC X scope (own++NN) fp s2 H2 P.objs.size) [] σ6 H8 s8:=I8.pins_of (fun p hp=>absurd hp (by simp));have J9:Inv (cxC X scope (own++NN) fp s2 H2 P.objs.size) [] σ6 H8 {s8 with heap:=h9}:=J8.turned (t':=s8.toks) (it:=s2.heap.objs.size) (fun b o hb e=>sb.extBut b o hb e) d2 nDC (.inr (aF _)) (fun y c e=>br (cellNe y c e)) (fun p hp=>absurd hp (by simp));refine ⟨m',lt,i + 1,ys++[y],H8,its++[v8],k + 1,J9.weak len6 (rV hσ),T.keep _ _ _ p1 (fun b hb o e=>sb.extBut b o (br (fpLt b hb)) e),p2,d2,rv.append (.cons r8 .nil),?_,w'⟩;show h9.get? _=_;rw [hD9,Dg]
 exact codeAny_compStart_list (loop _ rfl) (T.self X.A 0 _ _ _ (T.keep _ _ _ st2 (fun b _ o e=>old b o e)) (loop _ rfl))
theorem kE {elt target iter:cA} {ifs:List cA} {scope:kB} {NN:List Str} {pos:Pos} {wi:TI} {g:TG} {tc:TT} {te:TE} (own:List Str) (ok:gE X scope NN) (hc:X.calm=true) (hi:PI X target iter wi)
  (hg:∀ fp s₂ H₂ C,PG (cxC X scope (own++NN) fp s₂ H₂ C) target g) (ht:∀ fp s₂ H₂ C,PTs (cxC X scope (own++NN) fp s₂ H₂ C) ifs tc) (he:∀ fp s₂ H₂ C,PE (cxC X scope (own++NN) fp s₂ H₂ C) elt te)
  (hs:∀ x,gv iter X.env x=pure x:=by intro _; rfl):PE X (.ListComp elt [⟨target,iter,ifs,0⟩] scope pos) (nG own.length wi g tc te):=by
 intro pins s σ H Q I h;rw [eval_ListComp];refine yD (use:=none) own ok hc hi hg ht he hs I h fun s4 C D H' m hn J n1 n2 n3 n4 n5 q=>?_;exact ⟨m,hn,fun h' sb=>⟨.ref D,H',J.turned (t':=s4.toks) (it:=C) (fun b o hb e=>sb.extBut b o hb e) n1 n2 (.inr n3) n4 n5,rfl,q⟩⟩
theorem uc {elt target iter:cA} {ifs:List cA} {scope:kB} {NN:List Str} {pos pos' spos:Pos} {wi:TI} {g:TG} {tc:TT} {te:TE} {i:Nat} {x:Str} (own:List Str) (ok:gE X scope NN) (hc:X.calm=true) (hN:X.N.Nodup) (hx0:X.N[i]?=some x) (hx:Loc X.env.scope x) (hi:PI X target iter wi)
  (hg:∀ fp s₂ H₂ C,PG (cxC X scope (own++NN) fp s₂ H₂ C) target g) (ht:∀ fp s₂ H₂ C,PTs (cxC X scope (own++NN) fp s₂ H₂ C) ifs tc) (he:∀ fp s₂ H₂ C,PE (cxC X scope (own++NN) fp s₂ H₂ C) elt te)
  (hs:∀ x,gv iter X.env x=pure x:=by intro _; rfl) (hf:X.fn x=true\/X.env.scope.names.lookup x=some .local:=by first | exact .inl rfl | exact .inr rfl | assumption)
  (hsw:lZ (.ListComp elt [⟨target,iter,ifs,0⟩] scope pos) (some (.Name x pos')) spos.line X.env=pure true:=by rfl):PS X (.Assign [.Name x pos'] (.ListComp elt [⟨target,iter,ifs,0⟩] scope pos) spos) (yo (nG own.length wi g tc te) (rN i)):=by
 intro pins s σ H D I h;rw [EN _ _ _ _ hsw];refine af (bU (af ?_));show aY _ X.A (do let _ <- mU (.ListComp elt [⟨target,iter,ifs,0⟩] scope pos) scope X.env _ (Js []) false (d6 iter X.env) (some (nV (.Name x pos') X.env))) _ _ s;refine af (cg (yD (use:=some (nV (.Name x pos') X.env)) (Qv:=fun _ s'=>SP X pins D .next s') own ok hc hi hg ht he hs I h fun s4 C DD H' m hn J n1 n2 n3 n4 n5 q=>?_) (fun _ s' hq=>av (av hq)) fun _ _ e=>e);show aY _ X.A (nV (.Name x pos') X.env (.ref DD)) _ _ s4;refine vB (sJ J hN hx0 hx (show RelV (.ref DD) (.ref DD) from rfl) (fun s' J' z=>?_) hf);obtain ⟨a,sb,ha⟩:=z;have na:C≠a:=by
  rcases ha with ha | ha
  ·rw [ha];exact n2
  ·exact (n4 x a ha).symm
 refine ⟨m,hn.at' fun o e=>sb.extBut C o na e,fun h' sb2=>⟨_,H',J'.turned (t':=s'.toks) (it:=C) (fun b o hb e=>sb2.extBut b o hb e) n1 n2 (.inr n3) n4 n5,q⟩⟩
end
section
variable {K:ai} {a:aj} {xs:List V} {n:Nat} {g:TG} {tc:TT} {te:TE} {σ:St} {H:Hp} {Q:VK}
theorem qC (Pv:Nat->List V->Hp->Prop) (h0:Pv 0 [] H) (hl:∀ i ys H,i<=xs.length->Pv i ys H->SqL K H a xs/\ys.length < ax)
  (hs:∀ i x ys H,xs[i]?=some x->Pv i ys H->g x (aJ n none++σ) H fun σ2 H2=>σ2.drop n=σ/\tc σ2 H2 fun b H3=>if b=true then te σ2 H3 fun y H4=>Pv (i + 1) (ys++[y]) H4 else Pv (i + 1) ys H3)
  (hd:∀ ys H,Pv xs.length ys H->∀ p,H p=none->Q (.ref p) (upd H p (.lst ys))) :
  ∃ W:Nat->Nat->List V->Hp->Prop,(∃ m,W 0 m [] H)/\∀ i m ys H,W i m ys H->ys.length < ax/\(((Itl K a).stop i H/\∀ p,H p=none->Q (.ref p) (upd H p (.lst ys))) \/
   ((Itl K a).go i H/\∃ N:List V->Hp->Prop,(∀ ys' H',N ys' H'->∃ m',m' < m/\W (i + 1) m' ys' H')/\∀ x H',(Itl K a).yld i H x H'->g x (aJ n none++σ) H' fun σ2 H2=>σ2.drop n=σ/\tc σ2 H2 fun b H3 =>
    if b=true then te σ2 H3 fun y H4=>N (ys++[y]) H4 else N ys H3)):=by
 refine ⟨fun i m ys H=>m=xs.length - i/\i<=xs.length/\Pv i ys H,⟨xs.length,by simp,aR _,h0⟩,?_⟩;rintro i m ys H ⟨rfl,hi,p⟩;obtain ⟨q,z⟩:=hl i ys H hi p;refine ⟨z,?_⟩
 by_cases hlt:i < xs.length
 ·refine .inr ⟨⟨xs,xs[i],q,by simp [hlt]⟩,Pv (i + 1),fun ys' H' p'=>⟨xs.length - (i + 1),by omega,rfl,hlt,p'⟩,fun x H' y=>?_⟩;obtain ⟨e,y⟩:=y;subst e;exact hs i x ys _ (y xs q) p
 ·have e:i=xs.length:=by omega
  subst e;exact .inl ⟨⟨xs,q,aF _⟩,hd ys H p⟩
theorem Di (Pv:Nat->List V->Hp->Prop) (h0:Pv 0 [] H) (hl:∀ i ys H,i<=xs.length->Pv i ys H->SqT K H a xs/\ys.length < ax)
  (hs:∀ i x ys H,xs[i]?=some x->Pv i ys H->g x (aJ n none++σ) H fun σ2 H2=>σ2.drop n=σ/\tc σ2 H2 fun b H3=>if b=true then te σ2 H3 fun y H4=>Pv (i + 1) (ys++[y]) H4 else Pv (i + 1) ys H3)
  (hd:∀ ys H,Pv xs.length ys H->∀ p,H p=none->Q (.ref p) (upd H p (.lst ys))) :
  ∃ W:Nat->Nat->List V->Hp->Prop,(∃ m,W 0 m [] H)/\∀ i m ys H,W i m ys H->ys.length < ax/\(((Itt K a).stop i H/\∀ p,H p=none->Q (.ref p) (upd H p (.lst ys))) \/
   ((Itt K a).go i H/\∃ N:List V->Hp->Prop,(∀ ys' H',N ys' H'->∃ m',m' < m/\W (i + 1) m' ys' H')/\∀ x H',(Itt K a).yld i H x H'->g x (aJ n none++σ) H' fun σ2 H2=>σ2.drop n=σ/\tc σ2 H2 fun b H3 =>
    if b=true then te σ2 H3 fun y H4=>N (ys++[y]) H4 else N ys H3)):=by
 refine ⟨fun i m ys H=>m=xs.length - i/\i<=xs.length/\Pv i ys H,⟨xs.length,by simp,aR _,h0⟩,?_⟩;rintro i m ys H ⟨rfl,hi,p⟩;obtain ⟨q,z⟩:=hl i ys H hi p;refine ⟨z,?_⟩
 by_cases hlt:i < xs.length
 ·refine .inr ⟨⟨xs,xs[i],q,by simp [hlt]⟩,Pv (i + 1),fun ys' H' p'=>⟨xs.length - (i + 1),by omega,rfl,hlt,p'⟩,fun x H' y=>?_⟩;obtain ⟨e,y⟩:=y;subst e;exact hs i x ys _ (y xs q) p
 ·have e:i=xs.length:=by omega
  subst e;exact .inl ⟨⟨xs,q,aF _⟩,hd ys H p⟩
end
end L2
namespace PySem
section
variable {prog:aS} {w:bN} {A:bJ} {E:ag->ah->Prop} {s:ah}
variable {K:Type} [DecidableEq K] {knd:KeyKind prog w K}
end
end PySem
namespace L2
open PySem PySem.Spec PyProof.Rows
section
variable {X:Cx}
theorem log_small {n:Nat} (h:n < 2 ^ 64):n.log2 < 9000:=by
 by_cases z:n=0
 ·subst z;decide
 ·exact tT ((BF z).mpr h) (by decide)
def CDivB (_ j:Int):Prop:=0 < j/\j < 2 ^ 64
theorem yE:OpR X (jE .FloorDiv) (rI CDivB fun i j=>.int (i / j)):=opI fun i j _ _ _ _ _ hc q=>by
 have h1:(0:Int) < j:=hc.1;have h2:j < 2 ^ 64:=hc.2;have h3:j.natAbs < 2 ^ 64:=by omega
 exact floordiv_int (by omega) (by rw [Int.fdiv_eq_ediv_of_nonneg i (by omega)]; exact q) (.inl (PyProof.noPylong_of_log2 (log_small h3)))
end
end L2
namespace Att
open PySem PySem.W PySem.Calls PyProof.Rows
theorem weight_mem:∀ (xs:List WData) (x:WData),x∈xs->mq x<=uN xs
 | [],_,h=>by cases h
 | y :: r,x,h=>by
  unfold uN
  rcases au.mp h with e | e
  ·subst e;omega
  ·have:=weight_mem r x e;omega
theorem bits_of_lay {ns:List Int} (h:tU [WData.list (ns.map WData.int)]=true):∀ n∈ns,gP n<=1048576:=fun n hn=>by
 have h1:(WData.list (ns.map WData.int)).layable=true:=(layW_cons h).1;unfold WData.layable at h1;have h2:mq (WData.list (ns.map WData.int))<=2 ^ 20:=of_decide_eq_true (gb.mp h1).2;have h3:=weight_mem (ns.map WData.int) (WData.int n) (cO.mpr ⟨n,hn,rfl⟩);have h4:mq (WData.list (ns.map WData.int))=uN (ns.map WData.int):=by
  rw [mq]
 have h5:mq (WData.int n)=gP n:=by
  rw [mq];rfl
 have e:(2:Nat) ^ 20=1048576:=by decide
 omega
end Att
namespace L2
open PySem PySem.Spec PyProof.Rows
end L2
namespace PySem
open SeqAt MeetsSeq MeetsSeq2 MeetsSeq3 SeqRoads2
open AutoSeq1 (wpAny_loadPart')
def og (prog:aS) (w:bN) (A:bJ) (s:ah) (y x:ag):Prop:=
 ∀ (E:ag->ah->Prop) (Q:Bool->ah->Prop),Q true s->aY (aM prog w) A (eqBool y x) Q E s
def uO (prog:aS) (w:bN) (A:bJ) (s:ah) (y x:ag):Prop:=
 ∀ (E:ag->ah->Prop) (Q:ag->ah->Prop),Q (.bool true) s->aY (aM prog w) A (richCompare .Eq y x) Q E s
section
variable {prog:aS} {w:bN} {A:bJ} {s:ah}
theorem og.of_at {y x:ag} (h:EqAt A s y x true):og prog w A s y x:=fun E Q q=>h prog w E Q q
theorem og.self (v:ag):og prog w A s v v:=og.of_at (EqAt.same v)
theorem og.refs {l b:aj} (h:uO prog w A s (.ref l) (.ref b)):og prog w A s (.ref l) (.ref b):=by
 by_cases e:l=b
 ·rw [e];exact og.self _
 ·intro E Q q;unfold eqBool;refine bK (wpAny_ite_split (fun z=>?_) (fun _=>?_))
  ·exact absurd (by have z':=eq_of_beq z; injection z') e
  ·exact af (h E _ (eM q))
theorem Fk (l b:aj) (xs ys:Array ag) (n m:Nat) (dd de:Option aj) (sl sm:Array (Option ag)) (hsz:xs.size=ys.size):∀ k i:Nat,xs.size - i=k ->
  MeetsIn prog w (km.«list.__eq__.loop» ⟨[.ref l,.ref b,kX i,kX 2],[]⟩) (fun A R s =>
   s.heap.get? l=some {cls:=.type "list",dict:=dd,data:=.seq xs n,slots:=sl}/\s.heap.get? b=some {cls:=.type "list",dict:=de,data:=.seq ys m,slots:=sm} /\
   (∀ j (h1:j < xs.size) (h2:j < ys.size),og prog w A.in1 s xs[j] ys[j])/\R (.ok (.ret (.bool true))) s):=by
 intro k
 induction k with
 | zero =>
  intro i hk A R s q;obtain ⟨hp,g,d,tk,os⟩:=s;obtain ⟨q1,q2,q3,q4⟩:=q;have a1:xs[((i:Nat):Int).toNat]?=none:=by simp; omega
  have a2:ys[((i:Nat):Int).toNat]?=none:=by simp; omega
  wp_walk using eC q1,eC q2
  rw [a1,a2]
  wp_walk using eC q1,eC q2
  show R (.ok (.ret (.bool (xs.size == ys.size)))) _;rw [hsz,beq_self_eq_true];exact q4
 | succ k ih =>
  intro i hk A R s q;obtain ⟨hp,g,d,tk,os⟩:=s;obtain ⟨q1,q2,q3,q4⟩:=q;have l1:i < xs.size:=by omega
  have l2:i < ys.size:=by omega
  have a1:xs[((i:Nat):Int).toNat]?=some xs[i]:=by simp [l1]
  have a2:ys[((i:Nat):Int).toNat]?=some ys[i]:=by simp [l2]
  have e1:((i:Int) + 1)=((i + 1:Nat):Int):=by push_cast; rfl
  wp_walk using eC q1,eC q2
  rw [a1,a2];refine af (q3 i l1 l2 _ _ ?_)
  wp_walk
  rw [e1];refine ⟨qm plain_eq_loop _,rG entry_eq_loop ?_⟩;rw [i5 plain_eq_loop _];exact ih (i + 1) (by omega) A R _ ⟨q1,q2,q3,q4⟩
theorem Fl (l b:aj) (xs ys:Array ag) (n m:Nat) (dd de:Option aj) (sl sm:Array (Option ag)) (hsz:xs.size=ys.size) :
  MeetsIn prog w (km.«list.__eq__» ⟨[.ref l,.ref b],[]⟩) (fun A R s =>
   s.heap.get? l=some {cls:=.type "list",dict:=dd,data:=.seq xs n,slots:=sl}/\s.heap.get? b=some {cls:=.type "list",dict:=de,data:=.seq ys m,slots:=sm} /\
   (∀ j (h1:j < xs.size) (h2:j < ys.size),og prog w A.in1 s xs[j] ys[j])/\R (.ok (.ret (.bool true))) s):=by
 intro A R s q;obtain ⟨hp,g,d,tk,os⟩:=s;obtain ⟨q1,q2,q3,q4⟩:=q;have f1:=AutoSeq1.sub_list_list;have f2:¬ (xs.size != ys.size)=true:=by simp [hsz]
 wp_walk using eC q1,eC q2
 refine ⟨qm plain_eq_loop _,rG entry_eq_loop ?_⟩;rw [i5 plain_eq_loop _];exact Fk l b xs ys n m dd de sl sm hsz _ 0 rfl A R _ ⟨q1,q2,q3,q4⟩
theorem uO.lists {l b:aj} {xs ys:Array ag} (hl:s.heap.IsList l xs) (hb:s.heap.IsList b ys) (hsz:xs.size=ys.size) (hu:A.units < gp)
  (he:∀ j (h1:j < xs.size) (h2:j < ys.size),og prog w A.in1 s xs[j] ys[j]):uO prog w A s (.ref l) (.ref b):=fun E Q q=>by
 obtain ⟨⟨c1,dd,t1,sl⟩,o1,rfl,n,rfl⟩:=id hl;obtain ⟨⟨c2,de,t2,sm⟩,o2,rfl,m,rfl⟩:=id hb;refine zy (op:=.Eq) ⟨_,o1,rfl⟩ ⟨_,o2,rfl⟩ F.slot_list_eq (call_meetsIn F.slot_list_eq ⟨_,o1,rfl⟩ F.entry_list_eq (F.args_list_eq_2 _ _) (Fl l b xs ys n m dd de sl sm hsz) ⟨o1,o2,he,?_⟩) hu;exact ⟨fun z=>(nomatch z),q⟩
variable {K:Type} [DecidableEq K] {knd:KeyKind prog w K}
theorem pairs_at {es:List xp} {kvs:List (K×ag)} (h:Pairs knd es kvs):∀ {i:Nat} {e:xp},es[i]?=some e->∃ kv,kvs[i]?=some kv/\knd.is kv.1 e.key=true/\e.val=kv.2:=by
 induction h with
 | nil =>
  intro i e q;simp at q
 | cons a b _ ih =>
  intro i e q
  cases i with
  | zero =>
   simp at q;subst q;exact ⟨_,rfl,a,b⟩
  | succ i =>
   obtain ⟨kv,z⟩:=ih (i:=i) (by simpa using q);exact ⟨kv,by simpa using z.1,z.2⟩
theorem Dj {nm:String} {d b:aj} {kvs kws:List (K×ag)} {Q:Bool->ah->Prop} {E:ag->ah->Prop} (hd:(d == fw)=false) (hb:(b == fw)=false) (m1:s.heap.DictOf knd d kvs) (m2:s.heap.DictOf knd b kws)
  (hl:kvs.length=kws.length) (he:∀ kv∈kvs,∃ v',pR kws kv.1=some v'/\og prog w A s kv.2 v') (q:Q true s):aY (aM prog w) A (ud nm d b) Q E s:=by
 obtain ⟨o1,es,ep,h1,x1,t1,k1,p1,n1⟩:=id m1;obtain ⟨o2,fs,fp,h2,x2,t2,k2,p2,n2⟩:=id m2;have z1:es.size=kvs.length:=by rw [<- p1.length,bY]
 have z2:fs.size=kws.length:=by rw [<- p2.length,bY]
 unfold ud;unfold Builtin.Dict.showsAll;rw [if_neg (by rw [hd]; exact bc),if_neg (by rw [hb]; exact bc)];refine af (av (af (av ?_)));refine af (pU h1 t1 (af (pU h2 t2 ?_)));rw [if_neg (by rw [z1,z2,hl]; simp)];refine af (wpAny_dictEpoch h1 t1 (af ?_));rw [Gv];simp only [Gw,zX,Dk,Nat.div_one];refine wpAny_forIn_list _ (fun rest r s'=>s'=s/\r.1=none/\∃ i,rest=List.range' i (es.size - i)/\i<=es.size) _ ?_ ?_ _ _ ⟨rfl,rfl,0,by simp,aR _⟩
 ·rintro x rest ⟨r1,r2⟩ s' ⟨rfl,e1,i,hr,hi⟩;have lt:i < es.size:=by
   rcases nj i es.size with z | z
   ·exact z
   ·rw [Nat.sub_eq_zero_of_le z] at hr;simp at hr
  obtain ⟨rfl,hrest⟩:x=i/\rest=List.range' (i + 1) (es.size - (i + 1)):=by
   rw [show es.size - i=(es.size - (i + 1)) + 1 by omega,List.range'_succ] at hr;injection hr with a1 a2;exact ⟨a1,a2⟩
  obtain ⟨kv,y1,y2,y3⟩:=pairs_at p1 (i:=x) (e:=es[x]) (by simp [lt]);obtain ⟨kk,y4,y5⟩:=k1 es[x] (Array.getElem_mem lt);have y6:kk=kv.1:=knd.inj _ _ _ y4 y2;subst y6;obtain ⟨v',g1,g2⟩:=he kv (bS y1);obtain ⟨o3,fs',fp',a1,_,a2,a3,hf⟩:=m2.mapOf;rw [h2] at a1
  cases a1;rw [t2] at a2
  cases a2;rw [<- hf kv.1,findBy_of_findIdx?] at g1;refine af (pU h1 t1 ?_);rw [oi lt];dsimp only;refine af (bK (af ?_));rw [y5];refine wpAny_dictFind_of y2 h2 t2 k2 ?_
  cases hj:fs.findIdx? fun e=>knd.is kv.1 e.key with
  | none =>
   rw [hj] at g1
   cases g1
  | some j =>
   rw [hj] at g1;dsimp only at g1 |-;refine af (pU h2 t2 ?_)
   cases hx:fs[j]? with
   | none =>
    simp [hx] at g1
   | some fe =>
    have g3:fe.val=v':=by simpa [hx] using g1
    dsimp only;refine bK ?_;rw [y3,g3];refine g2 _ _ ?_;rw [if_neg (by decide)];refine af (wpAny_dictEpoch h1 t1 ?_);rw [if_neg (by simp)];exact av ⟨rfl,rfl,x + 1,hrest,lt⟩
 ·rintro ⟨r1,r2⟩ s' ⟨rfl,e1,_⟩;have e1:r1=none:=e1;subst e1;exact av q
theorem BG (d b:aj) (hd:(d == fw)=false) (hb:(b == fw)=false) :
  MeetsIn prog w (km.«dict.__eq__» ⟨[.ref d,.ref b],[]⟩) (fun A R s=>∃ kvs kws,s.heap.DictOf knd d kvs/\s.heap.DictOf knd b kws/\kvs.length=kws.length /\
   (∀ kv∈kvs,∃ v',pR kws kv.1=some v'/\og prog w A.in1 s kv.2 v')/\R (.ok (.ret (.bool true))) s):=
 .of_wp fun A R s h=>by
  obtain ⟨kvs,kws,m1,m2,hl,he,q⟩:=h;unfold km.«dict.__eq__»;show aY _ _ (sR "__eq__" ⟨[.ref d,.ref b],[]⟩ >>= _) _ _ s;refine af ?_;unfold sR;unfold Builtin.Dict.notOrdered;rw [if_neg (by decide)];refine af (av ?_);show aY _ _ (pure (Value.ref d,Value.ref b)) _ _ s;refine av ?_;dsimp only;refine af (wpAny_isInstance m2.typeIs isSubtype_dict_dict ?_);rw [if_neg (by decide)];refine af (av (af (av (af (Dj hd hb m1 m2 hl he ?_)))));exact av ⟨_,rfl,q⟩
theorem uO.dicts {d b:aj} {kvs kws:List (K×ag)} (hd:(d == fw)=false) (hb:(b == fw)=false) (m1:s.heap.DictOf knd d kvs) (m2:s.heap.DictOf knd b kws) (hl:kvs.length=kws.length) (hu:A.units < gp)
  (he:∀ kv∈kvs,∃ v',pR kws kv.1=some v'/\og prog w A.in1 s kv.2 v'):uO prog w A s (.ref d) (.ref b):=fun E Q q =>
 zy (op:=.Eq) m1.typeIs m2.typeIs F.slot_dict_eq (call_meetsIn F.slot_dict_eq m1.typeIs F.entry_dict_eq (F.args_dict_eq_2 _ _) (BG (knd:=knd) d b hd hb) ⟨kvs,kws,m1,m2,hl,he,⟨fun z=>(nomatch z),q⟩⟩) hu
end
end PySem
namespace L2
open PySem PySem.Spec PyProof.Rows PySem.SeqAt
def sc0:V->Prop
 | .int _=>True
 | .str _=>True
 | .bl _=>True
 | .non=>True
 | _=>False
def TEq (H:Hp):Nat->V->V->Prop
 | 0,x,y=>sc0 x/\x=y
 | n + 1,x,y=>(sc0 x/\x=y)\/(∃ p q xs ys,x=.ref p/\y=.ref q/\H p=some (.lst xs)/\H q=some (.lst ys)/\cK (TEq H n) xs ys) \/
   ∃ p q xs ys,x=.ref p/\y=.ref q/\H p=some (.tup xs)/\H q=some (.tup ys)/\cK (TEq H n) xs ys
def DEq (H:Hp):Nat->V->V->Prop
 | 0,x,y=>∃ n,n<=20/\TEq H n x y
 | n + 1,x,y=>(∃ n,n<=20/\TEq H n x y)\/(∃ p q xs ys,x=.ref p/\y=.ref q/\H p=some (.lst xs)/\H q=some (.lst ys)/\cK (DEq H n) xs ys) \/
   ∃ p q kvs kws,x=.ref p/\y=.ref q/\H p=some (.dK kvs)/\H q=some (.dK kws)/\cK (fun (a b:Key×V)=>a.1=b.1/\DEq H n a.2 b.2) kvs kws
section
variable {P:aS} {w:bN} {H:Hp} {s:ah}
theorem oH {R:V->V->Prop}:∀ {xs ys:List V} {us vs:List ag},cK R xs ys->dq xs us->dq ys vs->us.length=vs.length/\∀ j (h1:j < us.length) (h2:j < vs.length),∃ x y,R x y/\RelV x us[j]/\RelV y vs[j]:=by
 intro xs ys us vs p
 induction p generalizing us vs with
 | nil =>
  intro a b
  cases a
  cases b;exact ⟨rfl,fun j h1=>absurd h1 (Nat.not_lt_zero _)⟩
 | cons r rs ih =>
  intro a b
  cases a with
  | cons a as =>
  cases b with
  | cons b bs =>
  obtain ⟨e,z⟩:=ih as bs;refine ⟨by rw [aE,aE,e],fun j h1 h2=>?_⟩
  cases j with
  | zero=>exact ⟨_,_,r,a,b⟩
  | succ j=>exact z j (zY h1) (zY h2)
theorem AS {A:bJ} {x:V} {u v:ag} (h:sc0 x) (ru:RelV x u) (rv:RelV x v):EqAt A s u v true:=by
 cases x with
 | non=>cases ru; cases rv; exact EqAt.same _
 | bl b=>cases ru; cases rv; exact EqAt.same _
 | int i =>
  obtain ⟨t,rfl⟩:=ru;obtain ⟨t',rfl⟩:=rv;have z:=EqAt.int_int (A:=A) (s:=s) i t i t';rw [beq_self_eq_true] at z;exact z
 | str i =>
  obtain ⟨t,rfl⟩:=ru;obtain ⟨t',rfl⟩:=rv;have z:=EqAt.str_str (A:=A) (s:=s) i t i t';rw [beq_self_eq_true] at z;exact z
 | byt b=>exact h.elim
 | flt b=>exact h.elim
 | ref a=>exact h.elim
 | ty a=>exact h.elim
theorem fc (ok:HOk P w H s.heap) {p:aj} {xs:List V} (h:H p=some (.lst xs)):∃ us:List ag,dq xs us/\s.heap.IsList p us.toArray:=by
 obtain ⟨_,us,n,r,e⟩:=(show gj P w H s.heap p (.lst xs) from ok p _ h);exact ⟨us,r,_,e,rfl,n,rfl⟩
theorem oI (ok:HOk P w H s.heap) {p:aj} {xs:List V} (h:H p=some (.tup xs)):∃ us:List ag,dq xs us/\s.heap.IsTuple p us.toArray:=by
 obtain ⟨_,us,r,o,e,c,n,d⟩:=(show gj P w H s.heap p (.tup xs) from ok p _ h);exact ⟨us,r,o,e,c,n,d⟩
theorem rW (n:Nat):((iz n).all fun _=>true)=true:=by simp
theorem yF (ok:HOk P w H s.heap) {R:V->V->Prop} {A:bJ} {p q:aj} {xs ys:List V} (hu:A.units < gp) (h1:H p=some (.lst xs)) (h2:H q=some (.lst ys)) (r:cK R xs ys)
  (he:∀ x y u v,R x y->RelV x u->RelV y v->EqAt A.in1 s u v true):RcAt A s (.ref p) (.ref q) true:=by
 obtain ⟨us,r1,i1⟩:=fc ok h1;obtain ⟨vs,r2,i2⟩:=fc ok h2;obtain ⟨e,z⟩:=oH r r1 r2;have k:=RcAt.lists (e:=fun _=>true) i1 i2 (by simpa using e) hu (fun j a b=>by
  obtain ⟨x,y,rr,rx,ry⟩:=z j (by simpa using a) (by simpa using b);simpa using he _ _ _ _ rr rx ry)
 rw [rW] at k;exact k
theorem AU (ok:HOk P w H s.heap) {R:V->V->Prop} {A:bJ} {p q:aj} {xs ys:List V} (hu:A.units < gp) (h1:H p=some (.tup xs)) (h2:H q=some (.tup ys)) (r:cK R xs ys)
  (he:∀ x y u v,R x y->RelV x u->RelV y v->EqAt A.in1 s u v true):RcAt A s (.ref p) (.ref q) true:=by
 obtain ⟨us,r1,i1⟩:=oI ok h1;obtain ⟨vs,r2,i2⟩:=oI ok h2;obtain ⟨e,z⟩:=oH r r1 r2;have k:=RcAt.tuples (e:=fun _=>true) i1 i2 hu (fun j a b=>by
  obtain ⟨x,y,rr,rx,ry⟩:=z j (by simpa using a) (by simpa using b);simpa using he _ _ _ _ rr rx ry)
 rw [rW,IF,aA,aA,e,beq_self_eq_true] at k;exact k
theorem EqAt.of_rc {A:bJ} {l b:aj} (h:RcAt A s (.ref l) (.ref b) true):EqAt A s (.ref l) (.ref b) true:=by
 by_cases e:l=b
 ·rw [e];exact EqAt.same _
 ·exact EqAt.of_refs e h
theorem qo (ok:HOk P w H s.heap):∀ {n:Nat} {A:bJ} {x y:V} {u v:ag},A.units + n < gp->TEq H n x y->RelV x u->RelV y v->EqAt A s u v true
 | 0,A,x,y,u,v,hu,h,ru,rv=>by
  obtain ⟨h1,rfl⟩:=h;exact AS h1 ru rv
 | n + 1,A,x,y,u,v,hu,h,ru,rv=>by
  have hin:A.in1.units + n < gp:=by
   show A.units + 1 + n < gp;omega
  rcases h with ⟨h1,rfl⟩ | ⟨p,q,xs,ys,rfl,rfl,h1,h2,r⟩ | ⟨p,q,xs,ys,rfl,rfl,h1,h2,r⟩
  ·exact AS h1 ru rv
  ·cases ru
   cases rv;exact EqAt.of_rc (yF ok (by omega) h1 h2 r fun _ _ _ _ z a b=>qo ok hin z a b)
  ·cases ru
   cases rv;exact EqAt.of_rc (AU ok (by omega) h1 h2 r fun _ _ _ _ z a b=>qo ok hin z a b)
theorem uP (ok:HOk P w H s.heap) {R:V->V->Prop} {A:bJ} {p q:aj} {xs ys:List V} (hu:A.units < gp) (h1:H p=some (.lst xs)) (h2:H q=some (.lst ys)) (r:cK R xs ys)
  (he:∀ x y u v,R x y->RelV x u->RelV y v->og P w A.in1 s u v):uO P w A s (.ref p) (.ref q):=by
 obtain ⟨us,r1,i1⟩:=fc ok h1;obtain ⟨vs,r2,i2⟩:=fc ok h2;obtain ⟨e,z⟩:=oH r r1 r2;exact uO.lists i1 i2 (by simpa using e) hu (fun j a b=>by
  obtain ⟨x,y,rr,rx,ry⟩:=z j (by simpa using a) (by simpa using b);simpa using he _ _ _ _ rr rx ry)
theorem Fm {κ:Type} {R:κ×V->κ×V->Prop}:∀ {kvs kws:List (κ×V)} {us vs:List (κ×ag)},cK R kvs kws->KV kvs us->KV kws vs->us.length=vs.length/\∀ (i:Nat) (q:κ×ag),us[i]?=some q->∃ q' a b,vs[i]?=some q'/\R a b/\a.1=q.1/\b.1=q'.1/\RelV a.2 q.2/\RelV b.2 q'.2:=by
 intro kvs kws us vs p
 induction p generalizing us vs with
 | nil =>
  intro a b
  cases a
  cases b;exact ⟨rfl,fun i q h=>by simp at h⟩
 | cons r rs ih =>
  intro a b
  cases a with
  | cons a as =>
  cases b with
  | cons b bs =>
  obtain ⟨e,z⟩:=ih as bs;refine ⟨by rw [aE,aE,e],fun i q h=>?_⟩
  cases i with
  | zero =>
   simp at h;subst h;exact ⟨_,_,_,rfl,r,a.1,b.1,a.2,b.2⟩
  | succ i =>
   obtain ⟨q',x,y,h1,h2⟩:=z i q (by simpa using h);exact ⟨q',x,y,by simpa using h1,h2⟩
theorem uQ (ok:HOk P w H s.heap) {R:V->V->Prop} {A:bJ} {p q:aj} {kvs kws:List (Key×V)} (hu:A.units < gp) (h1:H p=some (.dK kvs)) (h2:H q=some (.dK kws)) (r:cK (fun (a b:Key×V)=>a.1=b.1/\R a.2 b.2) kvs kws)
  (he:∀ x y u v,R x y->RelV x u->RelV y v->og P w A.in1 s u v):uO P w A s (.ref p) (.ref q):=by
 obtain ⟨_,n1,us,k1,m1⟩:=(show gj P w H s.heap p (.dK kvs) from ok p _ h1);obtain ⟨_,n2,vs,k2,m2⟩:=(show gj P w H s.heap q (.dK kws) from ok q _ h2);obtain ⟨e,z⟩:=Fm r k1 k2;refine uO.dicts n1 n2 m1 m2 e hu fun kv hkv=>?_;obtain ⟨i,hi⟩:=List.getElem?_of_mem hkv;obtain ⟨q',a,b,g1,⟨g2,g3⟩,g4,g5,g6,g7⟩:=z i kv hi;obtain ⟨_,_,_,_,_,_,_,_,nd⟩:=id m2;have g8:vs[i]?=some (kv.1,q'.2):=by
  rw [g1,<- g4,g2,g5]
 exact ⟨q'.2,valueAt_of_get nd g8,he _ _ _ _ g3 g6 g7⟩
theorem xq (ok:HOk P w H s.heap):∀ {n:Nat} {A:bJ} {x y:V} {u v:ag},A.units + n + 20 < gp->DEq H n x y->RelV x u->RelV y v->og P w A s u v
 | 0,A,x,y,u,v,hu,h,ru,rv=>by
  obtain ⟨m,h0,h1⟩:=h;exact og.of_at (qo ok (by omega) h1 ru rv)
 | n + 1,A,x,y,u,v,hu,h,ru,rv=>by
  have hin:A.in1.units + n + 20 < gp:=by
   show A.units + 1 + n + 20 < gp;omega
  rcases h with ⟨m,h0,h1⟩ | ⟨p,q,xs,ys,rfl,rfl,h1,h2,r⟩ | ⟨p,q,kvs,kws,rfl,rfl,h1,h2,r⟩
  ·exact og.of_at (qo ok (by omega) h1 ru rv)
  ·cases ru
   cases rv;exact og.refs (uP ok (by omega) h1 h2 r fun _ _ _ _ z a b=>xq ok hin z a b)
  ·cases ru
   cases rv;exact og.refs (uQ ok (by omega) h1 h2 r fun _ _ _ _ z a b=>xq ok hin z a b)
end
section
variable {X:Cx}
theorem IG (hu:X.A.units + 50 < gp):OpR X (dF .Eq) (fun x y H Q=>∃ n p q,n<=20/\x=.ref p/\y=.ref q/\DEq H n x y/\Q (.bl true) H):=by
 intro pins s σ H x y v u Q I rx ry h;obtain ⟨n,p,q,hn,rfl,rfl,d,k⟩:=h
 cases rx
 cases ry;have fin:EP X pins σ Q (.bool true) s:=⟨.bl true,H,I,rfl,k⟩;have hu1:X.A.units < gp:=by omega
 have main:uO X.prog X.w X.A s (.ref p) (.ref q):=by
  have hin:∀ m,m<=20->X.A.in1.units + m < gp:=fun m hm=>by
   show X.A.units + 1 + m < gp;omega
  have tq:∀ m,m<=20->TEq H m (.ref p) (.ref q)->uO X.prog X.w X.A s (.ref p) (.ref q):=fun m hm t=>by
   cases m with
   | zero=>exact t.1.elim
   | succ m =>
    rcases t with ⟨h1,_⟩ | ⟨p',q',xs,ys,e1,e2,h1,h2,r⟩ | ⟨p',q',xs,ys,e1,e2,h1,h2,r⟩
    ·exact h1.elim
    ·cases e1
     cases e2;intro E Q' k';exact yF I.hok hu1 h1 h2 r (fun _ _ _ _ z a b=>qo I.hok (hin m (by omega)) z a b) X.prog X.w E Q' k'
    ·cases e1
     cases e2;intro E Q' k';exact AU I.hok hu1 h1 h2 r (fun _ _ _ _ z a b=>qo I.hok (hin m (by omega)) z a b) X.prog X.w E Q' k'
  cases n with
  | zero =>
   obtain ⟨m,hm,t⟩:=d;exact tq m hm t
  | succ n =>
   have hin2:X.A.in1.units + n + 20 < gp:=by
    show X.A.units + 1 + n + 20 < gp;omega
   rcases d with ⟨m,hm,t⟩ | ⟨p',q',xs,ys,e1,e2,h1,h2,r⟩ | ⟨p',q',kvs,kws,e1,e2,h1,h2,r⟩
   ·exact tq m hm t
   ·cases e1
    cases e2;exact uP I.hok hu1 h1 h2 r fun _ _ _ _ z a b=>xq I.hok hin2 z a b
   ·cases e1
    cases e2;exact uQ I.hok hu1 h1 h2 r fun _ _ _ _ z a b=>xq I.hok hin2 z a b
 exact main _ _ fin
theorem IH (hu:X.A.units + 50 < gp):OpR X (dF .NotEq) (fun x y H Q=>∃ n p q,n<=20/\x=.ref p/\y=.ref q/\TEq H n x y/\Q (.bl false) H):=by
 intro pins s σ H x y v u Q I rx ry h;obtain ⟨n,p,q,hn,rfl,rfl,d,k⟩:=h
 cases rx
 cases ry;have fin:EP X pins σ Q (.bool false) s:=⟨.bl false,H,I,rfl,k⟩;have hu1:X.A.units < gp:=by omega
 cases n with
 | zero=>exact d.1.elim
 | succ m =>
  have hin:X.A.in1.units + m < gp:=by
   show X.A.units + 1 + m < gp;omega
  rcases d with ⟨h1,_⟩ | ⟨p',q',xs,ys,e1,e2,h1,h2,r⟩ | ⟨p',q',xs,ys,e1,e2,h1,h2,r⟩
  ·exact h1.elim
  ·cases e1
   cases e2;obtain ⟨us,r1,i1⟩:=fc I.hok h1;obtain ⟨vs,r2,i2⟩:=fc I.hok h2;obtain ⟨e,z⟩:=oH r r1 r2;have k:=RcNeAt.lists (A:=X.A) (e:=fun _=>true) i1 i2 (by simpa using e) hu1 (fun j a b=>by
    obtain ⟨x,y,rr,rx,ry⟩:=z j (by simpa using a) (by simpa using b);simpa using qo I.hok hin rr rx ry)
   rw [rW] at k;exact k X.prog X.w _ _ fin
  ·cases e1
   cases e2;obtain ⟨us,r1,i1⟩:=oI I.hok h1;obtain ⟨vs,r2,i2⟩:=oI I.hok h2;obtain ⟨e,z⟩:=oH r r1 r2;have k:=RcNeAt.tuples (A:=X.A) (e:=fun _=>true) i1 i2 hu1 (fun j a b=>by
    obtain ⟨x,y,rr,rx,ry⟩:=z j (by simpa using a) (by simpa using b);simpa using qo I.hok hin rr rx ry)
   rw [rW,IF,aA,aA,e,beq_self_eq_true] at k;exact k X.prog X.w _ _ fin
theorem Fn {A:bJ} {k:Nat} (hr:dE k A):A.units + 50 < gp:=by
 have:=hr.un;omega
end
end L2
namespace PySem
open SeqAt MeetsSeq MeetsSeq2 MeetsSeq3 SeqRoads2
section
variable {prog:aS} {w:bN} {A:bJ} {s:ah}
variable {K:Type} [DecidableEq K] {knd:KeyKind prog w K}
end
end PySem
namespace L2
open PySem PySem.Spec PyProof.Rows PySem.SeqAt
section
variable {X:Cx}
end
end L2
namespace L2
open PySem PySem.Spec PyProof.Rows
section
variable {X:Cx}
theorem uR:∀ {ys:List Str} {us:List ag},dq (ys.map V.str) us->tG us ys
 | [],_,.nil=>.nil
 | _ :: _,_,.cons ⟨t,e⟩ r=>e ▸ .cons _ t (uR r)
def jsz (z:Str) (ys:List Str):Nat:=(ys.map fun x=>x.length).sum + ys.length * z.length
def Dl (K:ai):V->List V->Hp->VK->Prop:=fun x vs H Q=>∃ z l ys,x=.str z/\vs=[.ref l]/\(SqL K H l (ys.map V.str)\/SqT K H l (ys.map V.str))/\jsz z ys<=16777216/\Q (.str (bB z ys)) H
theorem ie:MtR X "str.join" (Dl X.K):=by
 intro pins s σ H x vs v us Q I rx rv h;obtain ⟨z,l,ys,rfl,rfl,hl,hz,q⟩:=h;obtain ⟨t,rfl⟩:=rx;obtain ⟨u,rfl,ru⟩:=rv.one
 cases ru
 rcases hl with hl | hl
 ·obtain ⟨its,r,pl,_⟩:=I.list hl;exact join_list pl.isList (by simpa using uR r) hz fun t' k=>⟨.str _,H,I.tok _,⟨_,rfl⟩,q⟩
 ·obtain ⟨its,r,pl,_⟩:=I.tuple hl;exact join_tuple pl (by simpa using uR r) hz fun t' k=>⟨.str _,H,I.tok _,⟨_,rfl⟩,q⟩
abbrev TJ:=St->Hp->Str->(Str->Hp->Prop)->Prop
def PJ (X:Cx) (es:List cA) (t:TJ):Prop:=∀ (pins:List (aj×Obj)) (s:ah) (σ:St) (H:Hp) (acc:Str) (Q:Str->Hp->Prop),Inv X pins σ H s->t σ H acc Q->∀ R:Str->ah->Prop,(∀ out s1 H1,Inv X pins σ H1 s1->Q out H1->R out s1) ->
 Joins (aM X.prog X.w) X.A X.xe (evalEach es X.env) acc R s
def jNil:TJ:=fun _ H acc Q=>Q acc H
def jStr (z:Str) (t:TJ):TJ:=fun σ H acc Q=>(acc++z).length<=ax/\t σ H (acc++z) Q
def Shown:V->Str->Prop:=fun x y=>x=.str y\/∃ i:Int,x=.int i/\i.natAbs.log2 < 1920/\y=toString i
def jVal (te:TE) (t:TJ):TJ:=fun σ H acc Q=>te σ H fun x H1=>∃ y,Shown x y/\y.length<=ax/\(acc++y).length<=ax/\t σ H1 (acc++y) Q
theorem zZ:PJ X [] jNil:=fun pins s σ H acc Q I h R k=>Joins_nil (k _ _ H I h)
theorem xr {z:Str} {j:Nat} {pos:Pos} {es:List cA} {t:TJ} (h:PJ X es t):PJ X (.Constant (.str z) j pos :: es) (jStr z t):=by
 intro pins s σ H acc Q I q R kk;exact Joins_cons (Bx ⟨_,_,rfl,q.1,h pins _ σ H _ Q (I.tok _) q.2 R kk⟩)
theorem xt {e:cA} {te:TE} {pos:Pos} {es:List cA} {t:TJ} (he:PE X e te) (h:PJ X es t):PJ X (.FormattedValue e (-1) none pos :: es) (jVal te t):=by
 intro pins s σ H acc Q I q R kk;refine Joins_cons (wpAny_FormattedValue_plain (thn (he pins s σ H _ I q) fun v s1 ⟨x,H1,I1,r1,y,sh,l1,l2,q1⟩=>?_))
 rcases sh with rfl | ⟨i,rfl,hz,rfl⟩
 ·obtain ⟨t,rfl⟩:=r1;exact formatField_str (fun t k=>⟨_,_,rfl,l2,h pins _ σ H1 _ Q (I1.tok _) q1 R kk⟩) l1
 ·obtain ⟨t,rfl⟩:=r1;exact formatField_int_small hz ⟨_,_,rfl,l2,h pins _ σ H1 _ Q (I1.tok _) q1 R kk⟩
def tJoin (t:TJ):TE:=fun σ H Q=>t σ H uA fun out H1=>out.length<=ax/\Q (.str out) H1
theorem xu {v1 v2:cA} {es:List cA} {pos:Pos} {t:TJ} (h:PJ X (v1 :: v2 :: es) t):PE X (.JoinedStr (v1 :: v2 :: es) pos) (tJoin t):=by
 intro pins s σ H Q I q;exact wpAny_JoinedStr (h pins s σ H _ _ I q _ fun out s1 H1 I1 q1=>⟨q1.1,.str out,H1,I1.tok _,⟨_,rfl⟩,q1.2⟩)
def xx (D:List (Str×Str)):List (Str×KTD.Dat):=D.map fun p=>(p.1,KTD.Dat.flat (.str p.2))
def Tab (K:ai) (a:aj) (D:List (Str×Str)):Prop:=KTD.tabLook (KTD.datLooks fun a=>K.lookup a) (fun a=>K.lookup a) a (xx D)=true
theorem wt:∀ D:List (Str×Str),((xx D).all fun p=>KTD.plain p.2)=true
 | []=>rfl
 | _ :: D=>wt D
theorem xy {k m:Str}:∀ {D:List (Str×Str)},D.lookup k=some m->xA k (xx D)=true
 | [],h=>by cases h
 |(x,y) :: D,h=>by
  by_cases c:k=x
  ·subst c;simp [xx,xA]
  ·have e:(k == x)=false:=beq_eq_false_iff_ne.mpr c;simp only [dS,e] at h;have:=xy h;simp [xx,xA] at this |-
   first | exact .inr this | simpa [c] using this
theorem yG {h₀:cI} {k m:Str} {P:ag->Prop} (q:∀ t,P (.str m t)):∀ {D:List (Str×Str)},D.lookup k=some m->KTD.EachL h₀ k P (xx D)
 | [],h=>by cases h
 |(x,y) :: D,h=>by
  by_cases c:k=x
  ·subst c;simp [dS] at h;subst h;exact KTD.eachL_hit rfl (KTD.opened_str q)
  ·have e:(k == x)=false:=beq_eq_false_iff_ne.mpr c;simp only [dS,e] at h;exact KTD.eachL_miss c (yG q h)
def rIxW (a:aj) (D:List (Str×Str)):R2:=fun x y H Q=>∃ k m,x=.ref a/\y=.str k/\D.lookup k=some m/\Q (.str m) H
theorem Dm {a:aj} {D:List (Str×Str)} (h:Tab X.K a D):IxR X (rIxW a D):=by
 intro value slice pins s σ H x y v u Q I rx ry q hs;obtain ⟨k,m,rfl,rfl,e,q⟩:=q
 cases rx;obtain ⟨t,rfl⟩:=ry;exact KTD.item_textA (h₀:=s.heap) ⟨Fp (fun b o e=>I.kIn b o e) h,fun _ _ e=>e⟩ (wt D) (xy e) (yG (fun t=>⟨.str m,H,I.tok _,⟨_,rfl⟩,q⟩) e) hs
theorem II (hu:X.A.units + 50 < gp):OpR X (dF .NotEq) (fun x y H Q=>∃ p q xs,x=.ref p/\y=.ref q/\H p=some (.lst xs)/\H q=some (.lst [])/\Q (.bl (!xs.isEmpty)) H):=by
 intro pins s σ H x y v u Q I rx ry h;obtain ⟨p,q,xs,rfl,rfl,h1,h2,k⟩:=h
 cases xs with
 | nil=>exact IH hu pins s σ H _ _ v u Q I rx ry ⟨1,p,q,by omega,rfl,rfl,.inr (.inl ⟨p,q,[],[],rfl,rfl,h1,h2,.nil⟩),k⟩
 | cons a xs =>
  cases rx
  cases ry;obtain ⟨us,r1,i1⟩:=fc I.hok h1;obtain ⟨vs,r2,i2⟩:=fc I.hok h2
  cases r2;have hl:=r1.length;exact sE i1 i2 (by
   cases us with
   | nil=>cases hl
   | cons b us=>simp) (by omega) X.prog X.w _ _ ⟨.bl true,H,I,rfl,k⟩
end
end L2
namespace PySem
open Sem (wp)
section
variable {prog:aS} {w:bN} {A:bJ} {E:ag->ah->Prop} {s:ah}
end
section
variable {prog:aS} {w:bN} {A:bJ} {R:ma->ah->Prop} {I:aj} {fp wr:List aj} {n:Nat} {P:Nat->ag->Prop} {St:Nat->cI->Prop} {G:cI->Prop}
end
section
variable {prog:aS} {w:bN} {A:bJ} {E:ag->ah->Prop} {s:ah}
end
section
variable {prog:aS} {w:bN} {K:Type} [DecidableEq K] {knd:HeapKind prog w K} {A:bJ} {E:ag->ah->Prop} {s:ah}
end
section
variable {prog:aS} {w:bN} {A:bJ} {E:ag->ah->Prop} {s:ah}
end
end PySem
namespace HT
open PySem PyProof.Rows
open PySem.SeqAt
open PySem.AutoSeq1 (wpAny_loadPart')
open PySem.MeetsSeq PySem.MeetsSeq2 PySem.MeetsSeq3
end HT
namespace L2
open PySem PySem.Spec PyProof.Rows
section
variable {X:Cx}
open Classical in
theorem Fq {z:V} (h:sc0 z):Ii z z=true:=by
 cases z with
 | non=>rfl
 | bl b=>rfl
 | int i=>rfl
 | str x=>rfl
 | byt b=>exact cL h
 | flt b=>exact cL h
 | ref a=>exact cL h
 | ty a=>exact cL h
theorem IJ (hu:X.A.units + 50 < gp):OpR X (dF .Eq) (fun x y H Q=>∃ n,n<=20/\TEq H n x y/\Q (.bl true) H):=by
 intro pins s σ H x y v u Q I rx ry h;obtain ⟨n,hn,d,q⟩:=h;have sc:∀ z,sc0 z->x=z->y=z->aY (aM X.prog X.w) X.A (dF .Eq v u) (EP X pins σ Q) X.xe s:=by
  rintro z hz rfl rfl;refine d8 pins s σ H _ _ v u Q I rx ry ⟨Fq hz,?_⟩;rw [decide_eq_true rfl];exact q
 have rf:∀ p q',x=.ref p->y=.ref q'->aY (aM X.prog X.w) X.A (dF .Eq v u) (EP X pins σ Q) X.xe s:=fun p q' e1 e2 =>
  IG hu pins s σ H x y v u Q I rx ry ⟨0,p,q',by omega,e1,e2,⟨n,hn,d⟩,q⟩
 cases n with
 | zero=>exact sc x d.1 rfl d.2.symm
 | succ n =>
  rcases d with ⟨h1,h2⟩ | ⟨p,q',_,_,e1,e2,_⟩ | ⟨p,q',_,_,e1,e2,_⟩
  ·exact sc x h1 rfl h2.symm
  ·exact rf p q' e1 e2
  ·exact rf p q' e1 e2
end
section
variable {X:Cx}
end
theorem Do {n m:Nat} {g:TG} {tc:TT} {te:TE} {σ:St} {H:Hp} {Q:VK} (Pv:Nat->List V->Hp->Prop) (h0:Pv 0 [] H) (hl:∀ i ys H,i<=m->Pv i ys H->ys.length < ax)
  (hs:∀ i ys H,i < m->Pv i ys H->g (.int (0 + i)) (aJ n none++σ) H fun σ2 H2=>σ2.drop n=σ/\tc σ2 H2 fun b H3=>if b=true then te σ2 H3 fun y H4=>Pv (i + 1) (ys++[y]) H4 else Pv (i + 1) ys H3)
  (hd:∀ ys H,Pv m ys H->∀ p,H p=none->Q (.ref p) (upd H p (.lst ys))) :
  ∃ W:Nat->Nat->List V->Hp->Prop,(∃ k,W 0 k [] H)/\∀ i k ys H,W i k ys H->ys.length < ax/\(((Itr 0 m).stop i H/\∀ p,H p=none->Q (.ref p) (upd H p (.lst ys))) \/
   ((Itr 0 m).go i H/\∃ N:List V->Hp->Prop,(∀ ys' H',N ys' H'->∃ k',k' < k/\W (i + 1) k' ys' H')/\∀ x H',(Itr 0 m).yld i H x H'->g x (aJ n none++σ) H' fun σ2 H2=>σ2.drop n=σ/\tc σ2 H2 fun b H3 =>
    if b=true then te σ2 H3 fun y H4=>N (ys++[y]) H4 else N ys H3)):=by
 refine ⟨fun i k ys H=>k=m - i/\i<=m/\Pv i ys H,⟨m,by simp,aR _,h0⟩,?_⟩;rintro i k ys H ⟨rfl,hi,pv'⟩;refine ⟨hl i ys H hi pv',?_⟩
 by_cases lt:i < m
 ·refine .inr ⟨lt,Pv (i + 1),fun ys' H' p'=>⟨m - (i + 1),by omega,rfl,lt,p'⟩,fun x H' y=>?_⟩;obtain ⟨e,y⟩:=y;subst e y;exact hs i ys _ lt pv'
 ·have e:i=m:=by omega
  subst e;exact .inl ⟨aF _,hd ys H pv'⟩
def HC (Γ:tV):Prop:=Γ.below.any (fun x=>x.1.isCaller)=true
theorem HC.enter {Γ:tV} (h:HC Γ) (c:Code) (v:Option ag) (p:Pos):HC (Γ.enter c v p):=by
 unfold HC PySem.Ctx.enter;rw [jH,(show Γ.below.any (fun x=>x.1.isCaller)=true from h),zz]
def wpC {α:Type} (M:lU) (A:bJ) (t:Sem α) (Q:α->ah->Prop) (E:ag->ah->Prop) (s:ah):Prop:=
 ∀ (Γ:tV) (p:Pos),HC Γ->Γ.In A->Dp M Γ t (fun a _ z=>Q a z) (fun e _ z=>E e z) p s
def gc (M:lU) (A:bJ) (c:Code) (R:ma->ah->Prop) (s:ah):Prop:=
 ∀ (Γ:tV) (p:Pos),HC Γ->Γ.code=c->Γ.Below A->wpCode M Γ R p s
section
variable {α β:Type} {M:lU} {A:bJ} {E E':ag->ah->Prop} {s:ah} {Q Q':α->ah->Prop} {c:Code} {R R':ma->ah->Prop}
theorem toC {t:Sem α} (h:aY M A t Q E s):wpC M A t Q E s:=fun Γ p _ i=>h Γ p i
theorem Dq (h:pQ M A c R s):gc M A c R s:=fun Γ p _ e i=>h Γ p e i
theorem oJ {t:Sem α} (h:wpC M A t Q E s) (hQ:∀ a z,Q a z->Q' a z) (hE:∀ e z,E e z->E' e z):wpC M A t Q' E' s:=
 fun Γ p k i=>rn M Γ t (fun a _ z y=>hQ a z y) (fun e _ z y=>hE e z y) p s (h Γ p k i)
theorem pJ {t:Sem α} (h:wpC M A t Q E s) (hQ:∀ a z,Q a z->Q' a z):wpC M A t Q' E s:=oJ h hQ fun _ _ y=>y
theorem e8 {m:Sem α} {f:α->Sem β} {P:β->ah->Prop} (h:wpC M A m (fun a z=>wpC M A (f a) P E z) E s):wpC M A (m >>= f) P E s:=fun Γ p k i=>by
 rw [tW];exact rn M Γ m (fun a q z y=>y Γ q k i) (fun _ _ _ y=>y) p s (h Γ p k i)
theorem cJ {m:Sem α} {f:α->Sem β} {P:β->ah->Prop} (h:aY M A m (fun a z=>wpC M A (f a) P E z) E s):wpC M A (m >>= f) P E s:=e8 (toC h)
theorem rX {m:Sem α} {k:ag->Sem Unit} (h:wpC M A m Q (fun e z=>wpC M A (k e) (fun _ y=>E e y) E z) s):wpC M A (m.onRaise k) Q E s:=fun Γ p hk i=>by
 rw [Sem.wp_onRaise];exact rn M Γ m (fun _ _ _ y=>y) (fun e q z y=>y Γ q hk i) p s (h Γ p hk i)
theorem yH {m:Sem α} {P:Except ag α->ah->Prop} (h:wpC M A m (fun a=>P (.ok a)) (fun e=>P (.error e)) s):wpC M A m.attempt P E s:=fun Γ p k i=>by
 rw [Sem.wp_attempt];exact h Γ p k i
theorem oK {vs:List ag} {m:Sem α} (h:wpC M A m Q E s):wpC M A (pK vs m) Q E s:=fun Γ p k i=>by
 rw [Sem.wp_holding];exact h Γ p k i
theorem jF (h:gc M A c R s) (hR:∀ r z,R r z->R' r z):gc M A c R' s:=fun Γ p k e i=>wpCode_mono hR (h Γ p k e i)
theorem runC {h:Option ag} {P:Flow->ah->Prop} (hc:gc M (A.mark h) c (fun r z=>match r with | .ok f=>P f z | .error e=>E e z) s) (hb:h≠some byPass:=by intro x; cases x):wpC M A (run c h) P E s:=fun Γ p k i=>by
 rw [Sem.wp_run];exact hc _ p (k.enter c h p) rfl (i.enter c h p hb)
theorem BH {P:ag->ah->Prop} (hc:gc M A c (fun r z=>match r with | .ok (.ret v)=>P v z | .ok _=>False | .error e=>E e z) s):wpC M A (runValue c) P E s:=fun Γ p k i=>by
 rw [Gx];exact hc _ p (k.enter c none p) rfl (i.enter c none p (by intro x; cases x))
theorem xB {f:ag} {us:List ag} {P:ag->ah->Prop} (hc:gc M A (.call f ⟨us,[]⟩) (fun r z=>match r with | .ok (.ret v)=>P v z | .ok _=>False | .error e=>E e z) s):wpC M A (rO f us) P E s:=BH hc
theorem AV {env:Env} {h:Option ag} {P:Flow->ah->Prop} (hc:gc M (A.mark h) c (fun r z=>match r with | .ok f=>P f z | .error e=>cameBackBy M A env E e z) s) (hb:h≠some byPass:=by intro x; cases x):wpC M A (runOwn c env h) P E s:=by
 unfold runOwn;refine rX (runC (jF hc fun r z y=>?_) hb)
 cases r with
 | ok f=>exact y
 | error e=>exact toC y
theorem uS (h:wpC M (A.under c) (M.den c) (fun fin z=>match fin with | .done f=>R (.ok f) z | .again d=>d.quiet=true/\gc M A d R z) (fun e z=>R (.error e) z) s):gc M A c R s:=fun Γ p k e i=>by
 rw [wpCode_iff_wp,e];refine rn M Γ _ (fun fin q z y=>?_) (fun _ _ _ y=>y) p s (h Γ p k (e ▸ i.in))
 cases fin with
 | done f=>exact y
 | again d=>exact ⟨y.1,y.2 (Γ.goto d) q k rfl (i.goto d)⟩
theorem Ds (hq:c.quiet=true) (I:Nat->ah->Prop)
  (turn:∀ n z,I n z->wpC M (A.under c) (M.den c) (fun fin y=>match fin with | .done f=>R (.ok f) y | .again d=>(d=c/\∃ m,m < n/\I m y)\/(d.quiet=true/\gc M A d R y)) (fun e y=>R (.error e) y) z)
  (n:Nat) (h:I n s):gc M A c R s:=by
 induction n using Nat.strongRecOn generalizing s with
 | ind n ih =>
  refine uS (pJ (turn n s h) fun fin z y=>?_)
  cases fin with
  | done f=>exact y
  | again d =>
   rcases y with ⟨rfl,m,hm,hI⟩ | y
   ·exact ⟨hq,ih m hm hI⟩
   ·exact y
theorem z6 {env:Env} {m:Sem α} (h:wpC M A m Q (pV M A env E) s):wpC M A (m.onRaise fun x=>do jq x env; oa x) Q E s:=
 rX (oJ h (fun _ _ y=>y) fun _ _ y=>toC (af (cg y (fun _ _ e=>wpAny_theTreesLotGoes e) fun _ _ e=>e)))
end
section
variable {prog:aS} {w:bN} {A:bJ} {E:ag->ah->Prop} {s:ah} {R:ma->ah->Prop} {env:Env}
theorem z9 {st:dw} {rest:List dw} {Q:Flow->ah->Prop} {M:lU} (h:wpC M A (exec st env) (fun f z=>match f with | .next=>wpC M A (vy rest env) Q E z | f=>Q f z) E s):wpC M A (vy (st :: rest) env) Q E s:=by
 rw [execs_cons];refine e8 (pJ h fun f z y=>?_)
 cases f <;> first | exact y | exact toC (av y)
theorem funcC {body:List dw} (h:wpC (aM prog w) (A.deeper env) (vy body env) (fun f z=>R (.ok (.ret (match f with | .ret v=>v | _=>.none))) z)
   (fun e z=>aY (aM prog w) (A.deeper env) (tE env e) (fun _ y=>R (.error e) y) (fun e' y=>R (.error e') y) z) s):gc (aM prog w) A (.func body env) R s:=by
 refine uS ?_;show wpC _ (A.deeper env) (do point; match <- (vy body env).onRaise (tE env) with | .ret v=>ret v | _=>ret .none) _ _ s;refine cJ (pX (e8 (rX (oJ h (fun f z y=>?_) fun _ _ y=>toC y))))
 cases f <;> exact toC (av y)
theorem Fs {a:aj} {args:Args} {o:Obj} {fd:cf} {body:List dw} (hr:A.depth < zK) (ho:s.heap.get? a=some o) (hd:o.data=.func fd) (hco:fd.scope.isCoroutine=false) (hg:fd.scope.isGenerator=false) (hbd:fd.body=.stmts body) (hcd:s.heap.CodeRec fd.code fd.qualname)
  (h:aY (aM prog w) A.in1 (vD fd args) (fun bs z=>aY (aM prog w) A.in1 (newFunctionEnv fd.scope fd.globals fd.closure bs (fd.qualname++".<locals>.") (some a) fd.code none fd.builtins)
    (fun en y=>y.heap.NoLimit/\gc (aM prog w) A (.func body en) R y) (fun e y=>R (.error e) y) z) (fun e y=>R (.error e) y) s):gc (aM prog w) A (.call (.ref a) args) R s:=by
 refine uS ?_;show wpC _ A.in1 (Jt (.ref a) args) _ _ s;simp only [Jt];obtain ⟨c,oc,vs,tq,hc,hoc,hdc,hq⟩:=hcd;refine cJ (wpAny_load ho ?_);simp only [hd,callFunction,hco,hg,hbd,hc];rw [hc] at h;refine cJ (m:=field (.ref c) 1) (iN hoc hdc hq (cJ (av ?_)));refine cJ (cg h (fun bs z h1=>cJ (cg h1 (fun en y h2=>?_) fun _ _ x=>x)) fun _ _ x=>x);exact cJ (wpAny_enterFrame h2.1 hr (toC (av (And.intro rfl h2.2))))
theorem Dt {target:cA} {it:ag} {body orelse:List dw} (I:Nat->ah->Prop)
  (turn:∀ n z,I n z->aY (aM prog w) A (CF it) (fun r z1=>match r with
   | none=>aY (aM prog w) A (vy orelse env) (fun f y=>R (.ok f) y) (pV (aM prog w) A env fun e y=>R (.error e) y) z1
   | some v=>aY (aM prog w) A (i6 target it v) (fun _ z2=>aY (aM prog w) A (nV target env v) (fun _ z3=>wpC (aM prog w) A (vy body env) (fun f y=>match f with
      | .next | .cont=>∃ m,m < n/\I m y
      | .brk=>R (.ok .next) y
      | .ret v=>R (.ok (.ret v)) y) (pV (aM prog w) A env fun e y=>R (.error e) y) z3) (pV (aM prog w) A env fun e y=>R (.error e) y) z2) (pV (aM prog w) A env fun e y=>R (.error e) y) z1) (pV (aM prog w) A env fun e y=>R (.error e) y) z)
  (n:Nat) (h:I n s):gc (aM prog w) A (.forLoop target it body orelse env) R s:=by
 refine Ds rfl I (fun n z hI=>?_) n h;show wpC _ A ((forTurn target it body orelse env).onRaise (fun x=>do jq x env; oa x)) _ _ z;refine z6 ?_;simp only [forTurn];refine cJ (bU (e8 (rX (oJ (toC (turn n z hI)) (fun r z1 h1=>?_) fun _ _ y=>toC (bU y)))))
 cases r with
 | none=>exact toC (av (.inr ⟨rfl,Dq (codeAny_block h1)⟩))
 | some v =>
  refine cJ (cg h1 (fun _ z2 h2=>?_) fun _ _ y=>y);refine cJ (cg h2 (fun _ z3 h3=>e8 (pJ h3 fun f y h4=>?_)) fun _ _ y=>y)
  cases f with
  | next=>exact toC (av (.inl ⟨rfl,h4⟩))
  | cont=>exact toC (av (.inl ⟨rfl,h4⟩))
  | brk=>exact toC (av h4)
  | ret v=>exact toC (av h4)
theorem tryC {body:List dw} {h₀:mV} {hs:List mV} {pos:Pos} {Q:Flow->ah->Prop}
  (h:wpC (aM prog w) A (vy body env) (fun f z=>match f with | .next=>aY (aM prog w) A (vy [] env) Q E z | f=>Q f z)
   (fun e z=>aY (aM prog w) A (jq e env) (fun _ z1=>aY (aM prog w) A (xm e none) (fun _ z2=>aY (aM prog w) A (handleBy e env (h₀ :: hs)) Q E z2) E z1) E z) s) :
  wpC (aM prog w) A (exec (.Try body (h₀ :: hs) [] [] pos) env) Q E s:=by
 rw [arm_exec_Try];refine cJ (bU ?_);unfold tryStmt;simp only [List.isEmpty_nil,if_true,List.isEmpty_cons,qV,jR,if_false];refine e8 (yH (oJ h (fun f z y=>?_) fun e z y=>?_))
 ·cases f <;> first | exact toC y | exact toC (av y)
 ·exact toC (af (cg y (fun _ _ y2=>af y2) fun _ _ x=>x))
end
def PEC (X:Cx) (e:cA) (t:TE):Prop:=
 ∀ (pins:List (aj×Obj)) (s:ah) (σ:St) (H:Hp) (Q:VK),Inv X pins σ H s->t σ H Q->wpC (aM X.prog X.w) X.A (d6 e X.env) (EP X pins σ Q) X.xe s
def PSC (X:Cx) (st:dw) (t:TS):Prop:=
 ∀ (pins:List (aj×Obj)) (s:ah) (σ:St) (H:Hp) (D:Ends),Inv X pins σ H s->t D σ H->wpC (aM X.prog X.w) X.A (exec st X.env) (SP X pins D) X.xe s
def PSsC (X:Cx) (st:List dw) (t:TS):Prop:=
 ∀ (pins:List (aj×Obj)) (s:ah) (σ:St) (H:Hp) (D:Ends),Inv X pins σ H s->t D σ H->wpC (aM X.prog X.w) X.A (vy st X.env) (SP X pins D) X.xe s
structure dU (P:aS) (w:bN) (K:ai) (mg:Str->Option ag) (base:cI) (CX:CXT) (k:Nat) (f:aj) (fd:cf) (ps:List Str) (sp:Sp):Prop where
 len:∀ vs H Q E,sp vs H Q E->vs.length=ps.length
 run:∀ (A:bJ) (outer:List Env) (s:ah) (H:Hp) (args:Args) (us:List ag) (vs:List V) (Q:VK) (E:XK),dE k A->yt P w K mg base A outer s H->tD s fd args (ps.zip us)->dq vs us->sp vs H Q E ->
  gc (aM P w) A (.call (.ref f) args) (CR CX outer P w H s Q E) s
section
variable {X:Cx} {st:dw} {rest:List dw} {t u:TS} {e:cA} {te:TE} {pos:Pos}
theorem PE.c (h:PE X e te):PEC X e te:=fun pins s σ H Q I q=>toC (h pins s σ H Q I q)
theorem PS.c (h:PS X st t):PSC X st t:=fun pins s σ H D I q=>toC (h pins s σ H D I q)
theorem PSs.c (h:PSs X rest t):PSsC X rest t:=fun pins s σ H D I q=>toC (h pins s σ H D I q)
theorem aV (h1:PSC X st t) (h2:PSsC X rest u):PSsC X (st :: rest) (By t u):=by
 intro pins s σ H D I h;refine z9 (pJ (h1 pins s σ H {D with nx:=u D} I h) fun f s1 q=>?_)
 cases f with
 | next =>
  obtain ⟨σ',H',I',q⟩:=q;exact h2 pins s1 σ' H' D I' q
 | ret v=>exact q
 | brk=>exact q
 | cont=>exact q
theorem j4 (h1:PSC X st t):PSsC X [st] t:=by
 intro pins s σ H D I h;refine z9 (pJ (h1 pins s σ H D I h) fun f s1 q=>?_)
 cases f with
 | next=>exact toC (fK q)
 | ret v=>exact q
 | brk=>exact q
 | cont=>exact q
theorem rY (he:PEC X e te):PSC X (.Return (some e) pos) (uw te):=by
 intro pins s σ H D I h;rw [exec_Return_some];exact cJ (bU (e8 (pJ (he pins s σ H _ I h) fun v s1 ⟨x,H1,I1,r1,q1⟩=>toC (av ⟨x,σ,H1,I1,r1,q1⟩))))
theorem ig {i:Nat} {x:Str} {pos':Pos} (hN:X.N.Nodup) (hi:X.N[i]?=some x) (hx:Loc X.env.scope x) (he:PEC X e te) (hs:lZ e (some (.Name x pos')) pos.line X.env=pure false:=by rfl) (hf:X.fn x=true\/X.env.scope.names.lookup x=some .local:=by first | exact .inl rfl | exact .inr rfl | assumption) :
  PSC X (.Assign [.Name x pos'] e pos) (yo te (rN i)):=by
 intro pins s σ H D I h;rw [exec_Assign_Name X.env x pos' e pos hs];refine cJ (bU (e8 (pJ (he pins s σ H _ I h) fun v s1 ⟨y,H1,I1,r1,q1⟩=>?_)));refine toC (af (bU (af (Aa ?_))));exact oB I1 hN hi hx r1 (fun s2 I2=>av ⟨_,H1,I2,q1⟩) hf
theorem uT {c:cA} {a b:List dw} {tc:TT} (hc:PT X c tc) (ha:PSsC X a t) (hb:PSsC X b u):PSC X (.If c a b pos) (vA tc t u):=by
 intro pins s σ H D I h;rw [exec_If];refine cJ (bU (cJ (thn (hc pins s σ H _ I h) fun d s1 ⟨H1,I1,q1⟩=>?_)))
 cases d with
 | true=>exact ha pins s1 σ H1 D I1 q1
 | false=>exact hb pins s1 σ H1 D I1 q1
end
section
variable {X:Cx} {CX:CXT} {k:Nat} {f:aj} {fd:cf} {ps:List Str} {sp:Sp} {dvs:List V} {ds:List ag} {E:XK} {x:Str} {p pos:Pos} {e:cA} {es:List cA} {t:TA}
theorem Ft {pins:List (aj×Obj)} {σ:St} {H:Hp} {s:ah} {Q:VK} {us:List ag} {vs:List V} (F:dU X.prog X.w X.K X.mg X.base CX k f fd ps sp) (hr:dE k X.A) (hb:Binds X.K fd ps ds) (hd:dq dvs ds) (hx:nZ CX X E)
  (I:Inv X pins σ H s) (r:dq vs us) (h:sp (vs++dvs) H Q E):wpC (aM X.prog X.w) X.A (rO (.ref f) us) (EP X pins σ Q) X.xe s:=by
 have r2:dq (vs++dvs) (us++ds):=r.append hd;have hl:(us++ds).length=ps.length:=by rw [<- r2.length]; exact F.len _ _ _ _ h
 refine xB (jF (F.run X.A X.stack s H ⟨us,[]⟩ (us++ds) (vs++dvs) Q E hr I.env0 (hb s us I.kIn hl) r2 h) fun r s' hq=>?_)
 cases r with
 | error e=>exact hx pins σ H s e s' I hq
 | ok fl =>
  cases fl with
  | ret u=>exact I.after hq
  | next=>exact cL hq
  | brk=>exact cL hq
  | cont=>exact cL hq
theorem keepC {α:Type} {M:lU} {A:bJ} {E:ag->ah->Prop} {s:ah} {vs:List ag} {m:Sem α} {Q:α->ah->Prop} (h:wpC M A m Q E s):wpC M A (m.keep vs) Q E s:=fun Γ p k i=>by
 rw [Sem.wp_keep];exact h Γ p k i
theorem wu {M:lU} {A:bJ} {E:ag->ah->Prop} {s:ah} {K:ai} {g:ag} {Q:ag->ah->Prop} {args:List (Bool×Sem ag)} (hp:args.any (·.1)=false) (hk:dZ K g=true)
  (h:aY M A (evalArgs g true args []) (fun a z=>K.In z.heap/\wpC M A (rO g a.pos a.kw) Q E z) E s):wpC M A (kg pos g [] args []) Q E s:=by
 unfold kg;refine cJ (bK (cg h (fun a z h1=>cJ (bU ?_)) fun _ _ y=>y));obtain ⟨kp,hk',L⟩:=PySem.W.keeps_K (M:=M) hk _ h1.1;have hp':(args.any (·.1) || ([]:List (Option Str×Sem ag)).any (·.1.isNone))=false:=by rw [hp]; rfl
 simp only [hp'];refine cJ (L.here ?_);have tail:∀ {m:Sem ag},wpC M A m Q E z->wpC M A (m >>= fun r=>pK [r] point >>= fun _=>pure r) Q E z:=
  fun hm=>e8 (pJ hm fun r y hr=>toC (af (bK (pX (av hr)))))
 have mk:∀ v,wpC M A (callMarked v g ([]++a.pos) a.kw) Q E z:=fun v=>by unfold callMarked; exact keepC h1.2
 rcases hk' with rfl | rfl | rfl <;> dsimp only <;> first | exact tail h1.2 | (split <;> first | exact tail h1.2 | exact tail (mk _))
theorem dW (F:dU X.prog X.w X.K X.mg X.base CX k f fd ps sp) (hr:dE k X.A) (hg:Gl X x) (hm:X.mg x=some (.ref f)) (hk:dZ X.K (.ref f)=true) (hb:Binds X.K fd ps ds) (hd:dq dvs ds) (hx:nZ CX X E)
  (ha:PA X (e :: es) t) (hdb:(x == ("__debug__":Str))=false:=by decide) (he:bM (e :: es) X.env=(false,d6 e X.env) :: bM es X.env:=by rfl) (hpl:(fg pos (bM es X.env)).any (·.1)=false:=by rfl) :
  PEC X (.Call (.Name x p) (e :: es) [] pos) (vY sp dvs E t):=by
 intro pins s σ H Q I h;rw [tX];refine cJ (oW I hg hm ?_ hdb);have h1:=ha pos pins s σ H _ I h;show wpC _ _ (kg pos (.ref f) [] (fg pos (bM (e :: es) X.env)) []) _ _ s;rw [he] at h1 |-;refine wu (K:=X.K) ?_ hk (k7 (cg h1 (fun us s1 z=>?_) fun _ _ y=>y))
 ·show (false || (fg pos (bM es X.env)).any (·.1))=false;rw [hpl];rfl
 ·obtain ⟨vs,H1,I1,r,q⟩:=z;exact ⟨I1.kIn,Ft F hr hb hd hx I1 r q⟩
end
section
variable {X:Cx} {tg:cA}
theorem AW {iter:cA} {body:List dw} {wi:TI} {g:TG} {tb:TS} {pos:Pos} (hp:wZ (aM X.prog X.w) X.A X.env X.xe) (hc:X.calm=true) (hi:PI X tg iter wi) (hg:PG X tg g) (hb:PSsC X body tb)
  (hs:∀ x,gv iter X.env x=pure x:=by intro _; rfl):PSC X (.For tg iter body [] pos) (tFor wi g tb):=by
 intro pins s σ H D I h;rw [exec_For];refine cJ (bU (cJ (thn (hi pins s σ H _ I h) fun v s1 h1=>?_)));refine cJ (eP (hs v) (cJ (bU (cJ (bK (thn h1 fun itv s2 h2=>?_))))));obtain ⟨it,fp,tn,J,H2,e,I2,T,st2,f2,W,⟨m0,w0⟩,turn⟩:=h2;subst e;have stat:∀ {H':Hp},(∀ b∈fp,H' b=none)->∀ b∈fp,w5 X pins H' b:=fun hn b hb=>⟨hn b hb,(f2 b hb).2⟩;refine AV ?_;refine Dt (fun n s'=>∃ i σ' H',Inv X pins σ' H' s'/\tn i s'.heap/\(∀ b∈fp,H' b=none)/\W i n σ' H') ?_ m0 ⟨0,σ,H2,I2,st2,fun b hb=>(f2 b hb).1,w0⟩;rintro n s3 ⟨i,σ3,H3,I3,st3,fr3,w3⟩
 rcases turn i n σ3 H3 w3 with ⟨stop,qn⟩ | ⟨go,N,hN,step⟩
 ·refine eB hp (thn (T.done X rfl rfl rfl hc i pins s3 σ3 H3 X.xe I3 (stat fr3) st3 stop) fun r s4 ⟨hr,I4⟩=>?_);subst hr;exact fK ⟨σ3,H3,I4,qn⟩
 ·refine eB hp (thn (T.item X rfl rfl rfl hc i pins s3 σ3 H3 X.xe I3 (stat fr3) st3 go) fun r s4 ⟨u,hr,h4⟩=>?_);subst hr;refine eB hp (thn h4 fun _ s5 ⟨x,H5,I5,r5,y5,st5,fr5⟩=>?_);have I5':=I5.pinned (stat fr5) (T.obj _ _ st5);refine eB hp (thn (hg _ s5 σ3 H5 x u _ I5' r5 (step x H5 y5)) fun _ s6 ⟨σ6,H6,I6,q6⟩=>?_);refine oJ (hb _ s6 σ6 H6 _ I6 q6) (fun f s7 q7=>?_) (fun e z y=>hp e z y);have again:∀ {σ7:St} {H7:Hp},Inv X (pins++o6 fp s5.heap) σ7 H7 s7->N σ7 H7->∃ m,m < n/\∃ i σ' H',Inv X pins σ' H' s7/\tn i s7.heap/\(∀ b∈fp,H' b=none)/\W i m σ' H':=fun {σ7 H7} I7 n7=>by
   obtain ⟨m',hm,w7⟩:=hN σ7 H7 n7;refine ⟨m',hm,i + 1,σ7,H7,I7.unpinned,T.keep _ _ _ st5 fun b hb o e=>(I7.pin (b,o) (aT _ (aT _ (iQ hb e)))).1,fun b hb=>?_,w7⟩;obtain ⟨o,e,d⟩:=T.obj _ _ st5 b hb;exact (I7.pin (b,o) (aT _ (aT _ (iQ hb e)))).2.1
  cases f with
  | next=>obtain ⟨σ7,H7,I7,n7⟩:=q7; exact again I7 n7
  | cont=>obtain ⟨σ7,H7,I7,n7⟩:=q7; exact again I7 n7
  | brk=>obtain ⟨σ7,H7,I7,q7⟩:=q7; exact ⟨σ7,H7,I7.unpinned,q7⟩
  | ret v=>obtain ⟨x7,σ7,H7,I7,r7,q7⟩:=q7; exact ⟨x7,σ7,H7,I7.unpinned,r7,q7⟩
end
section
variable {P:aS} {w:bN} {K:ai} {mg:Str->Option ag} {base:cI} {CX:CXT} {k:Nat} {f:aj}
theorem Du {name qual:Str} {params:Arguments} {body:List dw} {scope:kB} {dV kV doc pm cdv ct oc:ag} {an od:Option aj}
  {osl:Array (Option ag)} {N ps:List Str} {sp:Sp} (lk:K.lookup f=some ⟨oc,od,.func (eY name qual params body scope dV kV doc pm an cdv ct),osl⟩) (hcd:jY K cdv qual=true) (S:cH N ps scope)
  (len:∀ vs H Q E,sp vs H Q E->vs.length=ps.length)
  (hbody:∀ (A:bJ) (outer:List Env) (s:ah) (H:Hp) (vs:List V) (Q:VK) (E:XK),dE k (A.deeper (qi qual scope s.heap.objs.size f cdv))->sp vs H Q E ->
   ∃ t,PSsC (tR CX P w K mg base N qual scope f cdv A outer s H E) body t/\t {nx:=fun _ H'=>Q .non H',rt:=Q} (start N vs) H) :
  dU P w K mg base CX (k + 1) f (eY name qual params body scope dV kV doc pm an cdv ct) ps sp:=by
 refine ⟨len,fun A outer s H args us vs Q E hr e0 hb r hsp=>?_⟩;have hl:=len _ _ _ _ hsp;have KX:K.In s.heap:=e0.mod.kin.keeps fun b o e=>(e0.bs b o e).1;have lim:s.heap.NoLimit:=e0.mod.nolimit.keeps fun b o e=>(e0.bs b o e).1;have hkind:∀ y∈ps.zip us,scope.names.lookup y.1=some .local\/(scope.names.lookup y.1=some .cell/\((Cr (s.heap.objs.size + 1) scope.names []).lookup y.1).isSome=true):=fun ⟨n,v⟩ hy=>by
  rcases S.par n (qh hy).1 with q | q
  ·exact .inl q
  ·exact .inr ⟨q,o8 _ _ _ (.inl q)⟩
 refine Fs hr.depth (KX _ _ lk) rfl S.co S.gen rfl (zO KX hcd) (hb _ _ _ _ ?_);refine zP S.kind hkind fun env he s1 x=>?_;subst he;refine ⟨lim.keeps x.toInCall.keep,funcC ?_⟩;obtain ⟨t,ht,hq⟩:=hbody A outer s H vs Q E (hr.deeper _) hsp;have I:Inv (tR CX P w K mg base N qual scope f cdv A outer s H E) [] (start N vs) H s1:=wc S hr.hd e0 hl r x;refine oJ (ht [] s1 (start N vs) H _ I hq) (fun fl s' hs=>?_) fun e s' hs=>hs;have fin:∀ {σ':St} {H':Hp} {v:V} {u:ag},Inv (tR CX P w K mg base N qual scope f cdv A outer s H E) [] σ' H' s'->RelV v u->Q v H'->CE outer P w H s Q u s':=
  fun {σ' H' v u} J rv q=>⟨v,H',J.os,J.bare,J.base,J.hok,rv,q⟩
 cases fl with
 | ret u =>
  obtain ⟨v,σ',H',J,rv,q⟩:=hs;exact fin J rv q
 | next =>
  obtain ⟨σ',H',J,q⟩:=hs;exact fin (v:=V.non) (u:=Value.none) J rfl q
 | brk =>
  obtain ⟨_,_,_,q⟩:=hs;exact cL q
 | cont =>
  obtain ⟨_,_,_,q⟩:=hs;exact cL q
theorem PSsC.nox {X:Cx} {st:List dw} {t:TS} (h:PSsC X.nox st t):PSsC X st t:=fun pins s σ H D I hw =>
 oJ (h pins s σ H D (I.wish _) hw) (fun _ _ q=>q.unwish) fun _ _ z=>cL z
theorem Fun.okC {x qual:Str} {st:dw} {fd:cf} {N ps:List Str} {sp:Sp} (F:Fun K x qual st f fd) (S:cH N ps (bf st)) (len:∀ vs H Q E,sp vs H Q E->vs.length=ps.length)
  (hbody:∀ (cdv:ag) (A:bJ) (outer:List Env) (s:ah) (H:Hp) (vs:List V) (Q:VK) (E:XK),dE k (A.deeper (qi qual (bf st) s.heap.objs.size f cdv))->sp vs H Q E ->
   ∃ t,PSsC (tR CX0 P w K mg base N qual (bf st) f cdv A outer s H E).nox (jz st) t/\t {nx:=fun _ H'=>Q .non H',rt:=Q} (start N vs) H):dU P w K mg base CX0 (k + 1) f fd ps sp:=by
 obtain ⟨oc,od,kV,doc,pm,an,cdv,ct,osl,rfl,lk,hcd⟩:=F.ex;refine Du lk hcd S len fun A outer s H vs Q E hr hsp=>?_;obtain ⟨t,h,q⟩:=hbody cdv A outer s H vs Q E hr hsp;exact ⟨t,h.nox,q⟩
end
section
variable {M:lU} {A:bJ} {E:ag->ah->Prop} {s:ah}
theorem markC {own:List String} {e:ag} {Q:Unit->ah->Prop} (h:Q () s):wpC M A (Ab own e) Q E s:=fun Γ p k i=>by
 have no:rZ own (((Γ.code,p) :: Γ.below).map (·.1))=false:=by
  unfold rZ;have y:(((Γ.code,p) :: Γ.below).map (·.1)).any (fun c=>match c with | .builtin "claim.caller" _=>true | _=>false)=true:=by
   rw [List.any_map,jH];rw [show Γ.below.any ((fun c=>match c with | .builtin "claim.caller" _=>true | _=>false) ∘ (fun x:Code×Pos=>x.1))=true from k,zz]
  cases z:(_ && _:Bool) with
  | false=>rfl
  | true =>
   simp only [dA,tF] at z;exact absurd (z.1.1.symm.trans y) bc
 unfold Ab;rw [tW];show Dp M Γ (if rZ own (((Γ.code,p) :: Γ.below).map (·.1))=true then _ else _) _ _ p s;rw [no,if_neg bc];exact h
end
theorem iteC {α:Type} {M:lU} {A:bJ} {E:ag->ah->Prop} {s:ah} {c:Prop} [Decidable c] {a b:Sem α} {Q:α->ah->Prop} (hc:c) (h:wpC M A a Q E s):wpC M A (if c then a else b) Q E s:=by
 rw [if_pos hc];exact h
theorem qY {α:Type} {M:lU} {A:bJ} {E:ag->ah->Prop} {s:ah} {c:Prop} [Decidable c] {a b:Sem α} {Q:α->ah->Prop} (hc:¬ c) (h:wpC M A b Q E s):wpC M A (if c then a else b) Q E s:=by
 rw [if_neg hc];exact h
open PySem.W in
theorem AX {prog:aS} {w:bN} {A:bJ} {E:ag->ah->Prop} {s:ah} {Q:ag->ah->Prop} {x:Str} {u:Tok} {f:String} (hf:(ba f).length<=1000) (hl:(k8 x).length<=10000) (hh:A.handled=none)
  (h:∀ h' e vs t,mW s.heap h' e "ValueError" vs->E (.ref e) {s with heap:=h',toks:=t}) :
  wpC (aM prog w) A (do
   let shown <- pyRepr (.str x u)
   let m <- mkStr ((ba f)++⟨shown.cps.extract 0 200⟩)
   let r <- newExc (.type "ValueError") [m]
   Ab ["int.__new__"] r
   raiseNew r) Q E s:=by
 obtain ⟨hp,g,d,tk,os⟩:=s;have big:(10000:Nat)<=ax:=by decide
 refine cJ (wpAny_pyRepr_str ?_ (bC hl big));refine cJ (wpAny_mkStr ?_ ?_)
 ·refine cJ (wpAny_newExc_plain plainExc_ValueError (fun h' e m=>?_) (by show 1<=ax; decide));refine e8 (markC (toC (Gy hh ?_)));exact h h' e _ _ m
 ·refine bC ?_ big;have e:((ba f)++(⟨(k8 x).cps.extract 0 200⟩:Str)).length=(ba f).length + ((k8 x).cps.extract 0 200).size:=by
   show ((ba f).cps++(k8 x).cps.extract 0 200).size=_;rw [kh];rfl
  rw [e,Array.size_extract];omega
theorem Fu {prog:aS} {w:bN} {A:bJ} {E:ag->ah->Prop} {s:ah} {Q:ag->ah->Prop} {x:Str} {u:Tok} (hl:x.length<=640) (hrp:(k8 x).length<=10000) (hn:dH x=none) (hh:A.handled=none)
  (h:∀ h' e vs t,mW s.heap h' e "ValueError" vs->E (.ref e) {s with heap:=h',toks:=t}) :
  wpC (aM prog w) A ((int_private% "intFromText") (.str x u) (numTextOf x) 10) Q E s:=by
 have hs:(tH x).length<=640:=bC (seen_length x) hl;refine iteC hs (cJ (av ?_))
 rcases read0 x hs with ⟨m,h1,_⟩ | ⟨_,hr | ⟨m,hr,hne⟩⟩
 ·rw [hn] at h1
  cases h1
 ·have hr':=hr;unfold tH at hr';dsimp only;rw [hr'];refine cJ (eP (a:=none) rfl ?_);refine qY (by simp) ?_;refine cJ (Ac (cJ (eP (a:=none) rfl ?_)));exact AX (by decide +kernel) hrp hh h
 ·have hr':=hr;unfold tH at hr';dsimp only;rw [hr'];refine qY hne ?_;refine cJ (Ac (cJ (eP (a:=none) rfl ?_)));exact AX (by decide +kernel) hrp hh h
open PySem.W in
theorem IK {prog:aS} {w:bN} {A:bJ} {E:ag->ah->Prop} {s:ah} {Q:ag->ah->Prop} {x:Str} {u:Tok} (hl:x.length<=640) (hrp:(k8 x).length<=10000) (hn:dH x=none) (hh:A.handled=none)
  (h:∀ h' e vs t,mW s.heap h' e "ValueError" vs->E (.ref e) {s with heap:=h',toks:=t}) :
  wpC (aM prog w) A ((int_private% "intFromObject") (.str x u)) Q E s:=by
 have f3:=KIN.str_int;have f4:=KIN.str_idx;have f5:=KIN.str_trunc;have f6:Iw (.str x u)=pure (.type "str"):=rfl;refine cJ ?_
 repeat (first | assumption | wp_step)
 refine cJ ?_
 repeat (first | assumption | wp_step)
 refine qY (by simp) ?_;refine cJ ?_
 repeat (first | assumption | wp_step)
 refine cJ (eP (a:=some (numTextOf x)) rfl ?_);exact Fu hl hrp hn hh h
open PySem.W in
theorem IL {prog:aS} {w:bN} {A:bJ} {E:ag->ah->Prop} {s:ah} {Q:Fin->ah->Prop} {x:Str} {u:Tok} (hl:x.length<=640) (hrp:(k8 x).length<=10000) (hn:dH x=none) (hh:A.handled=none)
  (h:∀ h' e vs t,mW s.heap h' e "ValueError" vs->E (.ref e) {s with heap:=h',toks:=t}) :
  wpC (aM prog w) A (km.«int.__new__» ⟨[.type "int",.str x u],[]⟩) Q E s:=by
 unfold km.«int.__new__»;dsimp only;refine cJ (eP (a:=true) rfl ?_);refine qY (by simp) ?_;refine cJ (eP F.conv_sub_int ?_);refine qY (by simp) ?_;refine cJ (eP F.madeHere_int ?_);refine qY (by simp) ?_;refine qY (by simp) ?_;refine cJ (eP (a:=PUnit.unit) rfl ?_);refine e8 ?_;refine oJ (Q:=fun _ _=>False) ?_ (fun _ _ z=>z.elim) (fun _ _ z=>z);refine IK hl hrp hn hh h
section
variable {prog:aS} {w:bN} {A:bJ} {s:ah} {R:ma->ah->Prop}
theorem yI {id:String} {args:Args} {b:km} (hb:entryFor table id=some b)
  (h:wpC (aM prog w) (A.under (.builtin id args)) (b args) (fun fin z=>match fin with | .done f=>R (.ok f) z | .again d=>d.quiet=true/\gc (aM prog w) A d R z) (fun e z=>R (.error e) z) s) :
  gc (aM prog w) A (.builtin id args) R s:=by
 refine uS ?_;show wpC _ _ (match entryFor table id with | some b=>b args | none=>unsupported ((withoutEnding? id "#data").getD id)) _ _ s;rw [hb];exact h
theorem xC {id:String} {args:Args} (hq:(Code.builtin id args).quiet=true) (hc:jQ id args=pure ()) (h:gc (aM prog w) A (.builtin id args) R s):gc (aM prog w) A (.call (.builtin id) args) R s:=by
 refine uS ?_;show wpC _ A.in1 (do jQ id args; again (.builtin id args)) _ _ s;exact cJ (eP hc (toC (av (And.intro hq h))))
theorem BI {T:String} {us:List ag} (hq:(Code.builtin "type.__call__" ⟨.type T :: us,[]⟩).quiet=true) (h:gc (aM prog w) A (.builtin "type.__call__" ⟨.type T :: us,[]⟩) R s):gc (aM prog w) A (.call (.type T) ⟨us,[]⟩) R s:=by
 refine uS ?_;show wpC _ _ (Jt (.type T) _) _ _ _;exact toC (av ⟨hq,h⟩)
end
open PySem.W in
theorem Ad {prog:aS} {w:bN} {A:bJ} {E:ag->ah->Prop} {s:ah} {Q:ag->ah->Prop} {x:Str} {u:Tok} (hl:x.length<=640) (hrp:(k8 x).length<=10000) (hn:dH x=none) (hh:A.handled=none)
  (h:∀ h' e vs t,mW s.heap h' e "ValueError" vs->E (.ref e) {s with heap:=h',toks:=t}) :
  wpC (aM prog w) A (rO (.builtin "int.__new__") [.type "int",.str x u]) Q E s:=by
 refine xB (xC (nI _ (by decide +kernel)) (F.newCall_int_1 _) (yI F.entry_int_new ?_));rw [i5 (by decide +kernel)];exact IL hl hrp hn hh h
theorem Fv {prog:aS} {w:bN} {A:bJ} {E:ag->ah->Prop} {s:ah} {Q:ag->ah->Prop} {x:Str} {u:Tok} (hl:x.length<=640) (hrp:(k8 x).length<=10000) (hn:dH x=none) (hh:A.handled=none)
  (h:∀ h' e vs t,mW s.heap h' e "ValueError" vs->E (.ref e) {s with heap:=h',toks:=t}) :
  wpC (aM prog w) A (rO (.type "int") [.str x u]) Q E s:=by
 refine xB (BI (nI _ (by decide +kernel)) (yI F.entry_type_call ?_));rw [Around.under_plain (weight_type_call_type _ _ _) (units_type_call_type _ _ _)];have f1:=BJ.notType;have f2:=BJ.canCreate;unfold km.«type.__call__»;dsimp only;refine qY (by rw [f1]; simp) ?_;refine qY (by rw [f2]; simp) ?_;refine cJ (eP (F.typeCall_int_1 _) ?_);refine cJ (eP F.mro_int ?_);refine qY (by simp) ?_;refine cJ (eP BJ.made ?_);dsimp only;refine cJ (av ?_);refine e8 (oK ?_);exact Ad hl hrp hn hh h
section
variable {M:lU} {A:bJ} {E:ag->ah->Prop} {s:ah} {B:cI} {env:Env} {outer:List Env} {L e:aj} {cls:ag} {Q:Unit->ah->Prop}
theorem Dv {h:cI} {args:List ag} (hfr:A.frames=some (env :: outer)) (hf:env.frame=some L) (hB:B.StaysIn h) (hl:h.FunFrames B (env :: outer)) (x:Gz h s.heap e cls args)
  (k:∀ h',FlD B (env :: outer) e cls (kX L) h'->s.heap.UpToSlots h'->Q () {s with heap:=h'}):aY M A (jq (.ref e) env) Q E s:=by
 obtain ⟨t,he,htn,ht⟩:=x.there;have en:B.get? e=none:=by
  cases q:B.get? e with
  | none=>rfl
  | some o=>have z:=hB e o q; rw [x.new] at z; cases z
 unfold jq;simp only [hf];refine af (iN (x:=Value.none) he rfl rfl ?_);rw [if_neg (show ¬ ((Value.none != Value.none)=true) by decide)];exact Dd hfr (hl.of_keeps fun b o z _=>⟨o,x.keeps b o z,rfl⟩) hf he (fun b o z=>x.keeps b o (hB b o z)) en rfl (show 1 < 6 by decide) rfl k
end
section
variable {X:Cx} {pins:List (aj×Obj)} {σ:St} {H:Hp} {s:ah}
theorem yJ (I:Inv X pins σ H s):vI X pins H (gI s.heap (frs X.stack)) s.heap:=fun b o _ n e=>qL _ e n
theorem Dw (I:Inv X pins σ H s) (hst:X.stack=X.env :: X.outer):s.heap.FunFrames (gI s.heap (frs X.stack)) (X.env :: X.outer):=by
 have z:=xD I.stack (fun env he a ha=>gD.mpr ⟨env,he,ha⟩);rw [hst] at z |-;exact z
theorem xE:l8 X (.type "int") (fun xs H Q=>∃ x n,xs=[.str x]/\x.length<=640/\dH x=some n/\Q (.int n) H):=by
 intro pins s σ H xs us Q I r h;obtain ⟨x,n,rfl,hl,hn,q⟩:=h;obtain ⟨u,rfl,ru⟩:=dq.one r;obtain ⟨t,rfl⟩:=ru;exact vw hn hl ⟨.int n,H,I.tok _,⟨_,rfl⟩,q⟩
theorem uU:eE "ValueError"=some (.type "ValueError"):=by decide +kernel
def Fw (j i:Nat) (tS:TS):TS:=fun D σ H=>∃ x:Str,σ[j]?=some (some (.str x))/\x.length<=640/\(k8 x).length<=10000/\(∀ n,dH x=some n->D.nx (σ.set i (some (.int n))) H)/\(dH x=none->tS D σ H)
theorem Ae {j i:Nat} {xw xn:Str} {p1 p2 p3 p4 p5 p6 p7 pos:Pos} {b₀:dw} {suite:List dw} {tS:TS} (hN:X.N.Nodup) (hi:X.N[i]?=some xn) (hx:Loc X.env.scope xn) (hw:PE X.nox (.Name xw p3) (kH j)) (hgi:Gl X "int") (hmi:X.mg "int"=none) (hgv:Gl X "ValueError") (hmv:X.mg "ValueError"=none)
  (hc:X.calm=true) (hsu:∀ ea,PSs (X.hdl ea) (b₀ :: suite) tS)
  (hst:X.stack=X.env :: X.outer:=by rfl) (hfr:X.env.frame=some X.env.locals:=by rfl)
  (he:bM [.Name xw p3] X.env=[(false,d6 (.Name xw p3) X.env)]:=by rfl)
  (hs:lZ (.Call (.Name "int" p2) [.Name xw p3] [] p4) (some (.Name xn p1)) p5.line X.env=pure false:=by rfl) (hf:X.fn xn=true\/X.env.scope.names.lookup xn=some .local:=by first | exact .inl rfl | exact .inr rfl | assumption) :
  PSC X (.Try [.Assign [.Name xn p1] (.Call (.Name "int" p2) [.Name xw p3] [] p4) p5] [.ExceptHandler (some (.Name "ValueError" p6)) none (b₀ :: suite) p7] [] [] pos) (Fw j i tS):=by
 intro pins s σ H D I h;obtain ⟨x,hσ,hl,hrp,h1,h2⟩:=h;refine tryC ?_;have hh:X.A.handled=none:=I.ok.hd hc;refine z9 ?_;rw [exec_Assign_Name X.env xn p1 _ p5 hs];refine cJ (bU ?_);rw [tX];refine e8 (cJ (oY I hgi hmi boot_int ?_));show wpC _ _ (kg p4 (.type "int") [] (fg p4 (bM [.Name xw p3] X.env)) []) _ _ s;rw [he];unfold kg;refine cJ (bK (k7 (mY (cg (hw pins s σ H (fun v H'=>v=.str x/\H'=H) (I.wish _) ⟨.str x,hσ,rfl,rfl⟩) (fun u s1 z=>oq ?_) fun _ _ z=>cL z))));obtain ⟨v,H',I1,ru,rfl,rfl⟩:=z
 replace I1:=I1.unwish
 obtain ⟨tk,rfl⟩:=ru;refine cJ (bU ?_);refine cJ (eP (a:=Keeper.machine) rfl ?_)
 cases hx':dH x with
 | some n =>
  refine cJ (vw hx' hl (toC ?_));refine af (bK (pX (av ?_)));refine toC (af (bU (af (Aa ?_))));exact oB (v:=.int n) (I1.tok _) hN hi hx ⟨_,rfl⟩ (fun s2 I2=>av (toC (fK (fK ⟨_,_,I2,h1 n hx'⟩)))) hf
 | none =>
  refine e8 (Fv hl hrp hx' hh fun h' e vs t m=>?_);have fr:X.A.frames=some (X.env :: X.outer):=by rw [I.ok.frames,hst]
  refine Dv (B:=gI s1.heap (frs X.stack)) (h:=s1.heap) fr hfr (fun b o z=>q0 _ z) (Dw I1 hst) m.of fun h22 f2 u2=>?_;refine yC f2 fun h3 f3 u3=>?_;have u23:s1.heap.UpToSlots h3:=((Ju m.keeps).trans u2).trans u3;refine wpAny_handleBy_builtin (X:="ValueError") (T:="ValueError") (b:=true) PySem.F.isExc_ValueError PySem.F.notTuple_ValueError PySem.F.self_ValueError ?_;have B3:(gI s1.heap (frs X.stack)).StaysIn h3:=f3.1;have I3:Inv X pins σ H' {s1 with heap:=h3,toks:=t}:=Inv.landed (s:={s1 with toks:=t}) (I1.tok t) B3 (yJ I1) u23;refine oY (X:=X.hdl e) (I3.hdl e) hgv hmv uU ?_;obtain ⟨ob,hob,hcl⟩:=f3.there;refine ⟨rfl,⟨ob,hob,hcl⟩,?_⟩;rw [if_pos rfl];refine yC (s:={s1 with heap:=h3,toks:=t}) f3 fun h6 f6 u6=>?_;have I6:Inv X pins σ H' {s1 with heap:=h6,toks:=t}:=Inv.landed (s:={s1 with toks:=t}) (I1.tok t) f6.1 (yJ I1) (u23.trans u6);exact cg (hsu e pins _ σ H' D (I6.hdl e) (h2 hx')) (fun f s2 z=>SP.unhdl I.ok z) (fun _ _ z=>cL z)
end
theorem BK {P:aS} {w:bN} {K:ai} {mg mb:Str->Option ag} {CX:CXT} {k:Nat} {fa a:aj} {fd:cf} {x:Str} {sp:Sp} {s₁:ah} {vs:List ag} {ns:List Int}
  (KX:K.In s₁.heap) (hns:s₁.heap.Ns bF mg) (hb:s₁.heap.Ns zC mb) (hbb:∀ x:Str,x≠"__name__"->mb x=eE x) (hlim:s₁.heap.NoLimit) (hg:s₁.gens=#[])
  (ha:s₁.heap.get? a=some {cls:=.type "list",data:=.seq vs.toArray}) (hi:C6 vs ns) (hl:ns.length<=ax) (hr:dE k rp)
  (F:∀ base:cI,K.In base->base.Ns bF mg->dU P w K mg base CX k fa fd [x] sp) (hbind:∀ (s:ah) (u:ag),tD s fd ⟨[u],[]⟩ [(x,u)])
  (hsp:∀ H:Hp,Only H->SqL K H a (ns.map V.int)->sp [.ref a] H (fun v _=>v=.bl true) fun _ _ _=>False)
  (hCX:∀ H e s',CX [] H s₁ (fun _ _ _=>False) e s'->False) :
  gc (aM P w) rp (.call (.ref fa) ⟨[.ref a],[]⟩) (fun r s'=>r=.ok (.ret (.bool true))/\OldK s₁.heap s'.heap/\s'.os=s₁.os/\q8 s'.gens) s₁:=by
 have rv:=wj hi;have lenV:=hi.length
 -- from an abstract heap in which nothing but the script may be tracked
 have core:∀ H:Hp,Only H->SqL K H a (ns.map V.int)->HOk P w H s₁.heap->(∀ b,H b≠none->b=a)->(H a≠none->K.lookup a=none) ->
   gc (aM P w) rp (.call (.ref fa) ⟨[.ref a],[]⟩) (fun r s'=>r=.ok (.ret (.bool true))/\OldK s₁.heap s'.heap/\s'.os=s₁.os/\q8 s'.gens) s₁:=by
  intro H hO hS hok hA hK;have base_of:∀ {b:aj} {o:Obj},s₁.heap.get? b=some o->H b=none->(wX s₁.heap H).get? b=some o:=fun e n=>Cy e n;have noA:∀ {b:aj} {o:Obj} {es:Array xp} {ep:Nat},s₁.heap.get? b=some o->o.data=.dict es ep->H b=none:=fun {b o es ep} e d=>by
   cases q:H b with
   | none=>rfl
   | some u =>
    have e':b=a:=hA b (by rw [q]; simp);subst e';rw [ha] at e; cases e;have d':Data.seq vs.toArray _=Data.dict es ep:=d
    cases d'
  have nsK:∀ {b:aj} {m:Str->Option ag},s₁.heap.Ns b m->(wX s₁.heap H).Ns b m:=fun {b m} ⟨o,es,ep,e,d,r⟩=>⟨o,es,ep,base_of e (noA e d),d,r⟩;have hKb:K.In (wX s₁.heap H):=fun b o e=>base_of (KX b o e) (by
   cases q:H b with
   | none=>rfl
   | some u =>
    have e':b=a:=hA b (by rw [q]; simp);subst e';rw [hK (by rw [q]; simp)] at e; cases e)
  have hM:Mod K mg (wX s₁.heap H):=⟨hKb,nsK hns,⟨mb,nsK hb,hbb⟩,let ⟨mc,h1,h2⟩:=hlim; ⟨mc,nsK h1,h2⟩⟩;have e0:yt P w K mg (wX s₁.heap H) rp [] s₁ H:=⟨rfl,hM,fun b o e=>EU e,zI (Bw _ _),trivial,fun b hb=>absurd (show b∈([]:List aj) from hb) (by simp),hok,.of_eq hg⟩;refine jF ((F _ hKb (nsK hns)).run rp [] s₁ H ⟨[.ref a],[]⟩ [.ref a] [.ref a] _ _ hr e0 (hbind s₁ (.ref a)) (.cons rfl .nil) (hsp H hO hS)) fun r s' h=>?_
  cases r with
  | error e=>exact (hCX H e s' h).elim
  | ok fl =>
   cases fl with
   | next=>exact cL h
   | brk=>exact cL h
   | cont=>exact cL h
   | ret u =>
    obtain ⟨v,H',os,bare,un,hok',r',q⟩:=h;have q':v=.bl true:=q;subst q';obtain rfl:u=Value.bool true:=r';refine ⟨rfl,OldK.of_keep fun b o e=>?_,os,bare⟩
    cases q:H b with
    | none=>exact un.keep b o e q (by intro z; exact absurd (show b∈([]:List aj) from z) (by simp)) (by simp)
    | some u =>
     rcases hO b with z | ⟨ob,xs,z⟩
     ·rw [q] at z; cases z
     ·have z2:=un.frzs b ob _ z;obtain ⟨e1,_⟩:=hok b _ z;obtain ⟨e2,_⟩:=hok' b _ z2;rw [e] at e1; cases e1;exact e2
 cases hk:K.lookup a with
 | some o =>
  -- the script is one of the module's own objects
  have e:=KX a o hk;rw [ha] at e
  cases e;refine core (fun _=>none) (fun _=>.inl rfl) (.inr ⟨_,vs.toArray,_,hk,rfl,rfl,rfl,by rw [aA,lenV]; exact hl,by simpa using rv⟩) (fun b u z=>by have z':(none:Option HO)=some u:=z; cases z') (fun b z=>absurd rfl z) fun z=>absurd rfl z
 | none =>
  refine core (fun b=>if b=a then some (.frz {cls:=.type "list",data:=.seq vs.toArray} (.lst (ns.map V.int))) else none) (fun b=>?_) (.inl (.inr ⟨{cls:=.type "list",data:=.seq vs.toArray},if_pos rfl⟩)) (fun b u z=>?_) (fun b z=>?_) fun _=>hk
  ·by_cases hb:b=a
   ·exact .inr ⟨_,_,if_pos hb⟩
   ·exact .inl (if_neg hb)
  ·by_cases hb:b=a
   ·have z':=(if_pos hb).symm.trans z
    cases z';subst hb;exact ⟨ha,by rw [aa]; exact hl,vs,_,rv,ha⟩
   ·have z':=(if_neg hb).symm.trans z
    cases z'
  ·by_cases hb:b=a
   ·exact hb
   ·exact absurd (if_neg hb) z
def BL:tV:=⟨.builtin "claim.caller" {},none,none,[],none⟩
theorem top0 {prog:aS} {w:bN} {s:ah} {mg:Str->Option ag} {f:ag} {name:Str} {vs:List ag} {R:ma->ah->Prop} (hg:s.heap.Ns bF mg) (hf:mg name=some f)
  (h:gc (aM prog w) rp (.call f ⟨vs,[]⟩) (fun r z=>match r with | .ok (.ret v)=>R (.ok (.ret v)) z | .ok _=>False | .error e=>R (.error e) z) s) :
  Dp (aM prog w) BL (do match <- nsGet mainNs name with | some f=>do ret (<- PySem.call f vs) | none=>unsupported "claim.caller:no-such-global") (Sem.finPost (aM prog w) BL R) (fun e _ z=>R (.error e) z) default s:=by
 rw [tW];have z:=(wpAny_nsGet (M:=aM prog w) (A:=rp) (E:=fun e z=>R (.error e) z) (Q:=fun o z=>o=some f/\z=s) hg (by rw [hf]; exact ⟨rfl,rfl⟩)) BL default caller_in;refine rn _ _ _ (fun o p z y=>?_) (fun _ _ _ y=>y) _ _ z;obtain ⟨rfl,rfl⟩:=y;dsimp only;rw [tW];show Dp _ _ (runValue (.call f ⟨vs,[]⟩)) _ _ _ _;rw [Gx];refine wpCode_mono (fun r y q=>?_) (h (BL.enter (.call f ⟨vs,[]⟩) none p) p rfl rfl (caller_in.enter _ none p (by intro x; cases x)))
 cases r with
 | error e=>exact q
 | ok fl =>
  cases fl with
  | ret v=>exact q
  | next=>exact q
  | brk=>exact q
  | cont=>exact q
open PySem.W in
def WalkC (q:aS) (loose:List Str) (XP:(Str->Option ag)->cI->Prop) (YP:bN->cI->Prop) (r:RowW) (d:IM):Prop:=
 ∀ (w:bN) (s₀ s₁:ah) (mg mb:Str->Option ag),Ground q loose r.records XP w s₀ mg mb s₁.heap->YP w s₁.heap->∀ (a:aj) (dV kV:ag) (kwd:List (Str×cA)),Dflts mg s₁.heap d.params kwd dV kV->mg d.name=some (.ref a)->s₁.gens=#[] ->
  ∀ (args:List WData) (vals:List ag) (as:List aj),r.claim.pre args=true->tU args=true->ReadsAllW r.records (Jv s₀.heap) s₁.heap vals args as->WellAll w.params s₁.heap vals args ->
   gc (aM r.prog w) rp (.call (.ref a) ⟨vals,[]⟩) (GoodWG r.claim (Jv s₀.heap) (ExcName.means s₀.heap) args s₁) s₁
open PySem.W in
theorem fromC {c:ClaimW} {name:Str} {w:bN} {s:ah} {free:aj->Prop} {gens:Prop} {kept:cI->Prop} (hz:s.asleep) (hgs:s.gens=#[])
  (h:∀ args,c.pre args=true->tU args=true->∀ ord:List xp->List xp,(∀ l,(ord l).Perm l)->∃ vs z,layAllW c.records (Jv s.heap) w.params ord args s=some (vs,z) /\
   Dp (aM c.prog w) BL (callStub name vs).cur (Sem.finPost (aM c.prog w) BL fun r y=>(c.Ends s args vs z r y/\y.os=s.os/\kept y.heap)/\rH y.gens=false) (fun e _ y=>(c.Ends s args vs z (.error e) y/\y.os=s.os/\kept y.heap)/\rH y.gens=false) default z) :
  c.CallFrom (callStub name) w free gens kept s:=by
 intro args a1 a2 ord a3;obtain ⟨vs,z,hl,hw⟩:=h args a1 a2 ord a3;have rest:=layAllW_rest _ _ _ hl;obtain ⟨k,r,y,y2,hs,hn,hfo,⟨hE,ho,hk⟩⟩:=wp_halts_full (M:=aM c.prog w) (Shared.asleep_of_life rest.2.2.2 hz) hw;obtain ⟨eh,_,_,eo,_⟩:=Shared.forget_eq hfo
 replace hE:=hE.congr eh
 rw [<- eh] at hk;rw [<- eo] at ho;have life:y2.heap.life=s.heap.life:=(runN_life _ _ _ hn).trans rest.2.2.2;refine ⟨vs,z,hl,k,_,y2,hs,?_,(fun _ i x hx=>by rw [hgs] at hx; simp at hx),hk,by rw [life],Shared.rest_eq ho⟩
 rcases hE with ⟨v,rfl,d1,d2,d3,d4,d5⟩ | ⟨e,ob,cls,rfl,d1,d2,d3,d4,d5⟩
 ·exact .inl ⟨v,rfl,d1,d2,d3,fun b o q _=>d4 b o q,d5⟩
 ·exact .inr ⟨e,ob,cls,rfl,d1,d2,d3,d4,fun b o q _=>d5 b o q⟩
open PySem.W in
theorem headC {r:OpenRow} {q:aS} {loose:List Str} {Xt:ah->Bool} {XP:(Str->Option ag)->cI->Prop} {α:Type} {Yf:ah->α} {Ya:bN->α} {YP:bN->cI->Prop} {d:IM} {kwd:List (Str×cA)} {N:Nat}
  (left:LeftO r.prog q loose Xt Yf Ya N) (hY:∀ w s,Yf s=Ya w->YP w s.heap) (hYk:∀ w h h',YP w h->(∀ b o,h.get? b=some o->h'.get? b=some o)->YP w h') (hX:∀ s,Xt s=true->XP (s.heap.nsMap bF) s.heap) (hXk:∀ mg h h',XP mg h->(∀ b o,h.get? b=some o->h'.get? b=some o)->XP mg h')
  (hdef:defOf q r.name=some (d,kwd)) (hp:r.prog.theDef r.name=some (d.params,d.body,d.scope)) (hk:kwWritten? d.params.kwonlyargs d.params.kw_defaults=some kwd) (hRf:∀ s,Xt s=true->RecFacts r.records s.heap) (hwr:(!r.writes || r.records.isEmpty)=true) (k1:r.wellSaid=true)
  (ok:(chainsOk q && opensWell r.prog && (frees r.toRowW && r.within.isEmpty))=true) (hb:r.prog.bare) (hw:r.toRowW.promised) (rO:WalkC q loose XP YP r.toRowW d):r.Holds:=by
 obtain ⟨ok1,ok2⟩:=gb.mp ok;obtain ⟨hch,hop⟩:=gb.mp ok1;obtain ⟨hfr,hwi⟩:=gb.mp ok2;obtain ⟨hsame,hu,ha,hap,hm⟩:=frees_parts hfr;have hi:=ident_freeW hu ha hap;have hwi':r.toRowW.claim.within=[]:=List.isEmpty_iff.mp hwi;refine ⟨k1,hw,⟨hb,hop,by show r.makers.map _=[]; rw [hm]; rfl⟩,hw.witness,fun w=>⟨(left.behind hX hch w).1,fun z hz=>?_⟩⟩;obtain ⟨s₀,e1,e2,s,T,sl,g0,ns,G0,y⟩:=(left.behind (XP:=fun mg h=>XP mg h/\RecFacts r.records h) (fun s hs=>⟨hX s hs,hRf s hs⟩) hch w).2 z hz;have G1:Ground q loose [] XP w s (s.heap.nsMap bF) (s.heap.nsMap zC) s.heap:=⟨G0.T,G0.B,G0.D,G0.TE,G0.TD,G0.W,G0.X.1,G0.cls,G0.has,G0.apart,G0.once,G0.K⟩;have RF:=G0.X.2;have gs:s.gens=#[]:=kL (beq_iff_eq.mp g0);refine ⟨s₀,e1,e2,s,T,fun n hn=>?_,RF.1,RF.2.1,?_⟩
 ·obtain rfl:n=r.name:=by split at hn <;> simp_all
  exact pinned_of_view ns G1 hdef hp hk
 have G2:Ground q loose r.records XP w s _ _ s.heap:=RF.ground G1;refine fromC (c:=r.toRowW.claim) sl gs fun args a1 a2 ord a3=>?_;obtain ⟨⟨vs,s₁⟩,hl⟩:=ou.mp (layAllW_isSome (P:=w.params) (ord:=ord) G2.has args r.args s (Iy a1).1);have kp:=layAllW_keeps _ _ _ hl;have al:=layAllW_rest _ _ _ hl;obtain ⟨as,h1,h2,h3⟩:=reads_layAllW a3 _ _ _ hl a2 s₁.heap (fun _ _ e=>e);have L:Laid r.records w s s₁ args vs as:=⟨⟨ord,a3,hl⟩,h1,h2,h3,kp,al.1.trans gs,al.2.2.1⟩;have G3:=G2.keeps hXk kp;obtain ⟨a,o,pm,cd,doc,dV,kV,f1,f2,f3,f4,f5⟩:=G3.fn hdef;have run:=rO w s s₁ _ _ G3 (hYk _ _ _ (hY w s y) kp) a dV kV kwd f5 (defOf_name hdef ▸ f1) L.gens args vs as a1 a2 L.reads L.well;refine ⟨vs,s₁,hl,top0 (R:=fun r' y=>(r.toRowW.claim.Ends s args vs s₁ r' y/\y.os=s.os/\_)/\rH y.gens=false) G3.T.g f1 (jF run fun r' y g=>?_)⟩;have z:=g.laid (c:=r.toRowW.claim) hsame hwi' hi L;have fin:(r.toRowW.claim.Ends s args vs s₁ r' y/\y.os=s.os/\(r.writes=true->namesKept r.prog r.keeps s.heap y.heap/\∀ x∈r.records,∀ a,Jv s.heap x.1=some a->recordClass y.heap a x.1 (x.2.map (·.1))=true))/\rH y.gens=false:=
  ⟨⟨z.1,z.2.1,fun q=>⟨namesKept_of T ns r.keeps kp g.2.1.old,noTable hwr q⟩⟩,leftWithCleanup_false_of_bare z.2.2⟩
 cases r' with
 | error e=>exact fin
 | ok fl =>
  rcases g.1 with ⟨v,_,_,e,_⟩ | ⟨e,_,_,e',_⟩
  ·cases e;exact fin
  ·cases e'
open PySem.W in
theorem walkC_of {l:OpenLaw} {n k:Nat} {q:aS} {loose:List Str} {XP:(Str->Option ag)->cI->Prop} {YP:bN->cI->Prop} {d:IM} {K:Params->ai} {CX:bN->CXT} {sp:bN->Sp} {x:Str}
  (hn:l.most=some n) (hn2:n<=ax) (hdf:d.params.defaults=[]) (hr:dE k rp) (hY:∀ (w:bN) (h:cI),YP w h->(K w.params).In h)
  (F:∀ (w:bN) (mg:Str->Option ag) (fa:aj) (h:cI),(K w.params).In h->h.Ns bF mg->mg d.name=some (.ref fa) ->
   ∃ fd:cf,(∀ (s:ah) (u:ag),tD s fd ⟨[u],[]⟩ [(x,u)])/\∀ base:cI,(K w.params).In base->base.Ns bF mg->dU l.prog w (K w.params) mg base (CX w) k fa fd [x] (sp w))
  (hsp:∀ (w:bN) (H:Hp) (a:aj) (ns:List Int),ns.length<=n->(∀ x∈ns,gP x<=1048576)->SqL (K w.params) H a (ns.map V.int)->sp w [.ref a] H (fun v _=>v=.bl true) fun _ _ _=>False)
  (hCX:∀ (w:bN) (H:Hp) (s:ah) (e:ag) (s':ah),CX w [] H s (fun _ _ _=>False) e s'->False):WalkC q loose XP YP l.row.toRowW d:=by
 intro w s₀ s₁ mg mb G Y fa dV kV kwd hD hmg hg args vals as hpre hlay hrd hwl;obtain ⟨a,vs,ns,rfl,rfl,hobj,hints,hlen⟩:=Att.script_of hn hpre hwl;obtain ⟨fd,hb,hF⟩:=F w mg fa _ (hY w _ Y) G.T.g hmg;refine jF (BK (hY w _ Y) G.T.g G.T.b G.T.builtins G.T.nolimit hg hobj hints (bC hlen hn2) hr hF hb (fun H hO hS=>hsp w H a ns hlen (Att.bits_of_lay hlay) hS) fun H e s'=>hCX w H s₁ e s') fun r s' hq=>?_;obtain ⟨rfl,h2,h3,h4⟩:=hq;exact ⟨.inl ⟨.bool true,.bool true,[],rfl,fun _=>rfl,.bool true,Att.post_true l _,fun _=>⟨List.Pairwise.nil,fun _ hm=>(nomatch hm)⟩⟩,h2,h3,h4⟩
section
variable {X:Cx} {pins:List (aj×Obj)} {σ:St} {H:Hp} {s:ah} {d:aj}
end
section
variable {P:aS} {w:bN} {K:ai}
end
section
variable {X:Cx} {o:cA} {to:TE} {apos cpos:Pos} {elts:List cA} {x1:Nat} {pos:Pos}
end
end L2
namespace L2
open PySem PySem.Spec PyProof.Rows PySem.SeqAt
def BSc (x y:V) (b:Bool):Prop:=(∃ i j:Int,x=.int i/\y=.int j/\b=decide (i=j))\/∃ i j:Str,x=.str i/\y=.str j/\b=decide (i=j)
def BEq (H:Hp):Nat->V->V->Bool->Prop
 | 0,x,y,b=>BSc x y b
 | n + 1,x,y,b=>BSc x y b\/∃ p q xs ys,x=.ref p/\y=.ref q/\((H p=some (.lst xs)/\H q=some (.lst ys)/\xs.length≠ys.length/\b=false) \/
   (((H p=some (.lst xs)/\H q=some (.lst ys))\/(H p=some (.tup xs)/\H q=some (.tup ys)))/\xs.length=ys.length/\∃ e:Nat->Bool,(∀ i x y,xs[i]?=some x->ys[i]?=some y->BEq H n x y (e i))/\b=(iz xs.length).all e))
theorem BSc.self {x:V} {b:Bool} (h:BSc x x b):b=true:=by
 rcases h with ⟨i,j,e1,e2,rfl⟩ | ⟨i,j,e1,e2,rfl⟩
 ·rw [e1] at e2
  cases e2;exact decide_eq_true rfl
 ·rw [e1] at e2
  cases e2;exact decide_eq_true rfl
theorem BEq.self {H:Hp}:∀ {n:Nat} {x:V} {b:Bool},BEq H n x x b->b=true
 | 0,_,_,h=>BSc.self h
 | n + 1,x,b,h=>by
  rcases h with h | ⟨p,q,xs,ys,e1,e2,h⟩
  ·exact h.self
  ·rw [e1] at e2
   cases e2
   rcases h with ⟨h1,h2,h3,_⟩ | ⟨h1,_,e,he,rfl⟩
   ·rw [h1] at h2
    cases h2;exact absurd rfl h3
   ·have exy:xs=ys:=by
     rcases h1 with ⟨h1,h2⟩ | ⟨h1,h2⟩
     ·rw [h1] at h2
      cases h2;rfl
     ·rw [h1] at h2
      cases h2;rfl
    subst exy;rw [kQ];intro i hi;have lt:=nz.mp hi;exact BEq.self (he i _ _ (aN lt) (aN lt))
section
variable {P:aS} {w:bN} {H:Hp} {s:ah}
theorem Af {A:bJ} {x y:V} {u v:ag} {b:Bool} (h:BSc x y b) (ru:RelV x u) (rv:RelV y v):EqAt A s u v b:=by
 rcases h with ⟨i,j,rfl,rfl,rfl⟩ | ⟨i,j,rfl,rfl,rfl⟩
 ·obtain ⟨t,rfl⟩:=(show ∃ t,u=Value.int i t from ru);obtain ⟨t',rfl⟩:=(show ∃ t',v=Value.int j t' from rv);have z:=EqAt.int_int (A:=A) (s:=s) i t j t';have e:(i == j)=decide (i=j):=by
   by_cases c:i=j
   ·rw [decide_eq_true c,beq_iff_eq.mpr c]
   ·rw [decide_eq_false c,beq_eq_false_iff_ne.mpr c]
  rw [e] at z;exact z
 ·obtain ⟨t,rfl⟩:=(show ∃ t,u=Value.str i t from ru);obtain ⟨t',rfl⟩:=(show ∃ t',v=Value.str j t' from rv);have z:=EqAt.str_str (A:=A) (s:=s) i t j t';have e:(i == j)=decide (i=j):=by
   by_cases c:i=j
   ·rw [decide_eq_true c,beq_iff_eq.mpr c]
   ·rw [decide_eq_false c,beq_eq_false_iff_ne.mpr c]
  rw [e] at z;exact z
theorem IP (ok:HOk P w H s.heap) {A:bJ} {n:Nat} {p q:aj} {xs ys:List V} {b:Bool} (hu:A.units < gp)
  (rec:∀ x y b,BEq H n x y b->∀ u v,RelV x u->RelV y v->EqAt A.in1 s u v b)
  (h:(H p=some (.lst xs)/\H q=some (.lst ys)/\xs.length≠ys.length/\b=false) \/
   (((H p=some (.lst xs)/\H q=some (.lst ys))\/(H p=some (.tup xs)/\H q=some (.tup ys)))/\xs.length=ys.length/\∃ e:Nat->Bool,(∀ i x y,xs[i]?=some x->ys[i]?=some y->BEq H n x y (e i))/\b=(iz xs.length).all e)):RcAt A s (.ref p) (.ref q) b:=by
 rcases h with ⟨h1,h2,h3,rfl⟩ | ⟨h1 | h1,hl,e,he,rfl⟩
 ·obtain ⟨us,r1,i1⟩:=fc ok h1;obtain ⟨vs,r2,i2⟩:=fc ok h2;refine RcAt.lists_lengths i1 i2 ?_ hu;rw [aA,aA,<- r1.length,<- r2.length];exact bne_iff_ne.mpr h3
 ·obtain ⟨us,r1,i1⟩:=fc ok h1.1;obtain ⟨vs,r2,i2⟩:=fc ok h1.2;have l1:=r1.length;have l2:=r2.length;have k:=RcAt.lists (A:=A) (e:=e) i1 i2 (by rw [aA,aA]; omega) hu (fun j a b=>by
   have ja:j < us.length:=by simpa using a
   have jb:j < vs.length:=by simpa using b
   have hx:xs[j]?=some (xs[j]'(by omega)):=aN _;have hy:ys[j]?=some (ys[j]'(by omega)):=aN _;obtain ⟨u,hu',ru⟩:=r1.get hx;obtain ⟨v,hv',rv⟩:=r2.get hy;have eu:us[j]=u:=(aQ.mp hu').2;have ev:vs[j]=v:=(aQ.mp hv').2;have z:=rec _ _ _ (he j _ _ hx hy) u v ru rv;simpa [eu,ev] using z)
  rw [aA,<- l1] at k;exact k
 ·obtain ⟨us,r1,i1⟩:=oI ok h1.1;obtain ⟨vs,r2,i2⟩:=oI ok h1.2;have l1:=r1.length;have l2:=r2.length;have k:=RcAt.tuples (A:=A) (e:=e) i1 i2 hu (fun j a b=>by
   have ja:j < us.length:=by simpa using a
   have jb:j < vs.length:=by simpa using b
   have hx:xs[j]?=some (xs[j]'(by omega)):=aN _;have hy:ys[j]?=some (ys[j]'(by omega)):=aN _;obtain ⟨u,hu',ru⟩:=r1.get hx;obtain ⟨v,hv',rv⟩:=r2.get hy;have eu:us[j]=u:=(aQ.mp hu').2;have ev:vs[j]=v:=(aQ.mp hv').2;have z:=rec _ _ _ (he j _ _ hx hy) u v ru rv;simpa [eu,ev] using z)
  have es:(us.toArray.size == vs.toArray.size)=true:=by
   rw [aA,aA,<- l1,<- l2,hl];exact beq_self_eq_true _
  rw [es,Bool.and_true] at k;have em:min us.toArray.size vs.toArray.size=xs.length:=by
   rw [aA,aA];omega
  first
   |(rw [em] at k; exact k)
   |(rw [aA,<- l1] at k; exact k)
theorem Dx (ok:HOk P w H s.heap):∀ {n:Nat} {A:bJ} {x y:V} {u v:ag} {b:Bool},A.units + n < gp->BEq H n x y b->RelV x u->RelV y v->EqAt A s u v b
 | 0,A,x,y,u,v,b,_,h,ru,rv=>Af h ru rv
 | n + 1,A,x,y,u,v,b,hu,h,ru,rv=>by
  rcases id h with h' | ⟨p,q,xs,ys,rfl,rfl,h'⟩
  ·exact Af h' ru rv
  ·cases ru
   cases rv
   by_cases e:p=q
   ·subst e;rw [BEq.self h];exact EqAt.same _
   ·exact EqAt.of_refs e (IP ok (by omega) (fun x y b z u v ru rv=>Dx ok (by show A.units + 1 + n < gp; omega) z ru rv) h')
end
section
variable {X:Cx}
end
end L2
namespace L2
open PySem PySem.Spec PyProof.Rows
theorem str_same {a b:Str} (h:a.cps.toList=b.cps.toList):a=b:=by
 cases a
 cases b;have z:=hV.mp h;dsimp only at z;rw [z]
theorem wx:∀ (p:Str) (l:List Str),risingS p l=true->(p :: l).Pairwise (fun a b=>a.cps.toList<=b.cps.toList)
 | p,[],_=>sF.mpr ⟨fun _ h=>(nomatch h),List.Pairwise.nil⟩
 | p,x :: r,h=>by
  have h:(!ltCps x.cps.toList p.cps.toList && risingS x r)=true:=h;rw [dA,ltCps_eq] at h;have h1:p.cps.toList<=x.cps.toList:=by
   have z:=h.1;intro c;rw [decide_eq_true c] at z
   cases z
  have h2:=wx x r h.2;refine sF.mpr ⟨fun y hy=>?_,h2⟩
  rcases au.mp hy with rfl | hy
  ·exact h1
  ·exact List.le_trans h1 ((sF.mp h2).1 y hy)
theorem sorted_pw {l:List Str} (h:sortedS l=true):l.Pairwise (fun a b=>a.cps.toList<=b.cps.toList):=by
 cases l with
 | nil=>exact List.Pairwise.nil
 | cons x r=>exact wx x r h
theorem AY:∀ {ss:List Str} {vs:List ag},dq (ss.map V.str) vs->tG vs ss
 | [],_,h=>by
  cases h;exact .nil
 | x :: r,_,h=>by
  cases h with
  | cons a b =>
   obtain ⟨t,rfl⟩:=a;exact .cons x t (AY b)
theorem AZ {vs:List ag} {ss:List Str} (h:tG vs ss):dq (ss.map V.str) vs:=by
 induction h with
 | nil=>exact .nil
 | cons y t _ ih=>exact .cons ⟨t,rfl⟩ ih
section
variable {prog:aS} {w:bN} {A:bJ} {E:ag->ah->Prop} {s:ah}
theorem yK {K:Type} [DecidableEq K] {knd:Gm prog w K} {d:aj} {kvs:List (K×ag)} {ss:List Str} {Q:ag->ah->Prop} (hh:A.handled=none) (lo:(d == fw)=false) (hm:s.heap.DictOf knd d kvs) (h64:ss.length < 64)
  (hk:∀ vs:List ag,vs.length=kvs.length->(∀ (j:Nat) (v:ag),vs[j]?=some v->∃ k x,kvs[j]?=some (k,x)/\knd.is k v=true)->tG vs ss)
  (h:∀ (h1 h2:cI) (tk:Nat) (vs':List ag) (ss':List Str) (e:Nat),(∀ b o,s.heap.get? b=some o->h1.get? b=some o)->(∀ b o,h1.get? b=some o->h2.get? b=some o)->h2.get? h1.objs.size=some {cls:=.type "list",data:=.seq vs'.toArray e}->tG vs' ss'->ss'.Perm ss->sortedS ss'=true->Q (.ref h1.objs.size) {s with heap:=h2,toks:=tk}) :
  aY (aM prog w) A (rO (.builtin "sorted") [.ref d]) Q E s:=by
 obtain ⟨ep,hat⟩:=hm.dictAt;have hlen:kvs.length<=ax\/ax < kvs.length:=by omega
 refine Calls.call_function_entry kind_sorted plain_sorted entry_sorted (args_sorted1 _) ?_;unfold km.«sorted»;refine af (m:=checkCount "sorted" 1 1 _) (av ?_);have small:kvs.length < 64:=by
  obtain ⟨o,es,ep',e1,e2,e3,e4,e5,e6⟩:=hm;have z:=hk ((es.toList).map (·.key)) (by rw [aa]; exact e5.length) (fun j v hv=>by
   rw [cw] at hv
   cases e:es.toList[j]? with
   | none=>rw [e] at hv; cases hv
   | some en =>
    rw [e] at hv
    cases hv;obtain ⟨kv,a,b,_⟩:=pairs_at e5 e;exact ⟨kv.1,kv.2,a,b⟩)
  have y:∀ {vs:List ag} {ss:List Str},tG vs ss->vs.length=ss.length:=fun q=>by
   induction q with
   | nil=>rfl
   | cons _ _ _ ih=>rw [aE,aE,ih]
  have x:=y z;rw [aa,e5.length] at x;omega
 have sl:64<=ax:=by decide
 refine af (PySem.W.kdu_collect (A:=A.in1) (PySem.W.kdl_dict (knd:=knd) (kvs:=kvs) (ep:=ep) lo) hh hat (by omega) fun h' tk acc hkp hacc=>?_);have hl:acc.toList.length=kvs.length:=by rw [bY]; exact hacc.1
 have hS:tG acc.toList ss:=hk acc.toList hl fun j v e=>hacc.2 j v (by rw [<- kD]; exact e);refine af (wpAny_newList ?_ (by rw [hl]; omega));have hoL:(h'.push (seqObj "list" acc.toList.toArray 0)).get? h'.objs.size=some (seqObj "list" acc.toList.toArray 0):=bH _ rfl;refine af (bK (wpAny_call_entry slot_list_sort ⟨_,hoL,rfl⟩ entry_list_sort (list_sort_treeK (s:={s with heap:=h'.push (seqObj "list" acc.toList.toArray 0),toks:=tk}) strKind_oneLt hoL hS.keysOf (fun v₁ v₂ rest e=>keyKind_strs (by rw [<- e]; exact hS)) (by rw [hl]; exact small) fun st' a1 a2=>⟨_,rfl,?_⟩) (args_list_sort _)));obtain ⟨ss',b1,b2,b3⟩:=sorted_out_str hS a1 a2;obtain ⟨e,he⟩:=sortedHeap_at (out:=(arrOf st').map (·.2)) hoL;refine av ⟨_,rfl,h h' _ tk _ ss' e hkp (fun b o q1=>?_) he b1 b2 b3⟩;have lt:=bb q1;rw [sortedHeap_old (br lt) (by rw [jk]; exact ku lt)];exact ay _ q1
end
section
variable {X:Cx}
theorem yL {l₁ l₂:List Str} (h:l₁.Perm l₂):l₁.length=l₂.length:=h.length_eq
theorem xF (hc:X.calm=true):l8 X (.builtin "sorted") (fun xs H Q=>∃ p ss,xs=[V.ref p]/\(H p=some (.lst (ss.map V.str))\/∃ kvs:List (Key×V),H p=some (.dK kvs)/\kvs.map (·.1)=ss.map Sum.inr)/\ss.length < 64 /\
  ∀ (l:aj) (ss':List Str),H l=none->ss'.Perm ss->sortedS ss'=true->Q (.ref l) (upd H l (.lst (ss'.map V.str)))):=by
 intro pins s σ H xs us Q I r h;obtain ⟨p,ss,rfl,hp,h64,q⟩:=h;obtain ⟨u,rfl,ru⟩:=vals1 r
 cases ru;have sl:64<=ax:=by decide
 rcases hp with hp | ⟨kvs,hp,hk⟩
 ·obtain ⟨its,n,rv,ho,hz⟩:=I.lst hp;have hS:=AY rv;have hl:=rv.length;rw [aa] at hl;refine sorted_strs (l:=p) (vs:=its) ⟨_,ho,rfl,n,rfl⟩ hS (by omega) fun out ss' b1 b2 b3=>?_;obtain ⟨e,he⟩:=sortedAll_at s.heap its out;have z:=I.laid (a:=s.heap.objs.size + 1) (o:=.lst (ss'.map V.str)) (t':=s.toks) (fun _ _=>sortedAll_old) (gS _) (h':=sortedAll s.heap its out) ⟨by rw [aa,yL b2]; omega,out.toList,e,AZ b1,by rw [he]⟩;exact ⟨.ref (s.heap.objs.size + 1),_,z,rfl,q _ ss' (I.hok.fresh (gS _)) b2 b3⟩
 ·obtain ⟨_,n1,ws,k1,m1⟩:=(show gj X.prog X.w H s.heap p (.dK kvs) from I.hok p _ hp);have keys:∀ (kvs:List (Key×V)) (ss:List Str) (ws:List (Key×ag)),KV kvs ws->kvs.map (·.1)=ss.map Sum.inr->∀ vs:List ag,vs.length=ws.length->(∀ (j:Nat) (v:ag),vs[j]?=some v->∃ k x,ws[j]?=some (k,x)/\(gL X.prog X.w).is k v=true)->tG vs ss:=by
   intro kvs
   induction kvs with
   | nil =>
    intro ss ws k e vs hl _
    cases k
    cases ss with
    | nil =>
     cases vs with
     | nil=>exact .nil
     | cons _ _=>cases hl
    | cons _ _=>cases e
   | cons kv r ih =>
    intro ss ws k e vs hl hv
    cases k with
    | @cons _ w' _ wr z zr =>
     cases ss with
     | nil=>cases e
     | cons x ssr =>
      rw [bu,bu] at e;injection e with e1 e2
      cases vs with
      | nil=>cases hl
      | cons v vr =>
       obtain ⟨k',x',a,b⟩:=hv 0 v rfl;have a:w'=(k',x'):=b0 a;have ek:k'=Sum.inr x:=by
        rw [<- e1,z.1,a]
       subst ek;obtain ⟨t,rfl⟩:=AC (x:=x) (v:=v) b;exact .cons x t (ih ssr wr zr e2 vr (EO hl) fun j v' hj=>hv (j + 1) v' hj)
  refine yK (knd:=gL X.prog X.w) (I.ok.hd hc) n1 m1 h64 (keys kvs ss ws k1 hk) fun h1 h2 tk vs' ss' e kp1 kp2 he b1 b2 b3=>?_;have I1:Inv X pins σ H {s with heap:=h1,toks:=tk}:=I.kept (t':=tk) kp1;have z:=I1.laid (a:=h1.objs.size) (o:=.lst (ss'.map V.str)) (t':=tk) (h':=h2) kp2 (aF _) ⟨by rw [aa,yL b2]; omega,vs',e,AZ b1,he⟩;exact ⟨.ref h1.objs.size,_,z,rfl,q _ ss' (I1.hok.fresh (aF _)) b2 b3⟩
end
structure tY (K:ai) (C:aj):Prop where
 ga:bV K (.ref C) "__getattribute__"=some (some (.builtin "BaseException.__getattribute__"))
 gh:bV K (.ref C) "__getattr__"=some none
 cl:bV K (.ref C) "__class__"=some (some (.builtin "object.__class__"))
 cn:rR K (.builtin "object.__class__") "__get__"=some (some (.builtin "getset_descriptor.__get__"))
 ck:tQ K (.builtin "object.__class__")=some true
 ob:nY K C (.type "object")=some true
 be:nY K C (.type "BaseException")=some true
theorem tY.cs {K:ai} {C:aj} (c:tY K C):∃ cd,iA K C=some cd:=by
 obtain ⟨cd,a,_⟩:=oU.mp c.ob;exact ⟨cd,a⟩
section
variable {prog:aS} {w:bN} {A:bJ} {E:ag->ah->Prop} {s:ah} {K:ai} {x C:aj} {ox:Obj}
theorem BM {nameV:ag} {Q:Unit->ah->Prop} (X:K.In s.heap) (I:eF s.heap x ox C none) (c:tY K C) (h:Q () s):aY (aM prog w) A (jQ "BaseException.__getattribute__" ⟨[.ref x,nameV],[]⟩) Q E s:=by
 obtain ⟨hh,g,d,t,os⟩:=s;have hk:builtinKind "BaseException.__getattribute__"=some .slot:=by decide +kernel
 have hsplit:splitId "BaseException.__getattribute__"=some ("BaseException","__getattribute__"):=by decide +kernel
 have ha:=F.args_bexc_ga (.ref x) nameV;have L0:=I.type (M:=aM prog w);have L1:=qP (M:=aM prog w) X c.be;simp only [jQ,hk,hsplit];refine af ?_;unfold Ag;refine af (L0.at (L1.at ?_))
 repeat (first | assumption | wp_step)
theorem BN {Q:Option ag->ah->Prop} (X:K.In s.heap) (I:eF s.heap x ox C none) (c:tY K C) (h:Q (some (.ref C)) {s with toks:=s.toks + 1}):aY (aM prog w) A (Fx (.ref x) "__class__") Q E s:=by
 have L0:=I.type (M:=aM prog w);have L1:=eQ (M:=aM prog w) X c.ga;have L2':=eQ (M:=aM prog w) X c.gh;have hf:px K C none "__class__"=some (.bind (.builtin "getset_descriptor.__get__") (.builtin "object.__class__")):=by
  obtain ⟨cd,hc⟩:=c.cs;unfold px;rw [hc,oV,c.cl,oV];simp [c.cn,c.ck]
 have L3:=rq (M:=aM prog w) X I hf;obtain ⟨hh,g,d,t,os⟩:=s;unfold Fx getAttrBy? getAttrBy;refine af (Dy (af (qp (bK (af (L0.at (af (L1.at ?_))))))));dsimp only;rw [if_neg (show ¬ ((mr (Value.ref C) && Value.builtin "BaseException.__getattribute__" == Value.builtin "object.__getattribute__")=true) by rw [show (Value.builtin "BaseException.__getattribute__" == Value.builtin "object.__getattribute__")=false by decide +kernel,jo]; decide)];unfold yM IQ;rw [if_pos (show mr (Value.ref C)=true from rfl)];refine af (L2'.at (af (qp (bK ?_))));unfold xG Ah;rw [if_neg (show ¬ ((false && mr (Value.builtin "BaseException.__getattribute__"))=true) by decide),gY.ga.bind];refine af (av (kq (nk gY.ga.plain xH (BM (s:=⟨hh,g,d,t + 1,os⟩) X I c ?_))));have fin:∀ (A':bJ) (R:ma->ah->Prop),R (.ok (.ret (.ref C))) ⟨hh,g,d,t + 1,os⟩->pQ (aM prog w) A' (.call (.builtin "getset_descriptor.__get__") ⟨[.builtin "object.__class__",.ref x,.ref C],[]⟩) R ⟨hh,g,d,t + 1,os⟩:=fun A' R q=>A0 (s:=⟨hh,g,d,t + 1,os⟩) X I c.ob q;unfold km.«object.__getattribute__» slotArgs;refine af (av ?_);refine af (av ?_);refine af (L0.at (af (L3.at ?_)));unfold qQ;refine af (bK (kq (fin _ _ ?_)));refine av ?_;exact r9 rfl (av h)
theorem Dz (c:tY K C):Fy K (.ref x) (.ref C) (fun h=>eF h x ox C none) where
 ty:=fun _ _ _ I=>I.type
 it:=fun _ _ X _=>by
  obtain ⟨cd,hc⟩:=c.cs;unfold iA at hc
  split at hc
  ·rename_i c' d' cd' sl' ho
   intro A' Q' E' s' k q;unfold isType loadHead;exact af (sN (k _ _ (X _ _ ho)) (av q))
  ·cases hc
 ne:=fun h tp dd its n sl X htp=>by
  obtain ⟨cd,hc⟩:=c.cs;refine DA.mpr fun q=>?_;have e:C=tp:=Value.ref.inj (beq_iff_eq.mp q);subst e;unfold iA at hc
  split at hc
  ·rename_i c' d' cd' sl' ho
   have z:=(X _ _ ho).symm.trans htp
   cases z
  ·cases hc
 ca:=fun X I k=>BN X I c k
end
section
variable {X:Cx} {pins:List (aj×Obj)} {σ:St} {H:Hp} {s:ah}
end
section
variable {P:aS} {w:bN} {H:Hp} {h h':cI} {a:aj} {o:HO} {fs ex:List aj}
theorem Un.laidN (k:∀ b u,h.get? b=some u->h'.get? b=some u) (hp:h.get? a=none) (hn:H a=none):Un fs ex H (upd H a o) h h' where
 keep:=fun b u q _ _ _=>k b u q
 slot:=fun b u q _ _ _=>⟨u.slots,k b u q⟩
 free:=fun b u q n _=>by
  rw [aX (fun z=>by rw [z,hp] at q; cases q)];exact n
 there:=fun b u q _=>⟨u,k b u q⟩
 tups:=fun b xs q=>by rw [aX (bw q hn)]; exact q
 frzs:=fun b u xs q=>by rw [aX (bw q hn)]; exact q
 tbls:=fun b ps q=>⟨#[],by rw [aX (bw q hn),q]; simp⟩
theorem HOk.laidN (x:HOk P w H h) (k:∀ b u,h.get? b=some u->h'.get? b=some u) (hn:H a=none) (new:gj P w (upd H a o) h' a o):HOk P w (upd H a o) h':=fun b u e=>by
 by_cases hb:b=a
 ·subst hb; rw [ao] at e; cases e; exact new
 ·rw [aX hb] at e;exact (x b u e).stay (fun c v _ q=>k c v q) (fun c q=>by rw [aX (bw q hn)]; exact q) fun c xs q=>by rw [aX (bw q hn)]; exact q
end
section
variable {X:Cx} {pins:List (aj×Obj)} {σ:St} {H:Hp} {s:ah} {C:aj} {x:Str} {p pos:Pos} {e:cA} {es:List cA} {t:TA}
end
section
variable {X:Cx} {CX:CXT} {k:Nat} {f C:aj} {fd:cf} {ps:List Str} {sp:Sp} {E:XK} {m:Str} {pos apos:Pos} {o:cA} {ta:TE}
end
section
variable {X:Cx} {pins:List (aj×Obj)} {σ:St} {H:Hp} {s:ah}
theorem BO {M:lU} {A:bJ} {E:ag->ah->Prop} {i:Nat} {x:Str} {v:V} {Q:Unit->ah->Prop} (I:Inv X pins σ H s) (hN:X.N.Nodup) (hi:X.N[i]?=some x) (hk:X.env.scope.names.lookup x=some .local) (hv:σ[i]?=some (some v))
  (h:∀ s',Inv X pins (σ.set i none) H s'->Q () s'):aY M A (unbindName X.env x) Q E s:=by
 obtain ⟨m,hn,hl⟩:=id I.loc;have hcls:(X.env.scope.kind == .class || (X.env.scope.kind == .module && X.env.locals != X.env.globals))=false:=by rw [I.ok.kind]; rfl
 have hkd:X.env.kindOf x=some .local:=hk;have hmx:(m x).isSome=true:=by
  obtain ⟨u,_,q⟩:=hl i x v hi hv (.inl hk)
  rcases q with ⟨_,e⟩ | ⟨k,_⟩
  ·rw [e]; rfl
  ·rw [hkd] at k
   rcases k with k | k <;> cases k
 unfold unbindName;refine af (pX (af ?_));unfold deleteName;simp only [hkd,hcls];rw [if_neg (by decide)];refine af (wpAny_nsDel_keeps hn fun h' v' hn' hs=>?_);rw [hmx];simp only [Bool.not_true,jR,if_false];refine av (pX (h _ ?_));obtain ⟨oL,_,_,hoL,_⟩:=id hn;have cne:=I.cne;have below:∀ b o,X.s₀.heap.get? b=some o->b≠X.env.locals:=fun b o e=>br (bg (bb e) I.ok.above);refine ⟨I.ok,I.os,I.bare,⟨fun b o e n hb hx=>(hs.2 b (below b o e)).trans (I.base.keep b o e n hb hx),fun b o e n hb hx=>?_,I.base.free,fun b o e hx=>?_,I.base.tups,I.base.frzs,I.base.tbls⟩,⟨_,hn',fun j y v2 e1 e2 e3=>?_⟩,fun y c e=>?_,I.free,I.freeC,fun p hp=>?_,fun b ob e=>?_,by simpa using I.len⟩
 ·obtain ⟨sl,e1⟩:=I.base.slot b o e n hb hx;exact ⟨sl,(hs.2 b (below b o e)).trans e1⟩
 ·obtain ⟨o',e1⟩:=I.base.there b o e hx;exact ⟨o',(hs.2 b (below b o e)).trans e1⟩
 ·by_cases hj:j=i
  ·subst hj;have hlt:j < σ.length:=(aQ.mp hv).1;rw [kj hlt] at e2
   cases e2
  ·rw [qU (eU hj)] at e2;obtain ⟨u',r',q⟩:=hl j y v2 e1 e2 e3;refine ⟨u',r',?_⟩
   rcases q with ⟨k,e⟩ | ⟨k,c,e,z⟩
   ·refine .inl ⟨k,?_⟩;have hne:y≠x:=fun e=>hj (uv hN e1 (e ▸ hi));simp [hne,e]
   ·exact .inr ⟨k,c,e,z.sameBut hs (cne y c e)⟩
 ·obtain ⟨w',z⟩:=I.cell y c e;exact ⟨w',z.sameBut hs (cne y c e)⟩
 ·obtain ⟨e,n,ne,nf,d⟩:=I.pin p hp;exact ⟨(hs.2 p.1 ne).trans e,n,ne,nf,d⟩
 ·refine (I.hok b ob e).stay (fun c w' hc q=>(hs.2 c ?_).trans q) (fun _ q=>q) fun _ _ q=>q;rintro rfl
  rcases hc with rfl | hc
  ·rw [I.free] at e; cases e
  ·rw [I.free] at hc; cases hc
def DC (i:Nat) (D:Ends):Ends:={nx:=fun σ H=>D.nx (σ.set i none) H,rt:=D.rt,bk:=fun σ H=>D.bk (σ.set i none) H,ct:=fun σ H=>D.ct (σ.set i none) H}
theorem uf {M:lU} {A:bJ} {E:ag->ah->Prop} {i:Nat} {x:Str} {pos:Pos} {Q:Unit->ah->Prop} (I:Inv X pins σ H s) (hN:X.N.Nodup) (hi:X.N[i]?=some x) (hk:X.env.scope.names.lookup x=some .local)
  (h:∀ s',Inv X pins (σ.set i none) H s'->Q () s'):aY M A (do bindName X.env x .none; sS X.env x pos) Q E s:=by
 have hlt:i < σ.length:=by
  rw [I.len];exact (aQ.mp hi).1
 refine af (Aa (oB (v:=.non) I hN hi (.inl hk) rfl (fun s1 I1=>?_) (.inr hk)));unfold sS;refine wpAny_onRaise (BO (v:=.non) I1 hN hi hk (kj hlt) fun s2 I2=>h s2 ?_);rw [List.set_set] at I2;exact I2
end
section
variable {X:Cx} {pins:List (aj×Obj)} {σ:St} {H:Hp} {s s2:ah} {h':cI}
end
section
variable {P:aS} {w:bN} {K:ai}
end
section
variable {X:Cx} {elts:List cA} {x1:Nat} {tpos pos p:Pos}
end
section
variable {prog:aS} {w:bN} {A:bJ} {E:ag->ah->Prop} {s:ah}
end
section
variable {X:Cx} {e:cA} {t:TA} {p pos kp bp:Pos} {j:Nat}
end
section
variable {X:Cx}
end
section
variable {X:Cx} {CX:CXT} {k:Nat} {ι:Type} {fm C:ι->aj} {fd:ι->cf} {ps:List Str} {sp:ι->Sp} {E:XK} {m:Str} {pos apos:Pos} {o:cA} {ta:TE}
end
section
variable {X:Cx}
def rSlS:V->Option Int->Option Int->Hp->VK->Prop:=fun x lo hi H Q=>∃ y,x=.str y/\y.length<=ax/\Q (.str (dP y lo hi)) H
theorem xI:SlR X rSlS:=by
 intro pins s σ H x v vl vu lo hi sl Q I rx hs pl pu h;obtain ⟨y,rfl,hy,q⟩:=h;obtain ⟨t,rfl⟩:=rx;have fin:∀ (l u:Option (Int×Tok)),dP y (l.map (·.1)) (u.map (·.1))=dP y lo hi->s.heap.IsSlice sl l u none->∃ T id,uF (.type T) "__getitem__"=pure (some (.builtin id))/\s.TypeIs (.str y t) T/\aY (aM X.prog X.w) X.A (rj (.str y t) (.ref sl)) (EP X pins σ Q) X.xe s:=fun l u e h=>by
  refine ⟨"str",_,F.slot_str_getitem.lookup,mj _ _ _,wpAny_getItem_str_slice (l:=l) (u:=u) (st:=none) h rfl (post_val_or_str ⟨bC (tZ y (l.map (·.1)) (u.map (·.1))) hy,fun t' k=>?_⟩)⟩;exact ⟨.str (dP y lo hi),H,I.tok _,⟨t',by rw [<- e]; rfl⟩,q⟩
 cases pl with
 | none=>cases pu with
  | none=>exact fin none none rfl hs
  | int j u=>exact fin none (some (j,u)) rfl hs
 | int i u=>cases pu with
  | none=>exact fin (some (i,u)) none rfl hs
  | int j u'=>exact fin (some (i,u)) (some (j,u')) rfl hs
end
end L2
namespace L2
open PySem PySem.Spec PyProof.Rows PySem.Builtin.Str
def Its (x:Str):It:=⟨fun i _=>i < x.cps.size,fun i H v H'=>H'=H/\∃ c,x.cps[i]?=some c/\v=.str ⟨#[c]⟩,fun i _=>i=x.cps.size⟩
theorem ug (x:Str):pY x="str_ascii_iterator"\/pY x="str_iterator":=by
 unfold pY
 split <;> simp
theorem BP {P:aS} {w:bN} {K:ai} {tg:cA} (it:aj) (x:Str) (t:Tok):Bz P w K tg (Its x) [it] it (fun i h=>h.IsStrIter it (pY x) x t i) where
 mem:=by simp
 obj:=fun i h st b hb=>by
  have e:b=it:=by simpa using hb
  subst e;obtain ⟨o,e,c,d⟩:=st;exact ⟨o,e,fun v z=>by rw [d] at z; cases z⟩
 keep:=fun i h h' st k=>by
  obtain ⟨o,e,r⟩:=st;exact ⟨o,k it (by simp) o e,r⟩
 item:=by
  intro X hP hw hK hc i pins s σ H E I hf st hg;subst hP hw hK;obtain ⟨f0,f1,f2,f3,f4,f5⟩:=hf it (by simp);have go:∀ (v:ag) (h':cI) (tk:Nat),SignAt x i v->h'.IsStrIter it (pY x) x t (i + 1)->(∀ b o,b∉[it]->s.heap.get? b=some o->h'.get? b=some o)->∃ u,some v=some u /\
   aY (aM X.prog X.w) X.A (i6 tg (.ref it) u) (fun _ s2=>∃ y H',Inv X pins σ H' s2/\RelV y u/\(Its x).yld i H y H'/\s2.heap.IsStrIter it (pY x) x t (i + 1)/\∀ b∈[it],H' b=none) E {s with heap:=h',toks:=tk}:=by
   rintro v h' tk ⟨c,u,hc',rfl⟩ st' kk;have I1:Inv X pins σ H {s with heap:=h',toks:=tk}:=I.turned (fun b o hb e=>kk b o (by simpa using hb) e) f0 f1 f3 f4 f5;obtain ⟨o,e,cl,d⟩:=id st';refine ⟨_,rfl,yp (s:={s with heap:=h',toks:=tk}) e cl d (by rcases ug x with z | z <;> rw [z] <;> decide) ⟨.str ⟨#[c]⟩,H,I1,⟨u,rfl⟩,⟨rfl,c,hc',rfl⟩,st',fun b hb=>(hf b hb).1⟩⟩
  rcases ug x with z | z
  ·rw [z] at st go |-;exact (Fz (prog:=X.prog) (w:=X.w) (I.ok.hd hc) it x t).item i s _ _ hg st fun v h' tk a b c=>go v h' tk a b c
  ·rw [z] at st go |-;exact (GA (prog:=X.prog) (w:=X.w) (I.ok.hd hc) it x t).item i s _ _ hg st fun v h' tk a b c=>go v h' tk a b c
 done:=by
  intro X hP hw hK hc i pins s σ H E I hf st hg;subst hP hw hK;obtain ⟨f0,f1,f2,f3,f4,f5⟩:=hf it (by simp)
  cases (show i=x.cps.size from hg)
  rcases ug x with z | z
  ·rw [z] at st;exact (Fz (prog:=X.prog) (w:=X.w) (I.ok.hd hc) it x t).done s _ _ st fun h' tk kk=>⟨rfl,I.turned (fun b o hb e=>kk b o (by simpa using hb) e) f0 f1 f3 f4 f5⟩
  ·rw [z] at st;exact (GA (prog:=X.prog) (w:=X.w) (I.ok.hd hc) it x t).done s _ _ st fun h' tk kk=>⟨rfl,I.turned (fun b o hb e=>kk b o (by simpa using hb) e) f0 f1 f3 f4 f5⟩
 self:=fun A i s Q E st h=>by
  rcases ug x with z | z
  ·rw [z] at st;exact wpAny_pyIter_striter_ascii st h
  ·rw [z] at st;exact wpAny_pyIter_striter_wide st h
section
variable {X:Cx} {tg:cA}
def GC (tl:TE):TI:=fun σ H R=>tl σ H fun x H1=>∃ y,x=.str y/\R (Its y) H1
theorem FA {l:cA} {tl:TE} (hl:PE X l tl):PI X tg l (GC tl):=by
 intro pins s σ H R I h;refine thn (hl pins s σ H _ I h) fun v s1 ⟨x,H1,I1,r1,y,e,q⟩=>?_;subst e;obtain ⟨t,rfl⟩:=r1;refine wpAny_pyIter_strU ?_;refine ⟨s1.heap.objs.size,[s1.heap.objs.size],_,_,H1,rfl,I1.kept (t':=s1.toks) fun b o e=>ay _ e,BP _ y t,⟨_,bH _ rfl,rfl,rfl⟩,fun b hb=>?_,q⟩;have e:b=s1.heap.objs.size:=by simpa using hb
 subst e;exact I1.fpOk (aF _) (I1.hok.fresh (aF _))
end
section
variable {x:Str} {n:Nat} {g:TG} {tc:TT} {te:TE} {σ:St} {H:Hp} {Q:VK}
theorem BQ (Pv:Nat->List V->Hp->Prop) (h0:Pv 0 [] H) (hl:∀ i ys H,i<=x.cps.size->Pv i ys H->ys.length < ax)
  (hs:∀ i c ys H,x.cps[i]?=some c->Pv i ys H->g (.str ⟨#[c]⟩) (aJ n none++σ) H fun σ2 H2=>σ2.drop n=σ/\tc σ2 H2 fun b H3=>if b=true then te σ2 H3 fun y H4=>Pv (i + 1) (ys++[y]) H4 else Pv (i + 1) ys H3)
  (hd:∀ ys H,Pv x.cps.size ys H->∀ p,H p=none->Q (.ref p) (upd H p (.lst ys))) :
  ∃ W:Nat->Nat->List V->Hp->Prop,(∃ m,W 0 m [] H)/\∀ i m ys H,W i m ys H->ys.length < ax/\(((Its x).stop i H/\∀ p,H p=none->Q (.ref p) (upd H p (.lst ys))) \/
   ((Its x).go i H/\∃ N:List V->Hp->Prop,(∀ ys' H',N ys' H'->∃ m',m' < m/\W (i + 1) m' ys' H')/\∀ v H',(Its x).yld i H v H'->g v (aJ n none++σ) H' fun σ2 H2=>σ2.drop n=σ/\tc σ2 H2 fun b H3 =>
    if b=true then te σ2 H3 fun y H4=>N (ys++[y]) H4 else N ys H3)):=by
 refine ⟨fun i m ys H=>m=x.cps.size - i/\i<=x.cps.size/\Pv i ys H,⟨x.cps.size,by simp,aR _,h0⟩,?_⟩;rintro i m ys H ⟨rfl,hi,p⟩;refine ⟨hl i ys H hi p,?_⟩
 by_cases hlt:i < x.cps.size
 ·refine .inr ⟨hlt,Pv (i + 1),fun ys' H' p'=>⟨x.cps.size - (i + 1),by omega,rfl,hlt,p'⟩,fun v H' y=>?_⟩;obtain ⟨rfl,c,hc,rfl⟩:=y;exact hs i c ys _ hc p
 ·have e:i=x.cps.size:=by omega
  subst e;exact .inl ⟨rfl,hd ys H p⟩
end
def Itv (K:ai) (a:aj) (xs:List V):It:=⟨fun i H=>SqL K H a xs/\i < xs.length,fun i H v H'=>H'=H/\xs[xs.length - 1 - i]?=some v,fun i _=>i=xs.length⟩
theorem DG {P:aS} {w:bN} {K:ai} {tg:cA} (a it:aj) (xs:List V):Bz P w K tg (Itv K a xs) [it] it (fun i h=>h.IsRevIter it a ((xs.length:Int) - 1 - i)) where
 mem:=by simp
 obj:=fun i h st b hb=>by
  have e:b=it:=by simpa using hb
  subst e;obtain ⟨o,e,c,d⟩:=st;exact ⟨o,e,fun v z=>by rw [d] at z; cases z⟩
 keep:=fun i h h' st k=>st.at fun o e=>k it (by simp) o e
 item:=by
  intro X hP hw hK hc i pins s σ H E I hf st hg;subst hP hw hK;obtain ⟨hq,hi⟩:=hg;obtain ⟨its,rv,p,hz⟩:=I.list hq;obtain ⟨f0,f1,f2,f3,f4,f5⟩:=hf it (by simp);have e:(xs.length:Int) - 1 - (i:Int)=((xs.length - 1 - i:Nat):Int):=by omega
  rw [e] at st;have hx:xs[xs.length - 1 - i]?=some xs[xs.length - 1 - i]:=aN (by omega);obtain ⟨u,hu,ru⟩:=rv.get hx;refine wpAny_pyNext_rev_item st p.isList (x:=u) (by simpa using hu) fun h' st' sb=>?_;have I1:Inv X pins σ H {s with heap:=h'}:=I.turned (t':=s.toks) (fun b o hb e=>(sb.2 b hb).trans e) f0 f1 f3 f4 f5;have e2:((xs.length - 1 - i:Nat):Int) - 1=(xs.length:Int) - 1 - ((i + 1:Nat):Int):=by omega
  rw [e2] at st';obtain ⟨o,e,c,d⟩:=id st';exact ⟨u,rfl,yp (s:={s with heap:=h'}) e c d (by decide) ⟨_,H,I1,ru,⟨rfl,hx⟩,st',fun b hb=>(hf b hb).1⟩⟩
 done:=by
  intro X hP hw hK hc i pins s σ H E I hf st hg;subst hP hw hK
  cases (show i=xs.length from hg);obtain ⟨f0,f1,f2,f3,f4,f5⟩:=hf it (by simp);have e:(xs.length:Int) - 1 - (xs.length:Int)=-1:=by omega
  rw [e] at st;exact wpAny_pyNext_rev_end (I.ok.hd hc) st fun h' eb=>⟨rfl,I.turned (t':=s.toks) (fun b o hb e=>eb b o hb e) f0 f1 f3 f4 f5⟩
 self:=fun _ _ _ _ _ st h=>FC st h
section
variable {X:Cx} {tg:cA}
theorem boot_reversed:eE "reversed"=some (.type "reversed"):=by decide +kernel
def iRev (K:ai) (ta:TA):TI:=fun σ H R=>ta σ H fun vs H1=>∃ a xs,vs=[.ref a]/\SqL K H1 a xs/\R (Itv K a xs) H1
theorem DJ {a:cA} {ta:TA} {p pos:Pos} (hg:Gl X "reversed") (hm:X.mg "reversed"=none) (ha:PA X [a] ta) (hs:bM [a] X.env=[(false,d6 a X.env)]:=by rfl):PI X tg (.Call (.Name "reversed" p) [a] [] pos) (iRev X.K ta):=by
 intro pins s σ H R I h;refine Call_ (oY I hg hm boot_reversed (fY (thn (ha pos pins s σ H _ I h) fun us s1 ⟨vs,H1,I1,r1,q1⟩=>?_) hs rfl));obtain ⟨l,xs,e,hq,q⟩:=q1;subst e;obtain ⟨u,rfl,ru⟩:=vals1 r1
 cases ru;obtain ⟨its,rv,pl,hz⟩:=I1.list hq;refine IR pl.isList ?_;have sz:((its.toArray.size:Nat):Int) - 1=(xs.length:Int) - 1 - ((0:Nat):Int):=by
  rw [aA,<- rv.length];omega
 have st:(s1.heap.push (revObj l ((its.toArray.size:Int) - 1))).IsRevIter s1.heap.objs.size l ((xs.length:Int) - 1 - ((0:Nat):Int)):=by
  rw [sz];exact ⟨_,bH _ rfl,rfl,rfl⟩
 refine FC st ?_;refine ⟨s1.heap.objs.size,[s1.heap.objs.size],_,_,H1,rfl,I1.kept (t':=s1.toks) fun b o e=>ay _ e,DG l _ xs,st,fun b hb=>?_,q⟩;have e:b=s1.heap.objs.size:=by simpa using hb
 subst e;exact I1.fpOk (aF _) (I1.hok.fresh (aF _))
theorem FD {K:ai} {a:aj} {xs:List V} {g:TG} {tb:TS} {D:Ends} {σ:St} {H:Hp} (Pv:Nat->St->Hp->Prop) (h0:Pv 0 σ H) (hl:∀ i σ H,i<=xs.length->Pv i σ H->SqL K H a xs)
  (hs:∀ i x σ H,xs[xs.length - 1 - i]?=some x->i < xs.length->Pv i σ H->g x σ H fun σ2 H2=>tb {D with nx:=Pv (i + 1),ct:=Pv (i + 1),bk:=D.nx} σ2 H2) (hd:∀ σ H,Pv xs.length σ H->D.nx σ H) :
  ∃ W:Nat->Nat->St->Hp->Prop,(∃ m,W 0 m σ H)/\∀ i m σ H,W i m σ H ->
   ((Itv K a xs).stop i H/\D.nx σ H)\/((Itv K a xs).go i H/\∃ N:St->Hp->Prop,(∀ σ' H',N σ' H'->∃ m',m' < m/\W (i + 1) m' σ' H')/\∀ x H',(Itv K a xs).yld i H x H'->g x σ H' fun σ2 H2=>tb {D with nx:=N,ct:=N,bk:=D.nx} σ2 H2):=by
 refine ⟨fun i m σ H=>m=xs.length - i/\i<=xs.length/\Pv i σ H,⟨xs.length,by simp,aR _,h0⟩,?_⟩;rintro i m σ H ⟨rfl,hi,p⟩
 by_cases hlt:i < xs.length
 ·refine .inr ⟨⟨hl i σ H hi p,hlt⟩,Pv (i + 1),fun σ' H' p'=>⟨xs.length - (i + 1),by omega,rfl,hlt,p'⟩,fun x H' y=>?_⟩;obtain ⟨rfl,y⟩:=y;exact hs i x σ _ y hlt p
 ·have e:i=xs.length:=by omega
  subst e;exact .inl ⟨rfl,hd σ H p⟩
def IS:V->List V->Hp->VK->Prop:=fun x vs H Q=>∃ t z,x=.str t/\vs=[.str z]/\(z.length == 0)=false/\t.length<=100000/\∀ l,H l=none->Q (.ref l) (upd H l (.lst ((nJ t z).map V.str)))
theorem se:∀ {l:List (Str×Tok)},dq ((l.map (·.1)).map V.str) (strValues l)
 | []=>.nil
 |(x,t) :: l=>.cons ⟨t,rfl⟩ se
theorem yN:MtR X "str.split" IS:=by
 intro pins s σ H x vs v us Q I rx rv h;obtain ⟨t,z,rfl,rfl,hz,hl,q⟩:=h;obtain ⟨k,rfl⟩:=rx;obtain ⟨u,rfl,ru⟩:=rv.one;obtain ⟨k2,rfl⟩:=ru;have big:(1000000:Nat)<=ax:=by decide
 have fin:∀ (l:List (Str×Tok)) (k:Nat),l.map (·.1)=nJ t z->EP X pins σ Q (.ref s.heap.objs.size) {s with heap:=s.heap.push {cls:=.type "list",data:=.seq (strValues l).toArray},toks:=k}:=fun l k e=>by
  refine ⟨.ref s.heap.objs.size,upd H s.heap.objs.size (.lst ((nJ t z).map V.str)),I.laid (t':=k) (fun b u e=>ay _ e) (aF _) ?_,rfl,q _ (I.hok.fresh (aF _))⟩;rw [<- e];refine ⟨?_,strValues l,0,se,bH _ rfl⟩;have:=PyProof.Rows.split_le t z;rw [e,aa];omega
 have hn:(partsBetween t (occurrences t z 0 t.length (t.length + 1)) z.length).length<=ax:=by
  have e1:=StrLaws.occ_length_le t z 0 t.length (t.length + 1);rw [length_partsBetween];omega
 cases h1:(decide (t.length < z.length) || decide (strKind t < strKind z))
 ·cases hf:(occurrences t z 0 t.length (t.length + 1)).isEmpty
  ·refine o9 vJ (mj _ _ _) uV (t4 _ _) (meets_str_split_sep t z k k2 h1 hz hf (by omega) hn) ?_;show wants _ _ _ {s with toks:=_,heap:=s.heap.push {cls:=.type "list",data:=.seq (strsFrom s.toks (partsBetween t (occurrences t z 0 t.length (t.length + 1)) z.length)).toArray}};rw [strsFrom_eq];exact fin (numbered s.toks _) _ ((numbered_texts _ _).trans ((if_neg (ne_true_of_eq_false h1)).trans (if_neg (ne_true_of_eq_false hf))).symm)
  ·exact o9 vJ (mj _ _ _) uV (t4 _ _) (meets_str_split_not_found t z k k2 h1 hz hf) (fin [(t,k)] s.toks ((if_neg (ne_true_of_eq_false h1)).trans (if_pos hf)).symm)
 ·exact o9 vJ (mj _ _ _) uV (t4 _ _) (meets_str_split_cannot_occur t z k k2 h1) (fin [(t,k)] s.toks (if_pos h1).symm)
def sw (x y:Str):Bool:=decide (0 + y.length<=x.length) && subAt x y 0
theorem sT:MtR X "str.startswith" (fun x vs H Q=>∃ t z,x=.str t/\vs=[.str z]/\Q (.bl (sw t z)) H):=by
 intro pins s σ H x vs v us Q I rx rv h;obtain ⟨t,z,rfl,rfl,q⟩:=h;obtain ⟨k,rfl⟩:=rx;obtain ⟨u,rfl,ru⟩:=rv.one;obtain ⟨k2,rfl⟩:=ru;exact call_gives F.slot_str_startswith (mj _ _ _) F.entry_str_startswith (F.args_str_startswith_2 _ _) (gives_str_startswith t z k k2) ⟨.bl (sw t z),H,I,rfl,q⟩
theorem wy:OpR X (dF .LtE) (fun x y H Q=>∃ i j,x=.str i/\y=.str j/\Q (.bl (!decide (j.cps.toList < i.cps.toList))) H):=by
 intro pins s σ H x y v u Q I rx ry h;obtain ⟨i,j,rfl,rfl,q⟩:=h;obtain ⟨t,rfl⟩:=rx;obtain ⟨t',rfl⟩:=ry;exact PySem.P.le_str (ej I q rfl)
theorem yO {a:aj} {D:List (Str×Str)} (h:Tab X.K a D):OpR X (dF .NotIn) (fun x y H Q=>∃ k,x=.str k/\y=.ref a/\Q (.bl (!xA k (xx D))) H):=by
 intro pins s σ H x y v u Q I rx ry q;obtain ⟨k,rfl,rfl,q⟩:=q;obtain ⟨t,rfl⟩:=rx
 cases ry;exact KTD.notin_text (h₀:=s.heap) ⟨Fp (fun b o e=>I.kIn b o e) h,fun _ _ e=>e⟩ ⟨.bl _,H,I.tok _,rfl,q⟩
theorem A1:∀ {ns:List Int} {us:List ag},dq (ns.map V.int) us->C6 us ns
 | [],_,.nil=>.nil
 | _ :: _,_,.cons ⟨t,e⟩ r=>e ▸ .cons _ t (A1 r)
theorem BR (hc:X.calm=true):l8 X (.builtin "max") (fun xs H Q=>∃ l ns,xs=[V.ref l]/\SqL X.K H l (ns.map V.int)/\ns≠[]/\∀ M,M∈ns->(∀ a∈ns,a<=M)->Q (.int M) H):=by
 intro pins s σ H xs us Q I r h;obtain ⟨l,ns,rfl,hl,ne,q⟩:=h;obtain ⟨u,rfl,ru⟩:=vals1 r
 cases ru;obtain ⟨its,rv,pl,hz⟩:=I.list hl;have hi:=A1 rv;obtain ⟨ys,e⟩:=hi.allInts.items;have hns:ns=ys.toList.map (·.1):=by
  rw [<- hi.numsOf,<- nums_intItems,<- e]
 have hsz:0 < ys.size:=by
  have:=fj.mpr ne;rw [hns,aa,bY] at this;exact this
 have pl':=pl.isList;rw [e] at pl';refine max_intList (I.ok.hd hc) pl' hsz fun v h' tk hv hk=>?_;obtain ⟨t,rfl⟩:=intItems_at hv;obtain ⟨h1,h2⟩:=argBest_gt (numAt ys) (ys.size - 1);refine ⟨.int _,H,I.kept (t':=tk) hk,⟨t,rfl⟩,q _ ?_ fun a ha=>?_⟩
 ·rw [hns,numAt_eq];exact getD_mem (by rw [aa,bY]; omega)
 ·rw [hns] at ha;obtain ⟨j,hj,rfl⟩:=mem_getD ha;rw [aa,bY] at hj;rw [<- numAt_eq];exact h2 j (by omega)
theorem BS:∀ (bs:List Bool),(iz bs.length).all (fun i=>(bs[i]?).getD false)=bs.all id:=fun bs=>by
 cases h:bs.all id with
 | true =>
  rw [kQ] at h |-;intro i hi;rw [nz] at hi;rw [aN hi];exact h _ (kS hi)
 | false =>
  rw [List.all_eq_false] at h |-;obtain ⟨x,hx,e⟩:=h;obtain ⟨i,hi,rfl⟩:=List.mem_iff_getElem.mp hx;exact ⟨i,nz.mpr hi,by rw [aN hi]; exact e⟩
theorem BU (hc:X.calm=true):l8 X (.builtin "all") (fun xs H Q=>∃ (l:aj) (bs:List Bool),xs=[V.ref l]/\SqL X.K H l (bs.map V.bl)/\Q (.bl (bs.all id)) H):=by
 intro pins s σ H xs us Q I r h;obtain ⟨l,bs,rfl,hl,q⟩:=h;obtain ⟨u,rfl,ru⟩:=vals1 r
 cases ru;obtain ⟨its,rv,pl,hz⟩:=I.list hl;have ltl:l < s.heap.objs.size:=let ⟨_,ho,_⟩:=pl.isList; bb ho;have hlen:its.toArray.size=bs.length:=by
  rw [aA,<- rv.length,aa]
 refine call_all_walk (vC pl.isList ?_);refine ⟨s.heap.objs.size,[s.heap.objs.size,l],[s.heap.objs.size],its.toArray.size,_,_,fun i=>(bs[i]?).getD false,rfl,Walks.list (A:=X.A.in1) (I.ok.hd hc) s.heap.objs.size l (br ltl) its.toArray,⟨⟨_,bH _ rfl,rfl,rfl⟩,pl.isList.at fun o e=>ay _ e⟩,?_,?_⟩
 ·intro i v z Q' E' hv hQ;have hv':its[i]?=some v:=by simpa using hv
  have li:i < bs.length:=by
   have:=(aQ.mp hv').1;have:=rv.length;rw [aa] at this;omega
  have eb:(bs.map V.bl)[i]?=some (.bl bs[i]):=by rw [cw,aN li]; rfl
  obtain ⟨w',hw,rw'⟩:=rv.get eb;rw [hv'] at hw
  cases hw
  cases rw';have e0:(bs[i]?).getD false=bs[i]:=by rw [aN li]; rfl
  have hQ':Q' ((bs[i]?).getD false) z:=hQ;rw [e0] at hQ';exact eM hQ'
 ·intro h' tk kk;rw [hlen,BS];refine ⟨.bl _,H,I.kept (t':=tk) fun b o e=>kk b o ?_ (ay _ e),rfl,q⟩;have:=bb e;intro z;have z':b=s.heap.objs.size:=by simpa using z
  exact absurd (z' ▸ this) (dz _)
end
end L2
namespace L2
open PySem PySem.Spec PyProof.Rows
theorem DK:uF (.type "list_reverseiterator") "__len__"=pure none:=by rw [typeLookup_type,ER]; kernel_rfl
theorem FE:uF (.type "list_reverseiterator") "__length_hint__"=pure (some (.builtin "list_reverseiterator.__length_hint__")):=by rw [typeLookup_type,ER]; kernel_rfl
section
variable {prog:aS} {w:bN} {A:bJ} {E:ag->ah->Prop} {s:ah}
variable {I:aj} {fp wr:List aj} {G:Array EV->Array EV->Prop} {n:Nat} {P:Nat->ag->Prop} {St:Nat->ah->Prop} {R:ma->ah->Prop}
theorem FF (W:WalksS prog w A.in1 I fp wr G n P St) (hT:∀ i z,St i z->z.TypeIs (.ref I) "list_reverseiterator") (S:aj) (res:ag) (c₀:Nat) (hst:St 0 s) (hSf:S∉fp) (hI:I∈fp) (hS:s.heap.get? S=some {cls:=.type "list",data:=.seq #[] c₀})
  (hR:∀ z acc c,Moved (S :: wr) G s z->z.heap.get? S=some {cls:=.type "list",dict:=none,data:=.seq acc c,slots:=#[]}->ItemsOf P acc n->R (.ok (.ret res)) z) (hn:n<=ax) :
  aY (aM prog w) A.in1 (ik (.ref S) (.ref I) res) (fun fin z=>match fin with | .done f=>R (.ok f) z | .again d=>d.quiet=true/\pQ (aM prog w) A d R z) (fun e z=>R (.error e) z) s:=by
 have hSI:S≠I:=fun e=>hSf (e ▸ hI);have h1:tI (.ref S) (.ref I)=false:=by simp [tI,hSI]
 unfold ik;refine af (wpAny_typeOf (hT 0 _ hst) ?_);rw [if_neg (by rw [h1]; decide)];refine af (W.self 0 _ _ _ hst ?_);refine af (bK ?_);unfold Builtin.List.listLengthHint;refine af (rF (hT 0 _ hst) DK ?_);show aY _ A.in1 (specialOf (Value.ref I) (ba "__length_hint__") >>= _) _ _ _;refine af (rF (hT 0 _ hst) FE ?_);generalize hid:("list_reverseiterator.__length_hint__":String)=id0
 wp_delta
 rw [show splitId id0=some ("list_reverseiterator","__length_hint__") from by subst hid; decide +kernel];subst hid;refine af (wpAny_isInstance (b:=true) (hT 0 _ hst) (by rw [isSubtype_type]; kernel_rfl) ?_);refine av ?_;rw [if_neg (by decide)];exact av ⟨qm F.plain_extend_loop _,codeAny_extend_loopS W hn _ hSf _ n 0 _ _ _ rfl (aR _) hst hS (ItemsOf.nil P) hR⟩
theorem DU {Q:ag->ah->Prop} (W:WalksS prog w A.in1.in1 I fp wr G n P St) (hT:∀ i z,St i z->z.TypeIs (.ref I) "list_reverseiterator") (hst:St 0 s) (hfp:∀ b∈fp,b < s.heap.objs.size) (hI:I∈fp)
  (hQ:∀ z acc c,Moved (s.heap.objs.size :: wr) G {s with heap:=s.heap.push {cls:=.type "list",data:=.seq #[]}} z->z.heap.get? s.heap.objs.size=some {cls:=.type "list",dict:=none,data:=.seq acc c,slots:=#[]}->ItemsOf P acc n->Q (.ref s.heap.objs.size) z) (hn:n<=ax) :
  aY (aM prog w) A (rO (.type "list") [.ref I]) Q E s:=by
 have hSf:s.heap.objs.size∉fp:=fun hm=>dz _ (hfp _ hm);refine callType_codes (Q₁:=fun obj z=>obj=.ref s.heap.objs.size/\z={s with heap:=s.heap.push {cls:=.type "list",data:=.seq #[]}}) F.called_list (F.typeCall_list_1 _) F.entry_list_init (code_list_new _ ⟨rfl,rfl⟩) fun obj z hz=>?_;obtain ⟨rfl,rfl⟩:=hz;have hS:(s.heap.push {cls:=.type "list",data:=.seq #[]}).get? s.heap.objs.size=some {cls:=.type "list",data:=.seq #[]}:=bH _ rfl;refine ⟨⟨_,hS,rfl⟩,F.args_list_init_2 _ _,?_⟩;have st1:=W.frame 0 s (s.heap.push {cls:=.type "list",data:=.seq #[]}) s.toks hst (aF _) fun b _ o e=>ay _ e;show aY _ A.in1.in1 (do let old <- uh (.ref s.heap.objs.size); Builtin.List.listUpdate (.ref s.heap.objs.size) (fun _=>#[]); letGo old.toList.reverse; ik (.ref s.heap.objs.size) (.ref I) .none) _ _ _;refine af ?_;unfold uh;refine af (wpAny_seqItems hS rfl (av ?_));show aY _ A.in1.in1 (updateSeq s.heap.objs.size (fun _=>#[]) >>= fun _=>letGo (#[]:Array ag).toList.reverse >>= fun _=>ik (.ref s.heap.objs.size) (.ref I) .none) _ _ _;refine af (wpAny_updateSeq hS rfl ?_);have hS2:=fJ (j0 (fun _=>(#[]:Array ag))) hS rfl;have oth:∀ b o,b≠s.heap.objs.size->(s.heap.push {cls:=.type "list",data:=.seq #[]}).get? b=some o->((s.heap.push {cls:=.type "list",data:=.seq #[]}).update s.heap.objs.size (j0 (fun _=>(#[]:Array ag)))).get? b=some o:=
  fun b o hb e=>(c9 _ _ (eU hb)).trans e
 refine af (wpAny_letGo ?_);refine FF W hT s.heap.objs.size .none _ (W.frame 0 _ _ s.toks st1 (aF _) fun b hb o e=>oth b o (fun y=>hSf (y ▸ hb)) e) hSf hI hS2 (fun z acc c hm hz ha=>?_) hn;exact ⟨rfl,hQ z acc c (Moved.trans W.gtrans ((Moved.refl W.grefl).then_heap (aF _) fun b o hb e=>oth b o (fun y=>hb (y ▸ aw)) e) hm) hz ha⟩
end
section
variable {X:Cx}
def DV (K:ai) (te:TE):TE:=fun σ H Q=>te σ H fun x H1=>∃ a xs,x=.ref a/\SqL K H1 a xs/\∀ l,H1 l=none->Q (.ref l) (upd H1 l (.lst xs.reverse))
theorem Ai {a:cA} {te:TE} {p1 p2 p3 p4:Pos} (hc:X.calm=true) (hg:Gl X "reversed") (hm:X.mg "reversed"=none) (hg2:Gl X "list") (hm2:X.mg "list"=none) (ha:PE X a te) (hs:bM [a] X.env=[(false,d6 a X.env)]:=by rfl)
  (hs2:bM [.Call (.Name "reversed" p1) [a] [] p2] X.env=[(false,d6 (.Call (.Name "reversed" p1) [a] [] p2) X.env)]:=by rfl):PE X (.Call (.Name "list" p3) [.Call (.Name "reversed" p1) [a] [] p2] [] p4) (DV X.K te):=by
 intro pins s σ H Q I h;refine Call_ (oY I hg2 hm2 boot_list (fY (e:=.Call (.Name "reversed" p1) [a] [] p2) (rest:=[]) ?_ hs2 rfl));rw [hs2];refine mY ?_;refine Call_ (oY I hg hm boot_reversed (fY (e:=a) (rest:=[]) ?_ hs rfl));rw [hs];refine mY (thn (ha pins s σ H _ I h) fun v s1 z=>oq ?_);obtain ⟨x,H1,I1,r1,l,xs,rfl,hq,q⟩:=z
 cases r1;obtain ⟨its,rv,pl,hz⟩:=I1.list hq;refine IR pl.isList (oq ?_);have ltl:l < s1.heap.objs.size:=let ⟨_,ho,_⟩:=pl.isList; bb ho;have sz:=rv.length;generalize hh:s1.heap.push (revObj l ((its.toArray.size:Int) - 1))=h2;have keep:∀ b o,s1.heap.get? b=some o->h2.get? b=some o:=fun b o e=>by rw [<- hh]; exact ay _ e
 have new:h2.get? s1.heap.objs.size=some (revObj l ((its.toArray.size:Int) - 1)):=by rw [<- hh]; exact bH _ rfl
 have szh:h2.objs.size=s1.heap.objs.size + 1:=by rw [<- hh]; exact jk ..
 have I2:Inv X pins σ H1 {s1 with heap:=h2}:=I1.kept (t':=s1.toks) keep;refine DU (s:={s1 with heap:=h2}) (Walks.listRev (A:=X.A.in1.in1) (I1.ok.hd hc) s1.heap.objs.size l (br ltl) its.toArray).toS (fun i z st=>st.2.1.typeIs) ⟨aR _,?_,pl.isList.at fun o e=>keep _ _ e⟩ (fun b hb=>?_) (by simp) (fun z acc c mv ho it=>?_) (by rw [aA,<- sz]; exact hz)
 ·have e:((its.toArray.size:Nat):Int) - 1 - ((0:Nat):Int)=(its.toArray.size:Int) - 1:=by omega
  rw [e];exact ⟨_,new,rfl,rfl⟩
 ·rw [szh]
  rcases au.mp hb with e | e
  ·rw [e];exact ju _
  ·rw [az.mp e];exact ku ltl
 ·obtain ⟨asz,ait⟩:=it;have el:acc.toList=its.reverse:=by
   apply DX;intro j
   by_cases hj:j < its.length
   ·have hj':j < acc.size:=by rw [asz,aA]; exact hj
    have e1:=ait j acc[j] (oi hj');rw [Aj hj,kD,oi hj',<- e1,aA,List.getElem?_toArray]
   ·rw [gF (by rw [bY,asz,aA]; omega),gF (by rw [fk]; omega)]
  have ne:∀ b o,s1.heap.get? b=some o->b∉[h2.objs.size,s1.heap.objs.size]:=fun b o e hm=>by
   have lt:=bb e
   rcases au.mp hm with y | y
   ·rw [y,szh] at lt;exact absurd (Nat.lt_of_succ_lt lt) (dz _)
   ·rw [az.mp y] at lt;exact absurd lt (dz _)
  have kp:∀ b o,s1.heap.get? b=some o->z.heap.get? b=some o:=fun b o e=>mv.heap b o (ne b o e) (ay _ (keep b o e));obtain ⟨zh,zg,zd,zt,zo⟩:=z;obtain rfl:zg=s1.gens:=mv.gens;obtain rfl:zd=s1.drawn:=mv.drawn;obtain rfl:zo=s1.os:=mv.os;have hD:s1.heap.objs.size<=h2.objs.size:=by rw [szh]; exact gS _
  refine ⟨.ref h2.objs.size,upd H1 h2.objs.size (.lst xs.reverse),I1.laid (t':=zt) kp hD ⟨by rw [fk]; exact hz,acc.toList,c,?_,by rw [lp]; exact ho⟩,rfl,q _ (I1.hok.fresh hD)⟩;rw [el];exact rv.reverse
end
def FlE (dc:Option aj) (B:cI) (l:List Env) (e:aj) (cls fl:ag) (h:cI):Prop:=
 B.StaysIn h/\B.get? e=none/\h.FunFrames B l/\∃ oe vs T oT ts,h.get? e=some oe/\oe.cls=cls/\oe.dict=dc/\oe.data=.fields vs/\vs[1]?=some (.ref T)/\B.get? T=none/\T≠e/\h.get? T=some oT/\oT.data=.fields ts/\ts[3]?=some fl
section
variable {M:lU} {A:bJ} {E:ag->ah->Prop} {s:ah} {B:cI} {env:Env} {outer l:List Env} {L e:aj} {cls fl:ag} {Q:Unit->ah->Prop} {dc:Option aj}
theorem yP {oe:Obj} {vs:Array ag} {head:ag} {nx:Bool} (hfr:A.frames=some (env :: outer)) (hl:s.heap.FunFrames B (env :: outer)) (hf:env.frame=some L) (he:s.heap.get? e=some oe) (hB:B.StaysIn s.heap) (hn:B.get? e=none)
  (hd:oe.data=.fields vs) (hz:1 < vs.size) (hdc:oe.dict=dc) (k:∀ h',FlE dc B (env :: outer) e oe.cls (kX L) h'->s.heap.UpToSlots h'->Q () {s with heap:=h'}) :
  aY M A (do let a <- frameOf env; let pl <- entryPlaceOf L nx; let b <- kK head a .none (kX L) .none pl; setField (.ref e) 1 b) Q E s:=by
 have ef:e∉(env :: outer).filterMap (·.frame):=fun hm=>by
  obtain ⟨_,o,ho,q⟩:=hl.mem hm;rw [he] at ho
  cases ho;exact q vs hd
 refine af (Jr hfr hl hf fun h1 g1=>af (IC fun pl hpl=>?_));unfold kK newFields;refine af (gw ?_ (hpl.sizeOk5 _ _ _ _ _));have e1:h1.get? e=some oe:=(g1.2.1 e ef).trans he;have b1:B.StaysIn h1:=fun b o z=>(g1.2.1 b fun hm=>by rw [(hl.mem hm).1] at z; cases z).trans (hB b o z);have ne:h1.objs.size≠e:=mX (bb e1);generalize hob:({cls:=.type "traceback",dict:=none,data:=.fields ([head,.ref L,.none,kX L,.none]++(if pl.isEmpty then aJ 6 Value.none else pl)).toArray}:Obj)=ob;have e2:(h1.push ob).get? e=some oe:=ay _ e1;have t2:(h1.push ob).get? h1.objs.size=some ob:=bH h1 (by rw [<- hob]; rfl);refine pe e2 hd hz (k _ ?_ ?_)
 ·have d3:=iG hd (·.setIfInBounds 1 (Value.ref h1.objs.size));have keep:∀ b o,b≠e->h1.get? b=some o->((h1.push ob).update e (lE (·.setIfInBounds 1 (Value.ref h1.objs.size)))).get? b=some o:=fun b o q z=>by
   rw [c9 _ _ (eU q)];exact ay _ z
  refine ⟨fun b o z=>keep b o (fun q=>by rw [q,hn] at z; cases z) (b1 b o z),hn,hl.of_keeps fun b o z q=>?_,_,_,h1.objs.size,ob,_,fJ _ e2 (kP d3),EM _ _,(wo _ _).trans hdc,d3,by simp [hz],b1.fresh,ne,?_,by rw [<- hob],?_⟩
  ·obtain ⟨sl,w⟩:=g1.2.2 b o z;exact ⟨_,keep b _ (fun y=>by rw [y,he] at z; cases z; exact q vs hd) w,rfl⟩
  ·rw [c9 _ _ (eU ne)];exact t2
  ·first | (simp; done) | (rcases hpl with rfl | ⟨_,_,_,_,_,_,_,rfl⟩ <;> simp)
 ·intro b o z q;obtain ⟨sl,w⟩:=g1.2.2 b o z;refine ⟨sl,?_⟩;rw [c9 _ _ (fun y=>by rw [<- y,he] at z; cases z; exact q vs hd)];exact ay _ w
theorem A2 (hfr:A.frames=some (env :: outer)) (hf:env.frame=some L) (x:FlE dc B (env :: outer) e cls .none s.heap) (k:∀ h',FlE dc B (env :: outer) e cls (kX L) h'->s.heap.UpToSlots h'->Q () {s with heap:=h'}) :
  aY M A (jq (.ref e) env) Q E s:=by
 obtain ⟨hB,hn,hl,oe,vs,T,oT,ts,he,rfl,hdc,hd,h1,nT,Te,hT,dT,h3⟩:=x;unfold jq;simp only [hf];refine af (iN he hd h1 ?_);rw [if_pos (show (Value.ref T != Value.none)=true from by simp)];refine af (iN hT dT h3 ?_);rw [if_neg (show ¬ ((Value.none == kX L)=true) from by simp [kX])];refine af (pe hT dT (gC.mp h3).1 ?_);have ot:∀ b,b≠T->(s.heap.update T (lE (·.setIfInBounds 3 Value.none))).get? b=s.heap.get? b:=fun b hb=>c9 _ _ (eU hb);refine yP (s:={s with heap:=s.heap.update T (lE (·.setIfInBounds 3 Value.none))}) hfr (hl.of_keeps fun b o z q=>⟨o,(ot b (qB hT dT z q)).trans z,rfl⟩) hf ((ot e (eU Te)).trans he)
  (fun b o z=>(ot b fun y=>by rw [y,nT] at z; cases z).trans (hB b o z)) hn hd (gC.mp h1).1 hdc fun h' y1 y2=>k h' y1 fun b o z q=>y2 b o ((ot b (qB hT dT z q)).trans z) q
theorem sf (x:FlE dc B l e cls fl s.heap) (k:∀ h',FlE dc B l e cls .none h'->s.heap.UpToSlots h'->Q () {s with heap:=h'}):aY M A (xm (.ref e) none) Q E s:=by
 obtain ⟨hB,hn,hl,oe,vs,T,oT,ts,he,hc,hdc,hd,h1,nT,Te,hT,dT,h3⟩:=x;have z3:3 < ts.size:=(gC.mp h3).1;have ot:∀ b,b≠T->(s.heap.update T (lE (·.setIfInBounds 3 ((none:Option aj).elim Value.none fun f=>kX f)))).get? b=s.heap.get? b:=fun b hb=>c9 _ _ (eU hb);unfold xm;refine af (iN he hd h1 ?_);rw [if_pos (show (Value.ref T != Value.none)=true from by simp)];refine pe hT dT z3 (k _ ⟨fun b o z=>(ot b fun y=>by rw [y,nT] at z; cases z).trans (hB b o z),hn,hl.of_keeps fun b o z q=>⟨o,(ot b (qB hT dT z q)).trans z,rfl⟩,oe,vs,T,_,_,(ot e (eU Te)).trans he,hc,hdc,hd,h1,nT,Te,fJ _ hT (kP (iG dT _)),iG dT _,by simp [z3]⟩
  fun b o z q=>⟨o.slots,(ot b (qB hT dT z q)).trans z⟩)
theorem FlE.tail (x:FlE dc B (env :: outer) e cls fl s.heap):FlE dc B outer e cls fl s.heap:=by
 obtain ⟨a,b,⟨_,_,c⟩,d⟩:=x;exact ⟨a,b,c,d⟩
theorem FlE.there {h:cI} (x:FlE dc B l e cls fl h):∃ ob,h.get? e=some ob/\ob.cls=cls:=by
 obtain ⟨_,_,_,oe,_,_,_,_,he,hc,_⟩:=x;exact ⟨oe,he,hc⟩
theorem BV (hfr:A.frames=some (env :: outer)) (hf:env.frame=some L) (x:FlE dc B (env :: outer) e cls .none s.heap) (k:∀ h',FlE dc B outer e cls .none h'->s.heap.UpToSlots h'->Q () {s with heap:=h'}):aY M A (tE env (.ref e)) Q E s:=by
 unfold tE;refine af (A2 hfr hf x fun h1 x1 u1=>sf (s:={s with heap:=h1}) x1 fun h2 x2 u2=>k h2 (FlE.tail (s:={s with heap:=h2}) x2) (u1.trans u2))
theorem FG {oe:Obj} {vs:Array ag} (hfr:A.frames=some (env :: outer)) (hf:env.frame=some L) (hB:B.StaysIn s.heap) (hn:B.get? e=none) (hl:s.heap.FunFrames B (env :: outer)) (he:s.heap.get? e=some oe) (hd:oe.data=.fields vs) (h1:vs[1]?=some .none) (hdc:oe.dict=dc)
  (k:∀ h',FlE dc B outer e oe.cls .none h'->s.heap.UpToSlots h'->Q () {s with heap:=h'}):aY M A (tE env (.ref e)) Q E s:=by
 unfold tE jq;simp only [hf];refine af (af (iN (x:=Value.none) he hd h1 ?_));rw [if_neg (show ¬ ((Value.none != Value.none)=true) by decide)];exact yP hfr hl hf he hB hn hd (gC.mp h1).1 hdc fun h1 x1 u1=>sf (s:={s with heap:=h1}) x1 fun h2 x2 u2=>k h2 (FlE.tail (s:={s with heap:=h2}) x2) (u1.trans u2)
end
theorem IT {h h':cI} {a:aj} {m:Str->Option ag} (x:h.Ns1 a m) (sm:h.UpToSlots h'):h'.Ns1 a m:=by
 obtain ⟨o,es,ep,e,d,r⟩:=x;obtain ⟨sl,e'⟩:=sm a o e (fun vs q=>by rw [d] at q; cases q);exact ⟨_,es,ep,e',d,r⟩
structure vK (K:ai) (C D f:aj):Prop where
 mro:(iA K C).any (fun cd=>cd.mro == [.ref C,.ref D,.type "ValueError",.type "Exception",.type "BaseException",.type "object"] && cd.hasDict)=true
 made:(K.lookup C).any (fun ob=>ob.cls == .type "type" && (match ob.data,ob.slots.toList with | .cls cd,[_,_,_,_,some (.builtin n),_]=>n == "ValueError.__new__" && !cd.hasDel | _,_=>false))=true
 tail:qX K D ID "ValueError.__new__"=true
 init:bV K (.ref C) "__init__"=some (some (.ref f))
 fn:jW K (.ref f)=true
 kp:dZ K (.ref C)=true
 sa:bV K (.ref C) "__setattr__"=some (some (.builtin "object.__setattr__"))
 nl:bV K (.ref C) "line"=some none
 x:tY K C
def FH (C D:aj):List ag:=[.ref C,.ref D,.type "ValueError",.type "Exception",.type "BaseException",.type "object"]
theorem vK.cd {K:ai} {C D f:aj} (c:vK K C D f):∃ cd,iA K C=some cd/\cd.mro=FH C D/\cd.hasDict=true:=by
 obtain ⟨cd,a,b⟩:=sM c.mro;rw [dA,beq_iff_eq] at b;exact ⟨cd,a,b.1,b.2⟩
theorem vK.obj {K:ai} {C D f:aj} {h:cI} (c:vK K C D f) (X:K.In h):∃ nm q N bs hdct sn sub ab col dd k0 k1 k2 k3 k5,h.get? C=some (excClassObj nm q C N bs [.ref D,.type "ValueError",.type "Exception",.type "BaseException",.type "object"] hdct sn sub ab col dd k0 k1 k2 k3 k5 "ValueError.__new__"):=by
 obtain ⟨cd,hcd,hmro,hhd⟩:=c.cd;obtain ⟨ob,e1,e2⟩:=sM c.made;have e3:=X _ _ e1;obtain ⟨oc,od,odt,osl⟩:=ob
 cases odt with
 | cls cd' =>
  obtain ⟨sl⟩:=osl;unfold iA at hcd;rw [e1] at hcd
  cases hcd;dsimp only at e2;rw [dA,beq_iff_eq] at e2;obtain ⟨rfl,e2⟩:=e2
  split at e2
  ·rename_i _ _ cd2 k0 k1 k2 k3 n k5 hdd
   cases hdd;rw [dA,beq_iff_eq,tF] at e2;obtain ⟨rfl,hdel⟩:=e2;obtain ⟨nm,bs,mro,ns,qn,hd,sn,sub,ab,col,del⟩:=cd;dsimp only at hmro hdel;subst hmro hdel;exact ⟨nm,qn,ns,bs,hd,sn,sub,ab,col,od,k0,k1,k2,k3,k5,e3⟩
  ·cases e2
 | _=>rw [dA] at e2; exact absurd e2.2 (by simp)
section
variable {prog:aS} {w:bN} {A:bJ} {E:ag->ah->Prop} {s:ah} {K:ai} {x C D f:aj} {ox:Obj} {v:ag}
theorem BW {Q:Unit->ah->Prop} (X:K.In s.heap) (hx:s.heap.get? x=some ox) (hc:ox.cls=.ref C) (hnc:j5 ox=true) (hdn:ox.dict=none) (c:vK K C D f)
  (h:∀ h',h'.get? x=some {ox with dict:=some s.heap.objs.size}->h'.Ns1 s.heap.objs.size (fun y=>if y="line" then some v else none)->(∀ b o,b≠x->s.heap.get? b=some o->h'.get? b=some o)->Q () {s with heap:=h',toks:=s.toks + 2}) :
  aY (aM prog w) A (setAttr (.ref x) "line" v) Q E s:=by
 have I:eF s.heap x ox C none:=⟨hx,hc,hnc,by rw [hdn]; trivial⟩;obtain ⟨cd,hcd,hmro,hhd⟩:=c.cd;refine AK X I c.sa ?_;have SF:=PySem.F.store_object;have hm:vL (aM prog w) s.heap (mroOf (.ref C)) (FH C D):=by
  have z:=(qN (M:=aM prog w) X hcd).andThen (f:=fun cd=>pure cd.mro) .now;rw [hmro] at z;exact z
 have sub:vL (aM prog w) s.heap (Ag (.ref x) (.type "object")) true:=I.type.andThen (qP X c.x.ob);refine nk SF.slot.plain SF.entry (@PySem.W.check_slot (aM prog w) _ _ {s with toks:=s.toks + 1} "object.__setattr__" "object" "__setattr__" (.ref x) [.str "line" s.toks,v] [] _ SF.kind SF.split sub (SF.args (.ref x) (.str "line" s.toks) v) ?_);rw [PySem.W.osa_eq,refuse_eq];have I':eF ({s with toks:=s.toks + 1}:ah).heap x ox C none:=I;refine af (af (I'.type.here (af (kI (s:={s with toks:=s.toks + 1}) hm ?_))));rw [show refuseLoop (.ref x) "__setattr__" (FH C D)=pure () from by
  unfold FH;rw [refuseLoop_ref,refuseLoop_ref];exact PySem.F.store_ValueError.passes (.ref x)]
 refine av (af (I'.type.here (af (kI (s:={s with toks:=s.toks + 1}) (eQ X c.nl) ?_))));refine af (av ?_);obtain ⟨hh,g,d,t,os⟩:=s;dsimp only at hx h;refine af (av (af (af (sN hx ?_))));rw [hc];refine af (kI (s:=⟨hh,g,d,t + 1,os⟩) (qN X hcd) ?_);rw [hhd,hdn];have hxs:x≠hh.objs.size:=br (bb hx);have hx1:(hh.push {cls:=.type "dict",data:=.dict #[]}).get? x=some ox:=ay _ hx;have nf:(({ox with dict:=some hh.objs.size}:Obj)).isFreed=false:=by
  have z:=(Heap.get?_some_iff.mp hx).2;obtain ⟨oc,od,odt,osl⟩:=ox
  cases odt <;> first | rfl | exact z
 have hnd:((hh.push {cls:=.type "dict",data:=.dict #[]}).update x fun o=>{o with dict:=some hh.objs.size}).Ns hh.objs.size (fun _=>none):=
  ⟨_,#[],_,(BX _ _ _ _ hxs.symm).trans (Heap.get?_push_at rfl rfl),rfl,fun e he=>absurd he (by simp),fun _=>rfl⟩
 have fin:aY (aM prog w) A.in1 (ES hh.objs.size (.str "line" t) "line" v) (fun fin s'=>match fin with | .done f=>(match (Except.ok f:ma) with | .ok (.ret _)=>Q () s' | .ok _=>False | .error e=>E e s') | .again c'=>c'.quiet=true/\pQ (aM prog w) A c' (fun r s'=>match r with | .ok (.ret _)=>Q () s' | .ok _=>False | .error e=>E e s') s') (fun e s'=>E e s') ⟨(hh.push {cls:=.type "dict",data:=.dict #[]}).update x fun o=>{o with dict:=some hh.objs.size},g,d,t + 1,os⟩:=by
  refine af (av (af (wpAny_nsSet1 (zJ hnd) fun h' hn' hs=>?_)));obtain ⟨oD,esD,epD,hoD,hdD,hcD⟩:=hn'.count (Within.cons "line" v Within.nil);refine af (wpAny_lookBehind hoD (by rw [hdD]; exact pastItsLine_dict (bC hcD (by rw [aE,iJ,pO]; omega))) ?_);refine av (h _ ?_ hn' fun b o hb e=>?_)
  ·exact (hs.2 x hxs).trans (fJ _ hx1 nf)
  ·exact (hs.2 b (br (bb e))).trans ((BX _ _ _ _ hb).trans (ay _ e))
 rw [if_neg (by decide)];dsimp only;rw [if_neg (by simp [typeHasDict])]
 split
 ·rename_i c' hcd'
  rw [j5,hcd'] at hnc
  cases hnc
 ·exact af (wpAny_alloc' (af (wpAny_update' hx1 (av fin))))
theorem DY {rest:List ag} {Q:ag->ah->Prop} (X:K.In s.heap) (c:vK K C D f) (hrest:rest.length<=ax)
  (h:∀ h' e,Gz s.heap h' e (.ref C) rest->aY (aM prog w) (A.under (.builtin "type.__call__" ⟨.ref C :: rest,[]⟩)) (rO (.ref f) (.ref e :: rest)) (fun r s'=>r=.none/\Q (.ref e) s') E {s with heap:=h'}) :
  aY (aM prog w) A (rO (.ref C) rest) Q E s:=by
 obtain ⟨cd,hcd,hmro,hhd⟩:=c.cd;have FB:=PySem.F.excBase_ValueError;obtain ⟨hh,g,d,t,os⟩:=s;obtain ⟨nm,q,N,bs,hdct,sn,sub,ab,col,dd,k0,k1,k2,k3,k5,hC⟩:=c.obj X;have T:OwnTail hh ID [.ref D,.type "ValueError",.type "Exception",.type "BaseException",.type "object"]:=by
  obtain ⟨bm,N,nm,q,bs,hdct,sn,sub,ab,col,dd,k0,k1,k2,k3,k5,mN,hD,hN,hni,_⟩:=Fh X c.tail;exact .own hD hN hni .base
 have f1:=tc_lookup;have f2:=tc_bind (.ref C);have hT:(⟨hh,g,d,t,os⟩:ah).TypeIs (.ref C) "type":=⟨_,hC,rfl⟩;refine kq (codeAny_of_tree ?_);show aY _ _ (Jt (.ref C) _) _ _ _
 repeat (any_goals (first | assumption | with_reducible refine pZ hC ?_ | wp_step))
 refine ⟨rfl,?_⟩;refine codeAny_call_builtin_at (nI _ (by decide +kernel)) entry_typeCall (wpAny_check_type_call_sub hC ?_)
 repeat (first | with_reducible refine pZ hC ?_ | with_reducible refine wpAny_madeBy_exc hC ?_ | wp_step)
 refine codeAny_call_builtin_code (nI _ FB.quiet) (wpAny_check_new_subT FB T hC ?_);refine codeAny_exc_new_subT FB T hC ?_ hrest;show aY _ _ _ _ _ _;generalize hto:({cls:=.type "tuple",data:=.seq rest.toArray}:Obj)=ot;generalize heo:({cls:=.ref C,data:=.fields #[.ref hh.objs.size,.none,.none,.none,.bool false,.none]}:Obj)=oe;have kp:∀ b o,hh.get? b=some o->((hh.push ot).push oe).get? b=some o:=fun b o e=>ay _ (ay _ e);have hget:((hh.push ot).push oe).get? (hh.objs.size + 1)=some oe:=by
  have z:=bH (hh.push ot) (o:=oe) (by rw [<- heo]; rfl);rw [jk] at z;exact z
 have X1:K.In ((hh.push ot).push oe):=X.keeps kp;have J:eF ((hh.push ot).push oe) (hh.objs.size + 1) oe C none:=⟨hget,by rw [<- heo],by rw [<- heo]; rfl,by rw [<- heo]; trivial⟩;have et:({cls:=.type "tuple",data:=.seq ([].append rest).toArray}:Obj)=ot:=hto;show aY _ _ _ _ _ ⟨(hh.push ({cls:=.type "tuple",data:=.seq ([].append rest).toArray}:Obj)).push oe,g,d,t,os⟩;rw [et];unfold Ag;refine af (af (J.type.here (s:=⟨(hh.push ot).push oe,g,d,t,os⟩) (GG (kp _ _ hC) ?_)));rw [show (Value.ref C :: [.ref D,.type "ValueError",.type "Exception",.type "BaseException",.type "object"]).contains (.ref C)=true by simp,if_neg (by decide)];refine af (bK (PySem.W.special_fn (s:=⟨(hh.push ot).push oe,g,d,t,os⟩) X1 J c.init (beq_iff_eq.mp c.fn) ?_));refine cg (h ((hh.push ot).push oe) (hh.objs.size + 1) ⟨kp,lD (gS _),hh.objs.size,?_,lD (aF _),?_⟩) (fun r s' z=>?_) fun _ _ z=>z
 ·rw [heo];exact hget
 ·rw [hto];exact ay _ (bH hh (by rw [<- hto]; rfl))
 ·obtain ⟨rfl,z⟩:=z;exact av z
end
def FX (a:aj) (ob:Obj):HO:=.ext (fun h=>h.get? a=some ob)
def lineM (u:ag):Str->Option ag:=fun y=>if y="line" then some u else none
def yQ (d n:Nat) (h:cI):Prop:=∃ u,RelV (.int n) u/\h.Ns1 d (lineM u)
def LD (d n:Nat):HO:=.ext (yQ d n)
def XeOk (a C d:aj) (h:cI):Prop:=∃ ob,h.get? a=some ob/\ob.cls=.ref C/\ob.dict=some d/\j5 ob=true
def XE (a C d:aj):HO:=.ext (XeOk a C d)
section
variable {P:aS} {w:bN} {H H':Hp} {h h':cI} {a b C d:aj} {n:Nat} {o:HO} {ob:Obj} {fs ex:List aj}
theorem FX.ok (e:h.get? a=some ob):gj P w H h a (FX a ob):=⟨e,⟨_,e⟩,fun h1 h2 x k=>k _ x⟩
theorem LD.ok (x:yQ d n h):gj P w H h d (LD d n):=by
 obtain ⟨u,r,y⟩:=id x;obtain ⟨o,_,_,e,_⟩:=y;refine ⟨x,⟨o,e⟩,fun h1 h2 z k=>?_⟩;obtain ⟨u,r,y⟩:=z;exact ⟨u,r,y.at k⟩
theorem XE.ok (x:XeOk a C d h):gj P w H h a (XE a C d):=by
 obtain ⟨ob,e,r⟩:=id x;refine ⟨x,⟨ob,e⟩,fun h1 h2 z k=>?_⟩;obtain ⟨ob,e,r⟩:=z;exact ⟨ob,k _ e,r⟩
theorem yQ.sl (x:yQ d n h) (sm:h.UpToSlots h'):yQ d n h':=by
 obtain ⟨u,r,y⟩:=x;exact ⟨u,r,IT y sm⟩
theorem Un.twoL (he:H a=some o) (hno:∀ xs,o≠.tup xs) (hno2:∀ q u,o≠.frz q u) (hno3:∀ ps,o≠.tbl ps) (hd:H d=none) (nd:h.get? d=none) (hna:∃ q,h'.get? a=some q) (k:∀ b q,b≠a->h.get? b=some q->h'.get? b=some q) {o1 o2:HO}:Un fs ex H (upd (upd H d o1) a o2) h h' where
 keep:=fun b u q n _ _=>k b u (fun z=>by rw [z,he] at n; cases n) q
 slot:=fun b u q n _ _=>⟨u.slots,k b u (fun z=>by rw [z,he] at n; cases n) q⟩
 free:=fun b u q n _=>by
  rw [aX (fun z=>by rw [z,he] at n; cases n),aX (fun z=>by rw [z,nd] at q; cases q)];exact n
 there:=fun b u q _=>by
  by_cases z:b=a
  ·rw [z]; exact hna
  ·exact ⟨u,k b u z q⟩
 tups:=fun b xs q=>by
  rw [aX (fun z=>by rw [z,he] at q; exact hno xs (b0 q)),aX (bw q hd)];exact q
 frzs:=fun b u xs q=>by
  rw [aX (fun z=>by rw [z,he] at q; exact hno2 _ _ (b0 q)),aX (bw q hd)];exact q
 tbls:=fun b ps q=>⟨#[],by rw [aX (fun z=>by rw [z,he] at q; exact hno3 _ (b0 q)),aX (bw q hd),q]; simp⟩
end
section
variable {X:Cx} {pins:List (aj×Obj)} {σ:St} {H H1:Hp} {s:ah}
theorem Inv.lessL (I:Inv X pins σ H s) (sub:∀ a o,H1 a=some o->H a=some o) (ext:∀ a o,H a=some o->H1 a=some o\/∃ φ,o=.ext φ):Inv X pins σ H1 s:=by
 have no:∀ {a:aj},H a=none->H1 a=none:=fun {a} z=>by
  cases q:H1 a with
  | none=>rfl
  | some o=>rw [sub a o q] at z; cases z
 refine ⟨I.ok,I.os,I.bare,⟨I.base.keep,I.base.slot,fun b o e n hx=>no (I.base.free b o e n hx),I.base.there,fun b xs e=>?_,fun b o u e=>?_,fun b ps e=>?_⟩,I.loc,I.cell,no I.free,fun x c e=>no (I.freeC x c e),fun p hp=>?_,fun b u e=>?_,I.len⟩
 ·rcases ext _ _ (I.base.tups b xs e) with z | ⟨φ,z⟩
  ·exact z
  ·cases z
 ·rcases ext _ _ (I.base.frzs b o u e) with z | ⟨φ,z⟩
  ·exact z
  ·cases z
 ·obtain ⟨more,z⟩:=I.base.tbls b ps e
  rcases ext _ _ z with z | ⟨φ,z⟩
  ·exact ⟨more,z⟩
  ·cases z
 ·obtain ⟨e1,e2,e3⟩:=I.pin p hp;exact ⟨e1,no e2,e3⟩
 ·refine (I.hok b u (sub b u e)).stay (fun _ _ _ q=>q) (fun c q=>?_) fun c xs q=>?_
  ·rcases ext _ _ q with z | ⟨φ,z⟩
   ·exact z
   ·cases z
  ·rcases ext _ _ q with z | ⟨φ,z⟩
   ·exact z
   ·cases z
theorem Inv.trackL {b:aj} {o:HO} (I:Inv X pins σ H s) (hz:H b=none) (nl:b≠X.env.locals) (nc:∀ v,¬ s.heap.IsCell b v) (old:∀ q,X.s₀.heap.get? b=some q->b∈X.ex) (np:∀ p∈X.pn++pins,p.1≠b) (ok:gj X.prog X.w (upd H b o) s.heap b o):Inv X pins σ (upd H b o) s:=by
 have ne:∀ {c:aj} {q:HO},H c=some q->c≠b:=fun {c q} z=>bw z hz;refine ⟨I.ok,I.os,I.bare,⟨I.base.keep,I.base.slot,fun c q e n hx=>?_,I.base.there,fun c xs e=>?_,fun c q u e=>?_,fun c ps e=>?_⟩,I.loc,I.cell,?_,fun x c e=>?_,fun p hp=>?_,fun c u e=>?_,I.len⟩
 ·rw [aX]
  ·exact I.base.free c q e n hx
  ·rintro rfl;exact hx (old _ e)
 ·have z:=I.base.tups c xs e;rw [aX (ne z)];exact z
 ·have z:=I.base.frzs c q u e;rw [aX (ne z)];exact z
 ·obtain ⟨more,z⟩:=I.base.tbls c ps e;exact ⟨more,by rw [aX (ne z)]; exact z⟩
 ·rw [aX (eU nl)];exact I.free
 ·rw [aX]
  ·exact I.freeC x c e
  ·rintro rfl;obtain ⟨v,z⟩:=I.cell x _ e;exact nc v z
 ·obtain ⟨e1,e2,e3⟩:=I.pin p hp;exact ⟨e1,by rw [aX (np p hp)]; exact e2,e3⟩
 ·by_cases hb:c=b
  ·subst hb;rw [ao] at e
   cases e;exact ok
  ·rw [aX hb] at e;exact (I.hok c u e).stay (fun _ _ _ q=>q) (fun c q=>by rw [aX (ne q)]; exact q) fun c xs q=>by rw [aX (ne q)]; exact q
end
section
variable {X:Cx} {C D f:aj} {o value:cA} {ta tv:TE} {pos pos':Pos}
def sLine (C:aj) (ta tv:TE):TS:=fun Z σ H=>tv σ H fun y H1=>ta σ H1 fun x H2=>∃ (e:aj) (ob:Obj) (n:Nat),x=.ref e/\y=.int n/\H2 e=some (FX e ob)/\ob.cls=.ref C/\ob.dict=none/\j5 ob=true /\
 ∀ d,H2 d=none->d≠e->Z.nx σ (upd (upd H2 d (LD d n)) e (FX e {ob with dict:=some d}))
theorem FJ (c:vK X.K C D f) (ha:PE X o ta) (hv:PE X value tv) (hs:lZ value (some (.Attribute o "line" pos')) pos.line X.env=pure false):PS X (.Assign [.Attribute o "line" pos'] value pos) (sLine C ta tv):=by
 intro pins s σ H Z I h;refine vW (thn (hv pins s σ H _ I h) fun u s1 ⟨y,H1,I1,ry,q⟩=>thn (ha pins s1 σ H1 _ I1 q) fun ov s2 ⟨x,H2,I2,rx,e,ob,n,ex,ey,he,hc,hd,hn,q2⟩=>?_) hs;subst ex ey;obtain rfl:ov=Value.ref e:=rx;have e1:s2.heap.get? e=some ob:=(I2.hok e _ he).1;refine BW I2.kIn e1 hc hn hd c fun h' x1 x2 x3=>⟨σ,_,?_,q2 s2.heap.objs.size (I2.hok.fresh (aF _)) (mX (bb e1))⟩;have nd:s2.heap.get? s2.heap.objs.size=none:=lD (aF _);have hz:H2 s2.heap.objs.size=none:=I2.hok.fresh (aF _);refine I2.un (t':=s2.toks + 2) (Un.twoL he (fun _ z=>by cases z) (fun _ _ z=>by cases z) (fun _ z=>by cases z) hz nd ⟨_,x1⟩ x3) fun b u eb=>?_
 by_cases hb:b=e
 ·subst hb;rw [ao] at eb
  cases eb;exact FX.ok x1
 ·rw [aX hb] at eb
  by_cases hb2:b=s2.heap.objs.size
  ·subst hb2;rw [ao] at eb
   cases eb;exact LD.ok ⟨u,ry,x2⟩
  ·rw [aX hb2] at eb;have ne:∀ {c:aj} {q:HO},H2 c=some q->(∀ φ,q≠.ext φ)->c≠e:=fun {c q} z hq y=>by
    rw [y,he] at z;exact hq _ (b0 z).symm
   refine (I2.hok b u eb).stay (fun c v hcc qq=>x3 c v ?_ qq) (fun c qq=>?_) fun c xs qq=>?_
   ·rcases hcc with rfl | hcc
    ·exact hb
    ·exact ne hcc fun _ z=>by cases z
   ·rw [aX (ne qq fun _ z=>by cases z),aX (bw qq hz)];exact qq
   ·rw [aX (ne qq fun _ z=>by cases z),aX (bw qq hz)];exact qq
end
inductive GJ (C:aj) (vs:List V) (H:Hp) (Q:VK) (_e:XK):Prop where
 | mk (e:aj) (ob:Obj) (n:Nat) (_:vs=[.ref e,.int n]) (_:H e=some (FX e ob)) (_:ob.cls=.ref C) (_:ob.dict=none) (_:j5 ob=true) (_:∀ d,H d=none->d≠e->Q .non (upd (upd H d (LD d n)) e (FX e {ob with dict:=some d}))):GJ C vs H Q _e
def DZ (C:aj):Sp:=fun vs H Q _e=>GJ C vs H Q _e
def IU (B:cI) (stk:List Env) (ea C:aj) (n:Nat) (h:cI):Prop:=
 ∃ d,FlE (some d) B stk ea (.ref C) .none h/\d≠ea/\B.get? d=none/\d∉frs stk/\yQ d n h
def CXl (P:aS) (w:bN):CXT:=fun outer H s E e s' =>
 ∃ (ea C:aj) (n:Nat) (H':Hp) (B:cI),e=.ref ea/\E (.ref C) (some n) H'/\s'.os=s.os/\q8 s'.gens/\Un (frs outer) [] H H' s.heap s'.heap/\HOk P w H' s'.heap/\IU B outer ea C n s'.heap /\
  ∀ b o,(H' b≠none\/∃ o',s.heap.get? b=some o')->b∉frs outer->s'.heap.get? b=some o->B.get? b=some o
structure tJ (X:Cx) (E:XK):Prop where
 stk:X.stack=X.env :: X.outer
 fr:X.env.frame=some X.env.locals
 ex:X.ex=[]
 xe:X.xe=fun e s'=>aY (aM X.prog X.w) X.A (tE X.env e) (fun _ s''=>CXl X.prog X.w X.outer X.H₀ X.s₀ E e s'') (fun e' s''=>CXl X.prog X.w X.outer X.H₀ X.s₀ E e' s'') s'
theorem jc {P:aS} {w:bN} {K:ai} {mg:Str->Option ag} {base:cI} {N:List Str} {qual:Str} {scope:kB} {f:aj} {cd:ag} {A:bJ} {outer:List Env} {s:ah} {H:Hp} {E:XK} :
  tJ (tR (CXl P w) P w K mg base N qual scope f cd A outer s H E) E:=⟨rfl,rfl,rfl,rfl⟩
theorem yR {env:Env} {outer:List Env} {d:aj} (h:d∉frs (env :: outer)):d∉frs outer:=fun z=>h (by
 unfold frs at z |-;obtain ⟨e,he,q⟩:=gD.mp z;exact gD.mpr ⟨e,ar _ he,q⟩)
section
variable {X:Cx} {E E':XK} {pins:List (aj×Obj)} {σ:St} {H:Hp} {s:ah}
structure NewX (X:Cx) (H:Hp) (a:aj):Prop where
 no:H a=none
 old:∀ o,X.s₀.heap.get? a≠some o
 fr:a∉frs X.stack
theorem tJ.raises (hb:tJ X E) (I:Inv X pins σ H s) {e C d:aj} {n:Nat} {oe:Obj} {vs:Array ag} (he:s.heap.get? e=some oe) (hcl:oe.cls=.ref C) (hdc:oe.dict=some d) (hd:oe.data=.fields vs) (h1:vs[1]?=some .none) (hne:d≠e)
  (ne:NewX X H e) (nd:NewX X H d) (ns:yQ d n s.heap) (q:E (.ref C) (some n) H):X.xe (.ref e) s:=by
 rw [hb.xe];have hfr:X.A.frames=some (X.env :: X.outer):=by rw [I.ok.frames,hb.stk]
 have hin:∀ env∈X.stack,∀ a,env.frame=some a->a∈frs X.stack++[e,d]:=fun env he a ha=>dj _ (gD.mpr ⟨env,he,ha⟩);have fl:s.heap.FunFrames (gI s.heap (frs X.stack++[e,d])) (X.env :: X.outer):=by
  have z:=xD I.stack hin;rw [hb.stk] at z |-;exact z
 have ub:Un X.fs [] X.H₀ H X.s₀.heap s.heap:=by
  have z:=I.base;rw [hb.ex] at z;exact z
 have keepB:∀ b o,b∉frs X.stack->(H b≠none\/∃ o',X.s₀.heap.get? b=some o')->s.heap.get? b=some o->(gI s.heap (frs X.stack++[e,d])).get? b=some o:=fun b o n c z=>by
  refine qL _ z fun y=>?_
  rcases aU.mp y with y | y
  ·exact n y
  ·have:b=e\/b=d:=by simpa using y
   rcases this with rfl | rfl
   ·rcases c with c | ⟨o',c⟩
    ·exact c ne.no
    ·exact ne.old _ c
   ·rcases c with c | ⟨o',c⟩
    ·exact c nd.no
    ·exact nd.old _ c
 refine FG (B:=gI s.heap (frs X.stack++[e,d])) hfr hb.fr (fun b o z=>q0 _ z) (p8 _ (aT _ (by simp))) fl he hd h1 hdc fun h'' x1 sm=>?_;rw [hcl] at x1;have nfo:d∉frs X.outer:=by
  have z:=nd.fr;rw [hb.stk] at z;exact yR z
 refine ⟨e,C,n,H,_,rfl,q,I.os,I.bare,ub.left (stk:=frs X.stack) x1.1 (fun b o c n e=>keepB b o n c e) I.oldfs (I.slotsOf sm),I.hok.left x1.1 (fun b o n e=>keepB b o (I.ntr b n) (.inl n) e),⟨d,x1,hne,p8 _ (aT _ (by simp)),nfo,ns.sl sm⟩,?_⟩;intro b o c n e1;have nb:b∉frs X.stack:=by
  rcases c with c | ⟨o',c⟩
  ·exact I.ntr b c
  ·exact fun z=>n (I.oldfs b o' c z)
 obtain ⟨o1,e2⟩:∃ o1,s.heap.get? b=some o1:=by
  rcases c with c | ⟨o',c⟩
  ·exact I.hok.has c
  ·exact ub.there b o' c (by simp)
 have e3:h''.get? b=some o1:=x1.1 b o1 (keepB b o1 nb c e2);have e4:h''.get? b=some o:=e1;rw [e3] at e4
 cases e4;exact keepB b _ nb c e2
theorem tJ.passes (hb:tJ X E) (hE:∀ c d H,E' c d H->E c d H):nZ (CXl X.prog X.w) X E':=fun pins σ H s e s' I h=>by
 obtain ⟨ea,C,n,H',B,rfl,q,os,bare,un,hok,⟨d,fl,dne,dB,dfr,dns⟩,cov⟩:=h;have J:Inv X pins σ H' s':=I.call' (ch:=[]) os un hok bare (fun b z=>absurd z (by simp));rw [hb.xe];have hfr:X.A.frames=some (X.env :: X.outer):=by rw [I.ok.frames,hb.stk]
 have ub:Un X.fs [] X.H₀ H' X.s₀.heap s'.heap:=by
  have z:=J.base;rw [hb.ex] at z;exact z
 have ui:Un X.fs [] X.H₀ H X.s₀.heap s.heap:=by
  have z:=I.base;rw [hb.ex] at z;exact z
 have cov1:∀ b o,(H' b≠none\/∃ o',X.s₀.heap.get? b=some o')->b∉frs X.stack->s'.heap.get? b=some o->B.get? b=some o:=fun b o c n e =>
  cov b o (c.imp_right fun ⟨o',z⟩=>ui.there b o' z (by simp)) n e
 have fl':FlE (some d) B (X.env :: X.outer) ea (.ref C) .none s'.heap:=by
  rw [<- hb.stk];exact fl
 refine BV hfr hb.fr fl' fun h'' x1 x2=>?_;refine ⟨ea,C,n,H',B,rfl,hE _ _ _ q,J.os,J.bare,ub.left (stk:=frs X.stack) x1.1 cov1 J.oldfs (J.slotsOf x2),J.hok.left x1.1 (fun b o n e=>cov1 b o (.inl n) (J.ntr b n) e),⟨d,x1,dne,dB,?_,dns.sl x2⟩,?_⟩
 ·rw [hb.stk] at dfr;exact yR dfr
 intro b o c n e1;have nb:b∉frs X.stack:=by
  rcases c with c | ⟨o',c⟩
  ·exact J.ntr b c
  ·exact fun z=>n (J.oldfs b o' c z)
 obtain ⟨o1,e2⟩:∃ o1,s'.heap.get? b=some o1:=by
  rcases c with c | ⟨o',c⟩
  ·exact J.hok.has c
  ·exact ub.there b o' c (by simp)
 have e3:h''.get? b=some o1:=x1.1 b o1 (cov1 b o1 c nb e2);have e4:h''.get? b=some o:=e1;rw [e3] at e4
 cases e4;exact cov1 b _ c nb e2
end
section
variable {X:Cx} {E:XK} {x:Str} {C D f:aj} {np cpos pos:Pos} {e₀:cA} {rest:List cA} {ta:TA} {k:Nat} {fd:cf} {ps:List Str}
def xJ (C:aj) (E:XK) (ta:TA):TS:=fun _ σ H=>ta σ H fun vs H1=>∃ n:Nat,vs=[.int n]/\E (.ref C) (some n) H1
theorem wz (hb:tJ X E) (hc:X.calm=true) (c:vK X.K C D f) (hg:Gl X x) (hm:X.mg x=some (.ref C)) (F:cQ X.prog X.w X.K X.mg X.base CX0 k f fd ps (DZ C)) (hr:dE (k + 1) X.A) (hbn:Binds X.K fd ps []) (ha:PA X (e₀ :: rest) ta)
  (hdb:(x == ("__debug__":Str))=false:=by decide) (he:bM (e₀ :: rest) X.env=(false,d6 e₀ X.env) :: bM rest X.env:=by rfl) (hpl:(fg cpos (bM rest X.env)).any (·.1)=false:=by rfl) :
  PS X (.Raise (some (.Call (.Name x np) (e₀ :: rest) [] cpos)) none pos) (xJ C E ta):=by
 intro pins s σ H Z I h;have main:aY (aM X.prog X.w) X.A (d6 (.Call (.Name x np) (e₀ :: rest) [] cpos) X.env) (fun v s2=>∃ (e t d:aj),v=.ref e/\s2.heap.get? e=some {cls:=.ref C,dict:=some d,data:=.fields #[.ref t,.none,.none,.none,.bool false,.none]}/\X.K.In s2.heap/\X.xe (.ref e) s2) X.xe s:=by
  refine kr (oW I hg hm ?_ hdb);refine mf (h₀:=X.base) I.ok.mod.kin c.kp (thn (ha cpos pins s σ H _ I h) fun us s1 ⟨vs,H1,I1,r,n,hvs,q⟩=>⟨I1.kIn,?_⟩) he hpl;subst hvs;obtain ⟨u,rfl,ru⟩:=vals1 r;refine DY (D:=D) (f:=f) (rest:=[u]) I1.kIn c (by rw [kJ,pO]; omega) fun h' e m=>?_;have hn:H1 e=none:=by
   cases z:H1 e with
   | none=>rfl
   | some o =>
    obtain ⟨ob,e1⟩:=I1.hok.has (b:=e) (by rw [z]; simp);rw [m.new] at e1
    cases e1
  obtain ⟨t1,e1,_⟩:=m.there;generalize hob:({cls:=.ref C,data:=.fields #[.ref t1,.none,.none,.none,.bool false,.none]}:Obj)=ob at e1;have I2:=I1.un (t':=s1.toks) (H':=upd H1 e (FX e ob)) (Un.laidN m.keeps m.new hn) (I1.hok.laidN m.keeps hn (FX.ok e1));have hq:DZ C [.ref e,.int n] (upd H1 e (FX e ob)) (fun v H2=>v=.non/\∃ d,H1 d=none/\d≠e/\H2=upd (upd (upd H1 e (FX e ob)) d (LD d n)) e (FX e {ob with dict:=some d})) (fun _ _ _=>False):=
   ⟨e,ob,n,rfl,ao,by rw [<- hob],by rw [<- hob],by rw [<- hob]; rfl,fun d hd hde=>⟨rfl,d,by rw [<- hd,aX hde],hde,rfl⟩⟩
  have r2:dq [.ref e,.int n] [Value.ref e,u]:=.cons rfl (.cons ru .nil);have hl:([Value.ref e,u]++[]).length=ps.length:=(F.len _ _ _ _ hq).symm ▸ rfl;refine kq (CS (F.run _ X.stack _ _ ⟨[Value.ref e,u],[]⟩ [Value.ref e,u] _ _ (fun _ _ _=>False) (hr.make C [u] []) (I2.env0.make C [u] []) (by have z:=hbn _ [Value.ref e,u] I2.kIn hl; rwa [bW] at z) r2 hq) fun r s' hq'=>?_)
  cases r with
  | error e=>exact cL hq'
  | ok fl =>
   cases fl with
   | next=>exact cL hq'
   | brk=>exact cL hq'
   | cont=>exact cL hq'
   | ret v =>
    obtain ⟨v',H',os,bare,un,hok,rv,ev,d,hd1,hde,hH⟩:=hq';have I3:=I2.call' (ch:=[]) os un hok bare (fun b z=>absurd z (by simp));subst ev;have qe:H' e=some (FX e {ob with dict:=some d}):=by rw [hH,ao]
    have qd:H' d=some (LD d n):=by rw [hH,aX hde,ao]
    have old:∀ b,s1.heap.get? b=none->∀ o,X.s₀.heap.get? b≠some o:=fun b hz o z=>by
     obtain ⟨o',z'⟩:=I1.base.there b o z (by rw [hb.ex]; simp);rw [hz] at z'
     cases z'
    have dn:s1.heap.get? d=none:=by
     cases z:s1.heap.get? d with
     | none=>rfl
     | some o =>
      have y:=un.free d o (m.keeps _ _ z) (by rw [aX hde]; exact hd1) (by simp);rw [qd] at y
      cases y
    have nf:∀ b,H' b≠none->b∉frs X.stack:=fun b hb z=>hb (I3.stkFree b z);have I4:Inv X pins σ H1 s':=by
     refine I3.lessL (fun a o z=>?_) fun a o z=>?_
     ·rw [hH,aX (bw z hn),aX (bw z hd1),aX (bw z hn)];exact z
     ·by_cases h1:a=e
      ·rw [h1,qe] at z
       cases z;exact .inr ⟨_,rfl⟩
      ·by_cases h2:a=d
       ·rw [h2,qd] at z
        cases z;exact .inr ⟨_,rfl⟩
       ·rw [hH,aX h1,aX h2,aX h1] at z;exact .inl z
    have he1:s'.heap.get? e=some {ob with dict:=some d}:=(I3.hok e _ qe).1;refine ⟨rv,e,t1,d,rfl,by rw [he1,<- hob],I4.kIn,?_⟩;exact hb.raises I4 he1 (by rw [<- hob]) rfl (by rw [<- hob]) rfl hde ⟨hn,old e m.new,nf e (by rw [qe]; simp)⟩ ⟨hd1,old d dn,nf d (by rw [qd]; simp)⟩ (I3.hok d _ qd).1 q
 obtain ⟨nm,qn,N,bs,hdct,sn,sub,ab,col,dd,k0,k1,k2,k3,k5,hC⟩:=c.obj I.kIn;rw [arm_exec_Raise];simp only [evalOpt,Jw];refine af (bU ?_);unfold raiseStmt;refine af (af (cg main (fun v s2 z=>?_) fun _ _ z=>z));obtain ⟨e,t1,d1,rfl,he1,K2,hE⟩:=z;obtain ⟨nm,qn,N,bs,hdct,sn,sub,ab,col,dd,k0,k1,k2,k3,k5,hC⟩:=c.obj K2;refine af (bU (av ?_));obtain ⟨hp,g,dr,tk,os⟩:=s2;have hcB:(Value.ref C :: [.ref D,.type "ValueError",.type "Exception",.type "BaseException",.type "object"]).contains (.type "BaseException")=true:=by simp
 repeat (first | with_reducible refine pZ he1 ?_ | with_reducible refine pZ hC ?_ | (with_reducible refine GG hC ?_; rw [hcB]) | wp_step)
 exact Gy (I.ok.hd hc) hE
end
section
variable {X:Cx} {pins:List (aj×Obj)} {σ:St} {H:Hp} {s:ah} {T:aj->Nat->St->Hp->Prop}
def tryWL (X:Cx) (pins:List (aj×Obj)) (T:aj->Nat->St->Hp->Prop):ag->ah->Prop:=fun e s' =>
 ∃ ea C n B σ H,e=.ref ea/\Inv X pins σ H s'/\IU B X.stack ea C n s'.heap/\vI X pins H B s'.heap/\T C n σ H
abbrev Cx.trL (X:Cx) (pins:List (aj×Obj)) (T:aj->Nat->St->Hp->Prop):Cx:={X with xe:=tryWL X pins T,pn:=X.pn++pins}
theorem Inv.trL (I:Inv X pins σ H s) (T:aj->Nat->St->Hp->Prop):Inv (X.trL pins T) [] σ H s:=
 ⟨⟨I.ok.mod,I.ok.kind,I.ok.glob,I.ok.blt,I.ok.above,I.ok.inj,I.ok.has,I.ok.cab,I.ok.hd,I.ok.frames,I.ok.stk,I.ok.exf,I.ok.bs,I.ok.bsz,I.ok.noex,I.ok.exfs,I.ok.funs,I.ok.frf⟩,I.os,I.bare,I.base,I.loc,I.cell,I.free,I.freeC,
  fun p hp=>I.pin p (by simpa using hp),I.hok,I.len⟩
theorem Inv.untrL {pins':List (aj×Obj)} (I:Inv (X.trL pins T) pins' σ H s):Inv X pins σ H s:=
 ⟨⟨I.ok.mod,I.ok.kind,I.ok.glob,I.ok.blt,I.ok.above,I.ok.inj,I.ok.has,I.ok.cab,I.ok.hd,I.ok.frames,I.ok.stk,I.ok.exf,I.ok.bs,I.ok.bsz,I.ok.noex,I.ok.exfs,I.ok.funs,I.ok.frf⟩,I.os,I.bare,I.base,I.loc,I.cell,I.free,I.freeC,
  fun p hp=>I.pin p (dj _ hp),I.hok,I.len⟩
abbrev THL:=aj->Nat->TS
def FK (X:Cx) (hs:List mV) (th:THL):Prop:=
 ∀ (pins:List (aj×Obj)) (s:ah) (σ:St) (H:Hp) (D:Ends) (ea C:aj) (n:Nat) (B:cI),Inv X pins σ H s->IU B X.stack ea C n s.heap->vI X pins H B s.heap->th C n D σ H ->
  aY (aM X.prog X.w) X.A (handleBy (.ref ea) X.env hs) (SP X pins D) X.xe s
def IV:THL:=fun _ _ _ _ _=>False
theorem D0:FK X [] IV:=fun _ _ _ _ _ _ _ _ _ _ _ _ h=>h.elim
def thAsL (K:ai) (Ci:aj) (i:Nat) (t:TS) (th:THL):THL:=fun C n D σ H =>
 (qr K (.ref C) (.ref Ci)=some true/\∀ ea d,H ea=none->H d=none->d≠ea->t (DC i D) (σ.set i (some (.ref ea))) (upd (upd H d (LD d n)) ea (XE ea C d)))\/(qr K (.ref C) (.ref Ci)=some false/\th C n D σ H)
theorem Inv.adoptL {B:cI} {ea C:aj} {n d:Nat} {fl:ag} (I:Inv X pins σ H s) (hst:X.stack=X.env :: X.outer) (hfr:X.env.frame=some X.env.locals) (f:FlE (some d) B X.stack ea (.ref C) fl s.heap) (dne:d≠ea) (dB:B.get? d=none) (dfr:d∉frs X.stack) (ld:yQ d n s.heap) (cov:vI X pins H B s.heap) :
  H ea=none/\H d=none/\Inv X pins σ (upd (upd H d (LD d n)) ea (XE ea C d)) s:=by
 obtain ⟨hB,hn,hl,oe,vs,Tr,oT,ts,he,hc,hdc,hd,_⟩:=f;have nf:ea∉frs X.stack:=fun z=>by
  obtain ⟨_,o,ho,q⟩:=hl.mem z;rw [he] at ho
  cases ho;exact q vs hd
 obtain ⟨u,ru,od,es,ep,hod,hdd,hrest⟩:=id ld;have lf:X.env.locals∈frs X.stack:=gD.mpr ⟨X.env,by rw [hst]; exact aw ..,hfr⟩;have fresh:∀ {b:aj} {o:Obj},s.heap.get? b=some o->B.get? b=none->b∉frs X.stack->H b=none/\(∀ q,X.s₀.heap.get? b=some q->b∈X.ex)/\∀ p∈X.pn++pins,p.1≠b:=fun {b o} e nB nfr=>by
  have no:∀ {q:Prop},B.get? b=some o->q:=fun z=>by rw [nB] at z; cases z
  refine ⟨?_,fun q z=>?_,fun p hp z=>?_⟩
  ·cases z:H b with
   | none=>rfl
   | some y=>exact no (cov b o (.inl (by rw [z]; simp)) nfr e)
  ·by_cases hx:b∈X.ex
   ·exact hx
   ·exact no (cov b o (.inr (.inl ⟨hx,q,z⟩)) nfr e)
  ·exact no (cov b o (.inr (.inr ⟨p,hp,z⟩)) nfr e)
 obtain ⟨e1,e2,e3⟩:=fresh he hn nf;obtain ⟨d1,d2,d3⟩:=fresh hod dB dfr;refine ⟨e1,d1,?_⟩;have J:=I.trackL (o:=LD d n) d1 (fun z=>dfr (z ▸ lf)) (fun v ⟨o,ho,hv⟩=>by rw [hod] at ho; cases ho; rw [hdd] at hv; cases hv) d2 d3 (LD.ok ld);refine J.trackL (b:=ea) (o:=XE ea C d) (by rw [aX (eU dne)]; exact e1) (fun z=>nf (z ▸ lf)) (fun v ⟨o,ho,hv⟩=>by rw [he] at ho; cases ho; rw [hd] at hv; cases hv) e2 e3 (XE.ok ⟨oe,he,hc,hdc,?_⟩);unfold j5;rw [hd]
theorem FL {x n:Str} {Ci:aj} {np pos:Pos} {b₀:dw} {suite:List dw} {rest:List mV} {t:TS} {th:THL} (i:Nat) (hg:Gl X x) (hm:X.mg x=some (.ref Ci)) (hN:X.N.Nodup) (hi:X.N[i]?=some n) (hk:X.env.scope.names.lookup n=some .local)
  (hsu:∀ ea,PSs (X.hdl ea) (b₀ :: suite) t) (hr:FK X rest th) (hd:(x == ("__debug__":Str))=false:=by decide) (hst:X.stack=X.env :: X.outer:=by rfl) (hfr:X.env.frame=some X.env.locals:=by rfl):FK X (.ExceptHandler (some (.Name x np)) (some n) (b₀ :: suite) pos :: rest) (thAsL X.K Ci i t th):=by
 intro pins s σ H D ea C m B I fl0 cov h;obtain ⟨d,fl,dne,dB,dfr,ld⟩:=id fl0;refine wpAny_handleBy_cons (codeAny_handlers_test ?_) (by intro q; cases q);refine oW (X:=X.hdl ea) (I.hdl ea) hg hm ?_ hd;obtain ⟨ob,hob,hc⟩:=fl.there;have LT:vL (aM X.prog X.w) s.heap (Iw (.ref ea)) (.ref C):=by
  rw [<- hc];exact (PySem.W.Looks.ld hob).andThen .now
 rcases h with ⟨hx,q⟩ | ⟨hx,q⟩
 ·refine (Cu I.kIn LT hx).here ?_;refine codeAny_handlers_suite_as (sf fl fun h6 fl6 sm6=>?_);have I6:=I.landed fl6.1 cov sm6;obtain ⟨hz,hzd,J⟩:=I6.adoptL hst hfr fl6 dne dB dfr (ld.sl sm6) (vI.land I fl6.1 cov);refine oB (X:=X.hdl ea) (v:=.ref ea) (J.hdl ea) hN hi (.inl hk) rfl (fun s2 I2=>?_) (.inr hk);refine cg (hsu ea pins _ _ _ (DC i D) I2 (q ea d hz hzd dne)) (fun f s3 z=>?_) (fun _ _ z=>cL z);show aY _ X.A (do bindName X.env n .none; sS X.env n pos) (fun _ s₃=>SP X pins D f s₃) X.xe s3
  cases f with
  | next=>obtain ⟨σ',H',I3,q3⟩:=z; exact uf (I3.unhdl I.ok) hN hi hk fun s4 I4=>⟨_,_,I4,q3⟩
  | brk=>obtain ⟨σ',H',I3,q3⟩:=z; exact uf (I3.unhdl I.ok) hN hi hk fun s4 I4=>⟨_,_,I4,q3⟩
  | cont=>obtain ⟨σ',H',I3,q3⟩:=z; exact uf (I3.unhdl I.ok) hN hi hk fun s4 I4=>⟨_,_,I4,q3⟩
  | ret u=>obtain ⟨v,σ',H',I3,r3,q3⟩:=z; exact uf (I3.unhdl I.ok) hN hi hk fun s4 I4=>⟨v,_,_,I4,r3,q3⟩
 ·refine (Cu I.kIn LT hx).here ?_;exact hr pins s σ H D ea C m B I fl0 cov q
def tTryL (T:aj->Nat->St->Hp->Prop) (tb:TS) (th:THL):TS:=fun D σ H=>tb D σ H/\∀ C n σ' H',σ'.length=σ.length->T C n σ' H'->th C n D σ' H'
theorem Ea {body:List dw} {h₀:mV} {hs:List mV} {pos:Pos} {tb:TS} {th:THL} (T:aj->Nat->St->Hp->Prop) (hb:∀ pins,PSsC (X.trL pins T) body tb) (hh:FK X (h₀ :: hs) th)
  (hst:X.stack=X.env :: X.outer:=by rfl) (hfr:X.env.frame=some X.env.locals:=by rfl):PSC X (.Try body (h₀ :: hs) [] [] pos) (tTryL T tb th):=by
 intro pins s σ H D I h;obtain ⟨h1,h2⟩:=h;refine tryC (oJ (hb pins [] s σ H D (I.trL T) h1) (fun f s1 q=>?_) (fun e s1 q=>?_))
 ·cases f with
  | next=>obtain ⟨σ',H',J,q⟩:=q; exact fK ⟨σ',H',J.untrL,q⟩
  | ret v=>obtain ⟨v,σ',H',J,r,q⟩:=q; exact ⟨v,σ',H',J.untrL,r,q⟩
  | brk=>obtain ⟨σ',H',J,q⟩:=q; exact ⟨σ',H',J.untrL,q⟩
  | cont=>obtain ⟨σ',H',J,q⟩:=q; exact ⟨σ',H',J.untrL,q⟩
 ·obtain ⟨ea,C,n,B,σ',H',rfl,J,⟨d,fl,dne,dB,dfr,ld⟩,cov,t⟩:=q;have fl1:FlE (some d) B (X.env :: X.outer) ea (.ref C) .none s1.heap:=by
   rw [<- hst];exact fl
  refine A2 (by rw [J.ok.frames,hst]) hfr fl1 fun h4 x4 s4=>?_;refine sf x4 fun h5 fl5 s5=>?_;have J5:=J.landed fl5.1 cov (s4.trans s5);rw [<- hst] at fl5;exact hh pins _ σ' H' D ea C n B J5 ⟨d,fl5,dne,dB,dfr,(ld.sl s4).sl s5⟩ (vI.land J fl5.1 cov) (h2 C n σ' H' (by rw [J.len,I.len]) t)
def tryEL (T:aj->Nat->St->Hp->Prop):St->XK:=fun σ c d H=>∃ C n,c=.ref C/\d=some n/\T C n σ H
theorem yS:AR (CXl X.prog X.w) (X.trL pins T) (tryEL T):=fun pins' σ H s e s' I h=>by
 obtain ⟨ea,C,n,H',B,rfl,⟨C',n',hC,hn,q⟩,os,bare,un,hok,fl,cov⟩:=h
 cases hC
 cases hn;have J:Inv (X.trL pins T) pins' σ H' s':=I.call' (ch:=[]) os un hok bare (fun b z=>absurd z (by simp));refine ⟨ea,C,n,B,σ,H',rfl,J.untrL,fl,fun b o c n e=>cov b o ?_ n e,q⟩
 rcases c with c | ⟨c1,o',c2⟩ | ⟨p,hp,rfl⟩
 ·exact .inl c
 ·exact .inr (I.base.there b o' c2 c1)
 ·exact .inr ⟨_,(I.pin p (dj _ hp)).1⟩
variable {CX:CXT} {k:Nat} {f:aj} {fd:cf} {ps:List Str} {sp:Sp} {E:St->XK} {x:Str} {p pos:Pos} {e:cA} {es:List cA} {t:TA}
theorem BY (F:dU X.prog X.w X.K X.mg X.base CX k f fd ps sp) (hr:dE k X.A) (hg:Gl X x) (hm:X.mg x=some (.ref f)) (hk:dZ X.K (.ref f)=true) (hb:Binds X.K fd ps []) (hx:AR CX X E) (ha:PA X (e :: es) t)
  (hdb:(x == ("__debug__":Str))=false:=by decide) (he:bM (e :: es) X.env=(false,d6 e X.env) :: bM es X.env:=by rfl) (hpl:(fg pos (bM es X.env)).any (·.1)=false:=by rfl) :
  PEC X (.Call (.Name x p) (e :: es) [] pos) (IE sp E t):=by
 intro pins s σ H Q I h;rw [tX];refine cJ (oW I hg hm ?_ hdb);have h1:=ha pos pins s σ H _ I h;show wpC _ _ (kg pos (.ref f) [] (fg pos (bM (e :: es) X.env)) []) _ _ s;rw [he] at h1 |-;refine wu (K:=X.K) ?_ hk (k7 (cg h1 (fun us s1 z=>?_) fun _ _ y=>y))
 ·show (false || (fg pos (bM es X.env)).any (·.1))=false;rw [hpl];rfl
 ·obtain ⟨vs,H1,I1,r,q⟩:=z;refine ⟨I1.kIn,?_⟩;have hl:(us++[]).length=ps.length:=by rw [bW,<- r.length]; exact F.len _ _ _ _ q
  have hb1:=hb s1 us I1.kIn hl;rw [bW] at hb1;refine xB (jF (F.run X.A X.stack s1 H1 ⟨us,[]⟩ us vs Q (E σ) hr I1.env0 hb1 r q) fun r s' hq=>?_)
  cases r with
  | error e=>exact hx pins σ H1 s1 e s' I1 hq
  | ok fl =>
   cases fl with
   | ret u=>exact I1.after hq
   | next=>exact cL hq
   | brk=>exact cL hq
   | cont=>exact cL hq
end
theorem Fun.okLC {P:aS} {w:bN} {K:ai} {mg:Str->Option ag} {base:cI} {k:Nat} {f:aj} {x qual:Str} {st:dw} {fd:cf} {N ps:List Str} {sp:Sp} (F:Fun K x qual st f fd) (S:cH N ps (bf st)) (len:∀ vs H Q E,sp vs H Q E->vs.length=ps.length)
  (hbody:∀ (cdv:ag) (A:bJ) (outer:List Env) (s:ah) (H:Hp) (vs:List V) (Q:VK) (E:XK),dE k (A.deeper (qi qual (bf st) s.heap.objs.size f cdv))->sp vs H Q E ->
   ∃ t,PSsC (tR (CXl P w) P w K mg base N qual (bf st) f cdv A outer s H E) (jz st) t/\t {nx:=fun _ H'=>Q .non H',rt:=Q} (start N vs) H):dU P w K mg base (CXl P w) (k + 1) f fd ps sp:=by
 obtain ⟨oc,od,kV,doc,pm,an,cdv,ct,osl,rfl,lk,hcd⟩:=F.ex;exact Du lk hcd S len fun A outer s H vs Q E hr hsp=>hbody cdv A outer s H vs Q E hr hsp
section
variable {prog:aS} {w:bN} {A:bJ} {E:ag->ah->Prop} {s:ah} {K:ai} {x C:aj} {ox:Obj} {od:Option Obj}
theorem uW {nameV:ag} {Q:Unit->ah->Prop} (X:K.In s.heap) (I:eF s.heap x ox C od) (c:tY K C) (h:Q () s):aY (aM prog w) A (jQ "BaseException.__getattribute__" ⟨[.ref x,nameV],[]⟩) Q E s:=by
 obtain ⟨hh,g,d,t,os⟩:=s;have hk:builtinKind "BaseException.__getattribute__"=some .slot:=by decide +kernel
 have hsplit:splitId "BaseException.__getattribute__"=some ("BaseException","__getattribute__"):=by decide +kernel
 have ha:=F.args_bexc_ga (.ref x) nameV;have L0:=I.type (M:=aM prog w);have L1:=qP (M:=aM prog w) X c.be;simp only [jQ,hk,hsplit];refine af ?_;unfold Ag;refine af (L0.at (L1.at ?_))
 repeat (first | assumption | wp_step)
theorem Ak {Q:Option ag->ah->Prop} (X:K.In s.heap) (I:eF s.heap x ox C od) (c:tY K C) (h:Q (some (.ref C)) {s with toks:=s.toks + 1}):aY (aM prog w) A (Fx (.ref x) "__class__") Q E s:=by
 have L0:=I.type (M:=aM prog w);have L1:=eQ (M:=aM prog w) X c.ga;have L2':=eQ (M:=aM prog w) X c.gh;have hf:px K C od "__class__"=some (.bind (.builtin "getset_descriptor.__get__") (.builtin "object.__class__")):=by
  obtain ⟨cd,hc⟩:=c.cs;unfold px;rw [hc,oV,c.cl,oV];simp [c.cn,c.ck]
 have L3:=rq (M:=aM prog w) X I hf;obtain ⟨hh,g,d,t,os⟩:=s;unfold Fx getAttrBy? getAttrBy;refine af (Dy (af (qp (bK (af (L0.at (af (L1.at ?_))))))));dsimp only;rw [if_neg (show ¬ ((mr (Value.ref C) && Value.builtin "BaseException.__getattribute__" == Value.builtin "object.__getattribute__")=true) by rw [show (Value.builtin "BaseException.__getattribute__" == Value.builtin "object.__getattribute__")=false by decide +kernel,jo]; decide)];unfold yM IQ;rw [if_pos (show mr (Value.ref C)=true from rfl)];refine af (L2'.at (af (qp (bK ?_))));unfold xG Ah;rw [if_neg (show ¬ ((false && mr (Value.builtin "BaseException.__getattribute__"))=true) by decide),gY.ga.bind];refine af (av (kq (nk gY.ga.plain xH (uW (s:=⟨hh,g,d,t + 1,os⟩) X I c ?_))));have fin:∀ (A':bJ) (R:ma->ah->Prop),R (.ok (.ret (.ref C))) ⟨hh,g,d,t + 1,os⟩->pQ (aM prog w) A' (.call (.builtin "getset_descriptor.__get__") ⟨[.builtin "object.__class__",.ref x,.ref C],[]⟩) R ⟨hh,g,d,t + 1,os⟩:=fun A' R q=>A0 (s:=⟨hh,g,d,t + 1,os⟩) X I c.ob q;unfold km.«object.__getattribute__» slotArgs;refine af (av ?_);refine af (av ?_);refine af (L0.at (af (L3.at ?_)));unfold qQ;refine af (bK (kq (fin _ _ ?_)));refine av ?_;exact r9 rfl (av h)
theorem wA (c:tY K C):Fy K (.ref x) (.ref C) (fun h=>eF h x ox C od) where
 ty:=fun _ _ _ I=>I.type
 it:=fun _ _ X _=>by
  obtain ⟨cd,hc⟩:=c.cs;unfold iA at hc
  split at hc
  ·rename_i c' d' cd' sl' ho
   intro A' Q' E' s' k q;unfold isType loadHead;exact af (sN (k _ _ (X _ _ ho)) (av q))
  ·cases hc
 ne:=(Dz (x:=x) (ox:=ox) c).ne
 ca:=fun X I k=>Ak X I c k
theorem Eb {v:ag} {o:Obj} {expr:Bool} {Q:ag->ah->Prop} (X:K.In s.heap) (I:eF s.heap x ox C (some o)) (c:tY K C) (hh:jV K C=true) (hn:bV K (.ref C) "line"=some none) (hl:jU "line" o=some (some v))
  (hv:sL v=true) (h:Q v {s with toks:=s.toks + 1}):aY (aM prog w) A (CL (.ref x) "line" expr) Q E s:=by
 have L0:=I.type (M:=aM prog w);have L1:=eQ (M:=aM prog w) X c.ga;have L2':=eQ (M:=aM prog w) X c.gh;have L3:=rq (M:=aM prog w) X I (zv hh hn rfl hl);obtain ⟨hh,g,d,t,os⟩:=s;unfold CL getAttrBy;refine af (Dy (bK (af (L0.at (af (L1.at ?_))))));dsimp only;rw [if_neg (show ¬ ((mr (Value.ref C) && Value.builtin "BaseException.__getattribute__" == Value.builtin "object.__getattribute__")=true) by rw [show (Value.builtin "BaseException.__getattribute__" == Value.builtin "object.__getattribute__")=false by decide +kernel,jo]; decide)];unfold yM IQ;rw [if_pos (show mr (Value.ref C)=true from rfl)];refine af (L2'.at (af (qp (bK ?_))));unfold xG Ah;rw [if_neg (show ¬ ((expr && mr (Value.builtin "BaseException.__getattribute__"))=true) by cases expr <;> decide),gY.ga.bind];refine af (av (kq (nk gY.ga.plain xH (uW (s:=⟨hh,g,d,t + 1,os⟩) X I c ?_))));unfold km.«object.__getattribute__» slotArgs;refine af (av ?_);refine af (av ?_);refine af (L0.at (af (L3.at ?_)));refine av ?_;exact r9 hv h
end
section
variable {X:Cx} {pins:List (aj×Obj)} {σ:St} {H:Hp} {s:ah}
theorem xK {a C d:aj} {n:Nat} (ok:HOk X.prog X.w H s.heap) (e:H a=some (XE a C d)) (el:H d=some (LD d n)):∃ ox od u,eF s.heap a ox C (some od)/\RelV (.int n) u/\jU "line" od=some (some u):=by
 obtain ⟨ox,e1,c1,d1,n1⟩:=(ok a _ e).1;obtain ⟨u,ru,ns⟩:=(ok d _ el).1;obtain ⟨od,ho,hl⟩:=vU ns;refine ⟨ox,od,u,⟨e1,c1,n1,by rw [d1]; exact ho⟩,ru,?_⟩;rw [hl];rfl
theorem si:l8 X (.builtin "isinstance") (fun xs H Q=>∃ a C d n cv c b,xs=[.ref a,cv]/\RelV cv c/\(∀ u,RelV cv u->u=c)/\H a=some (XE a C d)/\H d=some (LD d n)/\tY X.K C/\mB X.K (.ref C) c=some b/\Q (.bl b) H):=by
 intro pins s σ H xs us Q I r h;obtain ⟨a,C,d,n,cv,c,b,rfl,_,hu,e,el,cl,k,q⟩:=h;obtain ⟨u,w',rfl,rx,rt⟩:=vals2 r
 cases (show u=Value.ref a from rx)
 cases hu _ rt;obtain ⟨ox,od,_,J,_⟩:=xK I.hok e el;exact PySem.W.kia_one (wA cl) I.kIn J k (fun z=>nomatch z) fun tk=>⟨.bl b,H,I.tok _,rfl,q⟩
theorem vM:l8 X (.builtin "isinstance") (fun xs H Q=>∃ a C d n tp,∃ as:List aj,∃ b,xs=[.ref a,.ref tp]/\H tp=some (.tup (as.map V.ref))/\H a=some (XE a C d)/\H d=some (LD d n)/\tY X.K C/\uX X.K (.ref C) (as.map Value.ref)=some b/\Q (.bl b) H):=by
 intro pins s σ H xs us Q I r h;obtain ⟨a,C,d,n,tp,as,b,rfl,et,e,el,cl,k,q⟩:=h;obtain ⟨u,w',rfl,rx,rt⟩:=vals2 r
 cases (show u=Value.ref a from rx)
 cases (show w'=Value.ref tp from rt);obtain ⟨ox,od,_,J,_⟩:=xK I.hok e el;obtain ⟨hlen,its,rv,ob,ho,hc,m,hd⟩:=I.hok tp _ et;have hi:its=as.map Value.ref:=by
  clear k et ho hd q hlen
  induction as generalizing its with
  | nil=>cases rv; rfl
  | cons a as ih =>
   cases rv with
   | cons h t=>rw [bu,<- ih (rv:=t)]; cases (show _=Value.ref a from h); rfl
 obtain ⟨oc,odd,odt,osl⟩:=ob;dsimp only at hc hd;subst hc hd;exact PySem.W.kia_tup (wA cl) I.kIn J ho (by rw [hi]; exact k) (fun z=>nomatch z) fun tk=>⟨.bl b,H,I.tok _,rfl,q⟩
def tLine (C:aj) (ta:TE):TE:=fun σ H Q=>ta σ H fun x H1=>∃ a d n,x=.ref a/\H1 a=some (XE a C d)/\H1 d=some (LD d n)/\Q (.int (n:Nat)) H1
theorem FM {e:cA} {ta:TE} {pos:Pos} {C D f:aj} (c:vK X.K C D f) (he:PE X e ta) (hb:jm e "line" X.env (d6 e X.env)=d6 e X.env):PE X (.Attribute e "line" pos) (tLine C ta):=by
 intro pins s σ H Q I h;refine AL hb (thn (he pins s σ H _ I h) fun u s1 ⟨x,H1,I1,rx,a,d,n,ex,ea,ed,q⟩=>?_);subst ex;obtain rfl:u=Value.ref a:=rx;obtain ⟨ox,od,u,J,ru,hl⟩:=xK I1.hok ea ed;obtain ⟨cd,hcd,_,hhd⟩:=c.cd;exact Eb I1.kIn J c.x (by unfold jV; rw [hcd]; exact hhd) c.nl hl (vV ru) ⟨.int n,H1,I1.tok _,ru,q⟩
end
theorem tJ.own {X:Cx} {E:XK} (hb:tJ X E):wZ (aM X.prog X.w) X.A X.env X.xe:=by
 rw [hb.xe];exact PassesOwn.leaving
def PAC (X:Cx) (es:List cA) (t:TA):Prop:=
 ∀ (pos:Pos) (pins:List (aj×Obj)) (s:ah) (σ:St) (H:Hp) (Q:List V->Hp->Prop),Inv X pins σ H s->t σ H Q->wpC (aM X.prog X.w) X.A (zu (fg pos (bM es X.env))) (AP X pins σ Q) X.xe s
section
variable {X:Cx} {a b e cc:cA} {rest es:List cA} {pos:Pos} {tA tB':TT} {te:TE} {t:TA} {ts us:TS}
theorem PA.c (h:PA X es t):PAC X es t:=fun pos pins s σ H Q I q=>toC (h pos pins s σ H Q I q)
theorem iu (ha:PEC X e te) (hr:PAC X es t) (hs:bM (e :: es) X.env=(false,d6 e X.env) :: bM es X.env:=by rfl):PAC X (e :: es) (gX te t):=by
 intro pos pins s σ H Q I h;rw [hs];show wpC _ _ (zu ((false,d6 e X.env) :: fg pos (bM es X.env))) _ _ s;rw [zu];refine e8 (pJ (ha pins s σ H _ I h) fun u s1 ⟨x,H1,I1,r1,q1⟩=>?_);simp only [jR,if_false];exact cJ (av (e8 (oK (pJ (hr pos pins s1 σ H1 _ I1 q1) fun us s2 ⟨xs,H2,I2,r2,q2⟩=>toC (av ⟨x :: xs,H2,I2,.cons r1 r2,q2⟩)))))
theorem uj {x1} (h:PAC X es t):PEC X (.Tuple es x1 pos) (tTup t):=by
 intro pins s σ H Q I hq;rw [arm_eval_Tuple];refine cJ (bU (e8 (pJ (h pos pins s σ H _ I hq) fun us s1 ⟨xs,H1,I1,r,z,q⟩=>toC (wpAny_newTuple ?_ (by rw [<- r.length]; exact z)))));have hf:H1 s1.heap.objs.size=none:=I1.hok.fresh (aF _);refine ⟨.ref s1.heap.objs.size,upd H1 s1.heap.objs.size (.tup xs),I1.laid (t':=s1.toks) (fun b u e=>ay _ e) (aF _) ?_,rfl,q _ hf⟩;exact ⟨z,us,r,⟨_,bH _ rfl,rfl,_,rfl⟩⟩
end
section
variable {prog:aS} {w:bN} {A:bJ} {R:ma->ah->Prop} {s:ah} {elt target iter:cA} {ifs:List cA} {scope:kB} {pos:Pos} {it acc:ag} {env:Env}
theorem BZ (J:Nat->ah->Prop)
  (turn:∀ n s,J n s->aY (aM prog w) A (CF it) (fun r s1=>match r with
   | none=>R (.ok .next) s1
   | some v=>aY (aM prog w) A (i6 target it v) (fun _ s2=>aY (aM prog w) A (nV target env v) (fun _ s3 =>
     aY (aM prog w) A (forIn ifs true fun c r=>if r=true then do let ok <- wY c env (d6 c env); pure (ForInStep.yield ok) else pure (ForInStep.yield r)) (fun ok s4 =>
      if ok=true then wpC (aM prog w) A (d6 elt env) (fun x s5=>aY (aM prog w) A (rO (.builtin "list.append") [acc,x]) (fun _ s6=>∃ m,m < n/\J m s6) (fun _ _=>False) s5) (fun _ _=>False) s4
      else ∃ m,m < n/\J m s4) (fun _ _=>False) s3) (fun _ _=>False) s2) (fun _ _=>False) s1) (fun _ _=>False) s)
  (n:Nat) (h:J n s):gc (aM prog w) A (.compLoop (.ListComp elt [⟨target,iter,ifs,0⟩] scope pos) 0 it acc env) R s:=by
 refine Ds rfl J (fun n s hI=>?_) n h;show wpC _ A ((compTurn (.ListComp elt [⟨target,iter,ifs,0⟩] scope pos) 0 it acc env).onRaise (fun x=>do jq x env; oa x)) _ _ s;refine z6 ?_;rw [compTurn_list];refine cJ (bU (cJ (cg (turn n s hI) (fun r s1 h1=>?_) fun _ _ z=>z.elim)))
 cases r with
 | none=>exact toC (av h1)
 | some v =>
  refine cJ (cg h1 (fun _ s2 h2=>?_) fun _ _ z=>z.elim);refine cJ (cg h2 (fun _ s3 h3=>?_) fun _ _ z=>z.elim);refine cJ (cg h3 (fun ok s4 h4=>?_) fun _ _ z=>z.elim)
  cases ok with
  | false=>exact toC (av (.inl ⟨rfl,h4⟩))
  | true =>
   refine e8 (e8 (oJ h4 (fun x s5 h5=>?_) fun _ _ z=>z.elim));exact toC (af (cg h5 (fun _ s6 h6=>av (toC (av (.inl ⟨rfl,h6⟩)))) fun _ _ z=>z.elim))
theorem Al {rest:List B0} (h0:gc (aM prog w) A (.compLoop (.ListComp elt (⟨target,iter,ifs,0⟩ :: rest) scope pos) 0 it acc env) R s)
  (h:aY (aM prog w) A (Ic it) (fun i2 z=>gc (aM prog w) A (.compLoop (.ListComp elt (⟨target,iter,ifs,0⟩ :: rest) scope pos) 0 i2 acc env) R z) (pV (aM prog w) A env fun x z=>R (.error x) z) s) :
  gc (aM prog w) A (.compStart (.ListComp elt (⟨target,iter,ifs,0⟩ :: rest) scope pos) 0 it acc env) R s:=by
 refine uS (toC ?_);show aY _ _ (Sem.onRaise (compStart (.ListComp elt (⟨target,iter,ifs,0⟩ :: rest) scope pos) 0 it acc env) fun x=>do jq x env; sZ theWindowsPlace) _ _ s;apply wpAny_notedAt;unfold compStart;show aY _ _ (ask >>= _) _ _ s;apply af;apply wpAny_askSetting;apply wpAny_ite;have k0:(Code.compLoop (.ListComp elt (⟨target,iter,ifs,0⟩ :: rest) scope pos) 0 it acc env).quiet=true:=rfl
 split
 ·first
   | exact av ⟨k0,h0⟩
   | exact af (av (av ⟨k0,h0⟩))
 ·have go:=cg h (fun i2 z y=>av (M:=aM prog w) (A:=A) (a:=Fin.again (Code.compLoop (.ListComp elt (⟨target,iter,ifs,0⟩ :: rest) scope pos) 0 i2 acc env)) (Q:=fun fin z=>match fin with | .done f=>R (.ok f) z | .again d=>d.quiet=true/\gc (aM prog w) A d R z) (E:=pV (aM prog w) A env fun x z=>R (.error x) z) (s:=z) ⟨rfl,y⟩) fun _ _ y=>y;apply af;apply Ac;apply af;apply bU;exact af go
end
section
variable {M:lU} {A:bJ} {E:ag->ah->Prop} {s:ah} {env:Env}
theorem yT {α:Type} {c:Prop} [Decidable c] {pos:Pos} {k:PUnit->Sem α} {Q:α->ah->Prop} (h:wpC M A (k ()) Q E s):wpC M A (if c then (sZ pos >>= k) else k ()) Q E s:=by
 by_cases z:c
 ·rw [if_pos z];exact cJ (bU h)
 ·rw [if_neg z];exact h
theorem B1 {e:cA} {scope:kB} {pos:Pos} {newAcc first:Sem ag} {g:B0} {gs:List B0} {cl:List (Str×aj)} {use:Option (ag->Sem Unit)} {Q:ag->ah->Prop} (hcl:clausesOf e=g :: gs) (hs:∀ x,gv g.iter env x=pure x) (hclos:uM scope env=pure cl)
  (hkind:scope.kind=.function) (hnames:∀ x∈scope.names,x.2=.local->scope.names.lookup x.1=some .local)
  (h:aY M A first (fun x z1=>aY M A (Ic x) (fun it z2=>aY M A newAcc (fun acc z3=>aY M A (newFunctionEnv scope env.globals cl [] env.qual none .none (some env)) (fun cenv z4 =>
    gc M A (.compStart e 0 it acc {cenv with scope:=zA scope env}) (zW M A E use Q acc cenv.locals) z4) E z3) E z2) E z1) E s):wpC M A (mU e scope env pos newAcc false first use) Q E s:=by
 unfold mU;rw [hclos,hcl];refine cJ (cg h (fun x z1 h1=>cJ (bU (cJ (eP (hs x) ?_)))) fun _ _ y=>y);refine cJ (bK (cg h1 (fun it z2 h2=>?_) fun _ _ y=>y));refine yT (cJ (cg h2 (fun acc z3 h3=>cJ (av (cJ (cg h3 (fun cenv z4 h4=>?_) fun _ _ y=>y)))) fun _ _ y=>y));dsimp only;have hv:∀ x∈(scope.names.filter fun x=>(x.2 == .local || x.2 == .cell) && x.1 != (".0":Str)).reverse,x.2=.local->Env.kindOf {cenv with scope:=zA scope env} x.1=some .local:=fun x hx hl=>lookup_relabel_local (hnames x (vv.mp (pz.mp hx)).1 hl);refine oK (e8 (yH (oK (runC (jF h4 fun r z hr=>?_)))));have hv2:∀ x∈(scope.names.filter fun x=>(x.2 == .local || x.2 == .cell) && x.1 != (".0":Str)).reverse.drop 1++(scope.names.filter fun x=>(x.2 == .local || x.2 == .cell) && x.1 != (".0":Str)).reverse.take 1,x.2=.local->Env.kindOf {cenv with scope:=zA scope env} x.1=some .local:=fun x hx hl=>(aU.mp hx).elim (fun a=>hv x (lF a) hl) fun a=>hv x (dC a) hl
 cases r with
 | ok f =>
  cases use with
  | none =>
   obtain ⟨m,hn,hr⟩:=hr;exact toC (af (bK (xM (cenv:={cenv with scope:=zA scope env}) hkind _ z m hv hn fun h' m' _ hs'=>av (hr h' hs'))))
  | some u =>
   apply toC;apply af;apply Ac;apply af;refine bK (cg hr (fun _ y z2=>?_) fun _ _ y=>y);obtain ⟨m,hn,k⟩:=z2;apply af;exact xM (cenv:={cenv with scope:=zA scope env}) hkind _ y m hv2 hn fun h' m' _ hs'=>av (k h' hs')
 | error x =>
  have hr2:∃ m,z.heap.Ns cenv.locals m/\∀ h',mQ cenv.locals z.heap h'->∀ c2:Env,c2.locals=cenv.locals->aY M A (passOn "comprehension.variables-let-go" x c2:Sem ag) (fun _ _=>False) E {z with heap:=h'}:=by cases use <;> exact hr
  obtain ⟨m,hn,hr⟩:=hr2;exact toC (af (bK (xM (cenv:={cenv with scope:=zA scope env}) hkind _ z m hv hn fun h' m' _ hs'=>cg (hr h' hs' _ rfl) (fun _ _ f=>f.elim) fun _ _ y=>y)))
end
section
variable {X:Cx}
theorem B2 {elt target iter:cA} {ifs:List cA} {scope:kB} {NN:List Str} {pos pos':Pos} {wi:TI} {g:TG} {tc:TT} {te:TE} {use:Option (ag->Sem Unit)} {Qv:ag->ah->Prop} (own:List Str) (ok:gE X scope NN) (hc:X.calm=true) (hi:PI X target iter wi)
  (hg:∀ fp s₂ H₂ C,PG (cxC X scope (own++NN) fp s₂ H₂ C) target g) (ht:∀ fp s₂ H₂ C,PTs (cxC X scope (own++NN) fp s₂ H₂ C) ifs tc) (he:∀ fp s₂ H₂ C,PEC (cxC X scope (own++NN) fp s₂ H₂ C) elt te)
  (hs:∀ x,gv iter X.env x=pure x) {pins:List (aj×Obj)} {s:ah} {σ:St} {H:Hp} {Q:VK} (I:Inv X pins σ H s) (h:nG own.length wi g tc te σ H Q)
  (hfin:∀ (s4:ah) (C D:aj) (H':Hp) (m:Str->Option ag),s4.heap.Ns C m->Inv X pins σ H' s4->H' C=none->C≠X.env.locals->X.s₀.heap.objs.size<=C->(∀ x c,X.env.cells.lookup x=some c->c≠C)->(∀ p∈X.pn++pins,p.1≠C)->Q (.ref D) H' ->
   zW (aM X.prog X.w) X.A X.xe use Qv (.ref D) C (.ok .next) s4) :
  wpC (aM X.prog X.w) X.A (mU (.ListComp elt [⟨target,iter,ifs,0⟩] scope pos) scope X.env pos' (Js []) false (d6 iter X.env) use) Qv X.xe s:=by
 have hfr:∀ y∈scope.names,y.2=.free->∃ c,X.env.cells.lookup y.1=some c:=fun y hy e=>I.ok.has _ (ok.far y hy e);have okclos:uM scope X.env=pure (ng X.env scope.names []):=by
  unfold uM;rw [<- uJ scope.names [] hfr];simp
 have oksub:∀ n c,(ng X.env scope.names []).lookup n=some c->X.env.cells.lookup n=some c:=fun n c e=>uK (fun n c e=>by simp at e) e;have okfar:∀ n,(scope.names.lookup n=some .cell\/scope.names.lookup n=some .free)->(∃ c,(ng X.env scope.names []).lookup n=some c)/\(X.env.kindOf n=some .cell\/X.env.kindOf n=some .free):=fun n e=>by
  rcases e with e | e
  ·exact absurd rfl (ok.nocell _ (eD e))
  ·have m:=eD e;exact ⟨uL m (hfr _ m rfl),ok.far _ m rfl⟩
 refine B1 (use:=use) rfl hs okclos ok.kind ok.names (thn (hi pins s σ H _ I h) fun xv s1 h1=>thn h1 fun itv s2 h2=>?_);obtain ⟨it,fp,tn,J,H2,e,I2,T,st2,f2,W,⟨m0,w0⟩,turn⟩:=h2;subst e;have fpLt:∀ b∈fp,b < s2.heap.objs.size:=fun b hb=>by
  obtain ⟨o,e,_⟩:=T.obj _ _ st2 b hb;exact bb e
 refine gw (Fi ok.nocell (by intro y hy; simp at hy) (fun h1 hns hsb=>?_) ok.kind);dsimp only at hns hsb |-;generalize hP:s2.heap.push {cls:=.type "list",dict:=none,data:=.seq ([]:List ag).toArray}=P at hns hsb |-;have hC:P.objs.size=s2.heap.objs.size + 1:=by rw [<- hP,jk]
 have hDC:s2.heap.objs.size≠P.objs.size:=by rw [hC]; exact br (ju _)
 have leC:s2.heap.objs.size<=P.objs.size:=by rw [hC]; exact gS _
 have old:∀ b o,s2.heap.get? b=some o->h1.get? b=some o:=fun b o e =>
  hsb.extBut b o (by rw [hC]; exact br (ku (bb e))) (ay _ (hP ▸ ay _ e))
 have accAt:h1.get? s2.heap.objs.size=some {cls:=.type "list",data:=.seq ([]:List ag).toArray 0}:=hsb.extBut _ _ hDC (ay _ (hP ▸ bH _ rfl))
 -- the block's context is well made
 have okC:(cxC X scope (own++NN) fp s2 H2 P.objs.size).Ok:=by
  refine ⟨I.ok.mod,ok.kind,I.ok.glob,I.ok.blt,by show s2.heap.objs.size<=P.objs.size; omega,fun y z c a b=>I.ok.inj y z c (oksub _ _ a) (oksub _ _ b),fun y hy=>(okfar y (rm hy)).1,fun y c z _=>t9 z,I.ok.hd,I.ok.frames,.inl rfl,
   fun b hb=>⟨fun z=>?_,fun y c e=>(f2 b hb).2.2.2.2.1 y c (oksub _ _ e)⟩,I2.bs,bC I.ok.bsz I2.sz,fun b o e hb=>?_,fun b hb z=>?_,I2.stack,I2.stkFree⟩
  ·exact br (bg (fpLt b hb) leC) z
  ·rcases (f2 b hb).2.2.2.1 with q | q
   ·exact I.ok.noex b o e q
   ·exact absurd (bg (bb e) (bC I.ok.bsz q)) (dz _)
  ·rcases au.mp (I2.stkSub b z) with q | q
   ·exact (f2 b hb).2.1 q
   ·exact (f2 b hb).2.2.1 q
 have fpOk:∀ {H':Hp} {o:Obj},(∀ b∈fp,H' b=none)->∀ b∈fp,w5 (cxC X scope (own++NN) fp s2 H2 P.objs.size) [(s2.heap.objs.size,o)] H' b:=fun {H' o} hn b hb=>by
  have lt:=fpLt b hb;refine ⟨hn b hb,fun z=>?_,fun z=>okC.exfs b hb z,.inl hb,fun y c e=>(okC.exf b hb).2 y c e,fun p hp z=>?_⟩
  ·exact br (bg lt leC) z
  ·have hp':p=(s2.heap.objs.size,o):=by simpa using hp
   subst hp';exact br lt (Fj z)
 have cellNe:∀ y c,(ng X.env scope.names []).lookup y=some c->c < s2.heap.objs.size:=fun y c e=>by
  obtain ⟨v,q⟩:=I2.cell y c (oksub _ _ e);exact q.lt
 have start:Inv (cxC X scope (own++NN) fp s2 H2 P.objs.size) [] (aJ own.length none++σ) H2 {s2 with heap:=h1,toks:=s2.toks + ([]:List (Str×ag)).length}:=by
  refine ⟨okC,rfl,I2.bare,Un.kept old,⟨_,hns,fun i y v e1 e2 e3=>?_⟩,fun y c e=>?_,I2.hok.fresh (by show s2.heap.objs.size<=P.objs.size; omega),fun y c e=>I2.freeC y c (oksub _ _ e),fun p hp=>absurd (show p∈([]:List (aj×Obj)) from by simpa using hp) (by simp),I2.hok.kept old,?_⟩
  ·by_cases hi:i < own.length
   ·rw [jv (by simpa using hi),hZ,if_pos hi] at e2
    cases e2
   ·have e1n:NN[i - own.length]?=some y:=by
     have z:(own++NN)[i]?=some y:=e1;rw [dJ (by omega)] at z;exact z
    rw [dJ (by simpa using hi),cW] at e2;obtain ⟨ap1,ap2⟩:=ok.apart _ y e1n
    rcases e3 with e3 | e3
    ·exact absurd (uI e3) ap1
    ·obtain ⟨⟨c,hcl⟩,kc⟩:=okfar y (rm e3);have e1':X.N[i - own.length]?=some y:=by
      rcases ap2 with z | z
      ·exact z
      ·rcases rm e3 with q | q <;> (rw [z] at q; cases q)
     obtain ⟨m,hn,hl⟩:=I2.loc;obtain ⟨u,r,l⟩:=hl (i - own.length) y v e1' e2 (.inr kc);refine ⟨u,r,.inr ⟨e3,c,hcl,?_⟩⟩
     rcases l with ⟨l,_⟩ | ⟨_,c',e',q⟩
     ·rcases kc with kc | kc <;> (rw [l] at kc; cases kc)
     ·rw [oksub _ _ hcl] at e'
      cases e';exact q.keeps old
  ·obtain ⟨v,q⟩:=I2.cell y c (oksub _ _ e);exact ⟨v,q.keeps old⟩
  ·show (aJ own.length none++σ).length=(own++NN).length;rw [ae,ae,cW,I2.len,ok.len]
 have nDC:s2.heap.objs.size≠P.objs.size:=hDC;have nDf:s2.heap.objs.size∉frs X.stack:=fun z=>by
  rcases au.mp (I2.stkSub _ z) with q | q
  ·exact br I2.lt (Fj q)
  ·exact I2.nofs (aF _) q
 have loop:∀ s₃:ah,s₃={s2 with heap:=h1,toks:=s2.toks + ([]:List (Str×ag)).length} ->
   gc (aM X.prog X.w) X.A (.compLoop (.ListComp elt [⟨target,iter,ifs,0⟩] scope pos) 0 (.ref it) (.ref s2.heap.objs.size) (compEnvC scope (ng X.env scope.names []) P.objs.size X.env))
    (zW (aM X.prog X.w) X.A X.xe use Qv (.ref s2.heap.objs.size) P.objs.size) s₃:=by
  rintro s₃ rfl;refine BZ (fun n s'=>∃ (i:Nat) (ys:List V) (H':Hp) (its:List ag) (k:Nat),Inv (cxC X scope (own++NN) fp s2 H2 P.objs.size) [] (aJ own.length none++σ) H' s'/\tn i s'.heap/\(∀ b∈fp,H' b=none)/\H' s2.heap.objs.size=none/\dq ys its /\
   s'.heap.get? s2.heap.objs.size=some {cls:=.type "list",data:=.seq its.toArray k}/\W i n ys H') ?_ m0
   ⟨0,[],H2,[],0,start,T.keep _ _ _ st2 (fun b _ o e=>old b o e),fun b hb=>(f2 b hb).1,I2.hok.fresh (aF _),.nil,accAt,w0⟩
  rintro n s3 ⟨i,ys,H3,its,k,I3,st3,fr3,nD,rv,hD,w3⟩;have Ip:Inv (cxC X scope (own++NN) fp s2 H2 P.objs.size) [(s2.heap.objs.size,{cls:=.type "list",data:=.seq its.toArray k})] (aJ own.length none++σ) H3 s3:=I3.pins_of fun p hp=>by
   have hp':p=(s2.heap.objs.size,{cls:=.type "list",data:=.seq its.toArray k}):=by simpa using hp
   subst hp';exact ⟨hD,nD,nDC,nDf,fun v z=>by cases z⟩
  obtain ⟨hl,hw⟩:=turn i n ys H3 w3
  rcases hw with ⟨stop,fin⟩ | ⟨go,N,hN,step⟩
  ·refine thn (T.done (cxC X scope (own++NN) fp s2 H2 P.objs.size) rfl rfl rfl hc i _ s3 _ H3 _ Ip (fpOk fr3) st3 stop) fun r s4 z=>?_;obtain ⟨hr,I4⟩:=z;subst hr;obtain ⟨m,hn,_⟩:=I4.loc;have hD4:s4.heap.get? s2.heap.objs.size=some {cls:=.type "list",data:=.seq its.toArray k}:=(I4.pin _ (aT _ aw)).1;obtain ⟨h',eh'⟩:∃ h',h'=s4.heap:=⟨_,rfl⟩;have sb':∀ b o,b≠P.objs.size->s4.heap.get? b=some o->h'.get? b=some o:=fun b o hb e=>by rw [eh']; exact e
   have oldNe:∀ b o,s2.heap.get? b=some o->b≠P.objs.size/\b≠s2.heap.objs.size:=fun b o e=>by
    have lt:=bb e;exact ⟨br (bg lt leC),br lt⟩
   have trNe:∀ b u,H3 b=some u->b≠P.objs.size/\b≠s2.heap.objs.size:=fun b u e=>by
    refine ⟨fun z=>?_,fun z=>?_⟩
    ·have q:H3 P.objs.size=none:=I4.free;rw [<- z,e] at q
     cases q
    ·rw [z,nD] at e
     cases e
   have un:Un (frs X.stack) fp H2 (upd H3 s2.heap.objs.size (.lst ys)) s2.heap h':=by
    have B:=I4.base;refine ⟨fun b o e q hb hx=>sb' b o (oldNe b o e).1 (B.keep b o e q hb hx),fun b o e q hb hx=>?_,fun b o e q hx=>?_,fun b o e hx=>?_,fun b xs e=>?_,fun b o u e=>?_,fun b ps e=>?_⟩
    ·obtain ⟨sl,e1⟩:=B.slot b o e q hb hx;exact ⟨sl,sb' _ _ (oldNe b o e).1 e1⟩
    ·rw [aX (oldNe b o e).2];exact B.free b o e q hx
    ·obtain ⟨o',e1⟩:=B.there b o e hx;exact ⟨o',sb' _ _ (oldNe b o e).1 e1⟩
    ·have q:=B.tups b xs e;rw [aX (trNe _ _ q).2];exact q
    ·have q:=B.frzs b o u e;rw [aX (trNe _ _ q).2];exact q
    ·obtain ⟨more,q⟩:=B.tbls b ps e;refine ⟨more,?_⟩;rw [aX (trNe _ _ q).2];exact q
   have hok:HOk X.prog X.w (upd H3 s2.heap.objs.size (.lst ys)) h':=fun b u e=>by
    by_cases hb:b=s2.heap.objs.size
    ·subst hb;rw [ao] at e
     cases e;exact ⟨kn hl,its,k,rv,sb' _ _ nDC hD4⟩
    ·rw [aX hb] at e;refine (I4.hok b u e).stay (fun c v hc q=>sb' c v ?_ q) (fun c q=>?_) fun c xs q=>?_
     ·rcases hc with z | z
      ·rw [z];exact (trNe _ _ e).1
      ·exact (trNe _ _ z).1
     ·rw [aX (trNe _ _ q).2];exact q
     ·rw [aX (trNe _ _ q).2];exact q
   have J:=I2.call' (s':={s4 with heap:=h'}) (ch:=fp) I4.os un hok I4.bare fun b hb=>⟨(f2 b hb).2.2.2.1,(f2 b hb).2.1,(f2 b hb).2.2.2.2.1,(f2 b hb).2.2.2.2.2⟩;subst eh';refine hfin s4 P.objs.size s2.heap.objs.size (upd H3 s2.heap.objs.size (.lst ys)) m hn J ?_ ?_ ?_ (fun y c e=>?_) (fun q hq=>?_) (fin _ nD)
   ·rw [aX nDC.symm];exact I4.free
   ·exact mX (bg I2.lt leC)
   ·exact bC I2.sz leC
   ·obtain ⟨v,z⟩:=I2.cell y c e;exact br (bg z.lt leC)
   ·exact br (bg (bb (I2.pin q hq).1) leC)
  ·refine thn (T.item (cxC X scope (own++NN) fp s2 H2 P.objs.size) rfl rfl rfl hc i _ s3 _ H3 _ Ip (fpOk fr3) st3 go) fun r s4 z=>?_;obtain ⟨u,hr,h4⟩:=z;subst hr;refine thn h4 fun _ s5 z=>?_;obtain ⟨x,H5,I5,r5,y5,st5,fr5⟩:=z;have I5':=I5.pinned (fpOk fr5) (T.obj _ _ st5);refine thn (hg fp s2 H2 P.objs.size _ s5 _ H5 x u _ I5' r5 (step x H5 y5)) fun _ s6 z=>?_;obtain ⟨σ6,H6,I6,hσ,q6⟩:=z;refine thn (ht fp s2 H2 P.objs.size _ s6 σ6 H6 _ I6 q6) fun okb s7 z=>?_;obtain ⟨H7,I7,q7⟩:=z;have pinD:∀ {H8:Hp} {s8:ah},Inv (cxC X scope (own++NN) fp s2 H2 P.objs.size) ([(s2.heap.objs.size,{cls:=.type "list",data:=.seq its.toArray k})]++o6 fp s5.heap) σ6 H8 s8 ->
     s8.heap.get? s2.heap.objs.size=some {cls:=.type "list",data:=.seq its.toArray k}/\H8 s2.heap.objs.size=none:=fun I8=>by
    have z:=I8.pin (s2.heap.objs.size,{cls:=.type "list",data:=.seq its.toArray k}) (aT _ (dj _ aw));exact ⟨z.1,z.2.1⟩
   have pinF:∀ {H8:Hp} {s8:ah},Inv (cxC X scope (own++NN) fp s2 H2 P.objs.size) ([(s2.heap.objs.size,{cls:=.type "list",data:=.seq its.toArray k})]++o6 fp s5.heap) σ6 H8 s8 ->
     tn (i + 1) s8.heap/\∀ b∈fp,H8 b=none:=fun {H8 s8} I8=>by
    refine ⟨T.keep _ _ _ st5 fun b hb o e=>(I8.pin (b,o) (aT _ (aT _ (iQ hb e)))).1,fun b hb=>?_⟩;obtain ⟨o,e,_⟩:=T.obj _ _ st5 b hb;exact (I8.pin (b,o) (aT _ (aT _ (iQ hb e)))).2.1
   have len6:(aJ own.length none++σ).length=σ6.length:=by rw [I6.len,start.len]
   cases okb with
   | false =>
    have q7':N ys H7:=q7;obtain ⟨m',lt,w'⟩:=hN _ _ q7';obtain ⟨d1,d2⟩:=pinD I7;obtain ⟨p1,p2⟩:=pinF I7;have J7:Inv (cxC X scope (own++NN) fp s2 H2 P.objs.size) [] σ6 H7 s7:=I7.pins_of (fun p hp=>absurd hp (by simp));exact ⟨m',lt,i + 1,ys,H7,its,k,J7.weak len6 (rV hσ),p1,p2,d2,rv,d1,w'⟩
   | true =>
    refine pJ (he fp s2 H2 P.objs.size _ s7 σ6 H7 _ I7 q7) fun v8 s8 z=>?_;obtain ⟨y,H8,I8,r8,n8⟩:=z;obtain ⟨m',lt,w'⟩:=hN _ _ n8;obtain ⟨d1,d2⟩:=pinD I8;obtain ⟨p1,p2⟩:=pinF I8;refine append_at (hsz:=by rw [aA,<- rv.length]; exact kn hl) d1 fun h9 sb hD9=>?_;have J8:Inv (cxC X scope (own++NN) fp s2 H2 P.objs.size) [] σ6 H8 s8:=I8.pins_of (fun p hp=>absurd hp (by simp));have J9:Inv (cxC X scope (own++NN) fp s2 H2 P.objs.size) [] σ6 H8 {s8 with heap:=h9}:=J8.turned (t':=s8.toks) (it:=s2.heap.objs.size) (fun b o hb e=>sb.extBut b o hb e) d2 nDC (.inr (aF _)) (fun y c e=>br (cellNe y c e)) (fun p hp=>absurd hp (by simp));refine ⟨m',lt,i + 1,ys++[y],H8,its++[v8],k + 1,J9.weak len6 (rV hσ),T.keep _ _ _ p1 (fun b hb o e=>sb.extBut b o (br (fpLt b hb)) e),p2,d2,rv.append (.cons r8 .nil),?_,w'⟩;show h9.get? _=_;rw [hD9,Dg]
 exact Al (loop _ rfl) (T.self X.A 0 _ _ _ (T.keep _ _ _ st2 (fun b _ o e=>old b o e)) (loop _ rfl))
theorem Ec {elt target iter:cA} {ifs:List cA} {scope:kB} {NN:List Str} {pos pos' spos:Pos} {wi:TI} {g:TG} {tc:TT} {te:TE} {i:Nat} {x:Str} (own:List Str) (ok:gE X scope NN) (hc:X.calm=true) (hN:X.N.Nodup) (hx0:X.N[i]?=some x) (hx:Loc X.env.scope x) (hi:PI X target iter wi)
  (hg:∀ fp s₂ H₂ C,PG (cxC X scope (own++NN) fp s₂ H₂ C) target g) (ht:∀ fp s₂ H₂ C,PTs (cxC X scope (own++NN) fp s₂ H₂ C) ifs tc) (he:∀ fp s₂ H₂ C,PEC (cxC X scope (own++NN) fp s₂ H₂ C) elt te)
  (hs:∀ x,gv iter X.env x=pure x:=by intro _; rfl) (hf:X.fn x=true\/X.env.scope.names.lookup x=some .local:=by first | exact .inl rfl | exact .inr rfl | assumption)
  (hsw:lZ (.ListComp elt [⟨target,iter,ifs,0⟩] scope pos) (some (.Name x pos')) spos.line X.env=pure true:=by rfl):PSC X (.Assign [.Name x pos'] (.ListComp elt [⟨target,iter,ifs,0⟩] scope pos) spos) (yo (nG own.length wi g tc te) (rN i)):=by
 intro pins s σ H D I h;rw [EN _ _ _ _ hsw];refine cJ (bU (e8 ?_));show wpC _ X.A (do let _ <- mU (.ListComp elt [⟨target,iter,ifs,0⟩] scope pos) scope X.env _ (Js []) false (d6 iter X.env) (some (nV (.Name x pos') X.env))) _ _ s;refine e8 (oJ (B2 (use:=some (nV (.Name x pos') X.env)) (Qv:=fun _ s'=>SP X pins D .next s') own ok hc hi hg ht he hs I h fun s4 C DD H' m hn J n1 n2 n3 n4 n5 q=>?_) (fun _ s' hq=>toC (av (toC (av hq)))) fun _ _ e=>e);show aY _ X.A (nV (.Name x pos') X.env (.ref DD)) _ _ s4;refine vB (sJ J hN hx0 hx (show RelV (.ref DD) (.ref DD) from rfl) (fun s' J' z=>?_) hf);obtain ⟨a,sb,ha⟩:=z;have na:C≠a:=by
  rcases ha with ha | ha
  ·rw [ha];exact n2
  ·exact (n4 x a ha).symm
 refine ⟨m,hn.at' fun o e=>sb.extBut C o na e,fun h' sb2=>⟨_,H',J'.turned (t':=s'.toks) (it:=C) (fun b o hb e=>sb2.extBut b o hb e) n1 n2 (.inr n3) n4 n5,q⟩⟩
end
section
variable {prog:aS} {w:bN} {A:bJ} {E:ag->ah->Prop} {s:ah}
theorem B4 (ys:Array ag) {j:Nat} (n:Nat) (l:j < ys.size):(ys.toList.drop j).take (n + 1)=ys[j] :: (ys.toList.drop (j + 1)).take n:=by
 rw [oA (by simpa using l),mC];simp
theorem uY {u l:aj} {ys:Array ag} (nu:l≠u):∀ (n j:Nat) (s:ah) (R:List ag->ah->Prop),s.heap.IsListIter u l j->s.heap.IsList l ys->j + n<=ys.size ->
  (∀ g:cI,g.IsListIter u l (j + n)->mQ u s.heap g->R ((ys.toList.drop j).take n) {s with heap:=g})->aY (aM prog w) A (draw (.ref u) n) R E s
 | 0,j,s,R,hu,_,_,kR=>av (by simpa using kR s.heap hu (Heap.SameBut.refl ..))
 | n + 1,j,s,R,hu,hy,hb,kR=>by
  have lj:j < ys.size:=by omega
  refine af (m:=CF (.ref u)) (CG hu hy (x:=ys[j]) (by simp [lj]) fun g1 u1 s1=>af (bK (uY nu n (j + 1) _ _ u1 (hy.extBut s1.extBut nu) (by omega) fun g2 u2 s2=>av ?_)));have z:=kR g2 (by rw [<- lG,Nat.add_right_comm]; exact u2) (s1.trans s2);rw [B4 ys n lj] at z;exact z
theorem xN {l:aj} {ys:Array ag} {R:List ag->ah->Prop} (hd:A.handled=none) (hy:s.heap.IsList l ys)
  (kR:∀ g,Heap.ExtBut s.heap.objs.size s.heap g->R ys.toList {s with heap:=g}):aY (aM prog w) A (unpackItems (.ref l) ys.size none) R E s:=by
 have ne:l≠s.heap.objs.size:=by
  obtain ⟨o,e,_⟩:=hy;exact br (bb e)
 unfold unpackItems notIterableAtAll;refine af (af (rF hy.typeIs slot_list_iter.lookup (av ?_)));simp only [jR,if_false];refine af (bK (vC hy (af (bK (uY ne ys.size 0 _ _ ⟨_,bH _ rfl,rfl,rfl⟩ (hy.push _) (by omega) fun g1 u1 s1=>?_)))));rw [GK,da (by simp),if_neg (by simp)];refine af (bK (EL hd u1 ((hy.push _).extBut s1.extBut ne) (by simp) fun g2 e2=>?_));simp only [Option.isSome_none,jR,if_false];exact av (kR g2 fun b o nb e=>e2 b o nb (s1.extBut b o nb (ay _ e)))
end
section
variable {X:Cx} {pos:Pos}
def gLst (K:ai) (n:Nat) (t:TGs):TG:=fun v σ H Q=>∃ a xs,v=.ref a/\SqL K H a xs/\xs.length=n/\t xs σ H Q
theorem Ed {es:List cA} {k:Nat} {t:TGs} {n:Nat} (hc:X.calm=true) (h:PGs X es t) (hn:(jD es X.env).length=n:=by rfl) (hf:(jD es X.env).findIdx? (·.1)=none:=by rfl):PG X (.Tuple es k pos) (gLst X.K n t):=by
 intro pins s σ H v u Q I r ⟨a,xs,ea,hq,hl,hw⟩;subst ea
 cases r;obtain ⟨its,rv,hp,_⟩:=I.list hq;rw [assign_Tuple];refine af (bU ?_);unfold unpack;rw [show (jD es X.env).length=its.toArray.size by simp [hn,<- hl,rv.length],hf];refine af (bK (xN (I.ok.hd hc) hp.isList fun g ex=>?_));exact h pins _ σ H xs _ Q (I.kept (t':=s.toks) fun b o e=>ex b o (br (bb e)) e) (by simpa using rv) hw
end
section
variable {X:Cx} {a b e c:cA} {es:List cA} {ta tb te:TE} {t:TA} {pos:Pos}
theorem GU {M:lU} {A:bJ} {E:ag->ah->Prop} {s:ah} {Q:ag->ah->Prop} {vs:List ag} {m:Sem ag} (h:aY M A m Q E s):aY M A (Jo vs m) Q E s:=fun Γ p i=>by
 rw [Sem.wp_operate];exact h Γ p i
theorem peC_cmp {op:Co} {r:R2} (ho:OpR X (dF op) r) (ha:PEC X a ta) (hb:PE X b tb) (hm:mS op b=false):PEC X (.Compare a [op] [b] pos) (tOp r ta tb):=by
 intro pins s σ H Q I h;rw [eval_Compare1,markedBehindIn_of_false hm];refine e8 (pJ (ha pins s σ H _ I h) fun v s1 ⟨x,H1,I1,r1,q1⟩=>?_);refine cJ (bK (thn (hb pins s1 σ H1 _ I1 q1) fun u s2 ⟨y,H2,I2,r2,q2⟩=>?_));exact cJ (bU (toC (GU (ho pins s2 σ H2 x y v u Q I2 r1 r2 q2))))
theorem Ee {op:zF} {r:R2} (ho:OpR X (jE op) r) (ha:PE X a ta) (hb:PEC X b tb):PEC X (.BinOp a op b pos) (tOp r ta tb):=by
 intro pins s σ H Q I h;rw [eval_BinOp];refine cJ (thn (ha pins s σ H _ I h) fun v s1 ⟨x,H1,I1,r1,q1⟩=>?_);refine e8 (oK (pJ (hb pins s1 σ H1 _ I1 q1) fun u s2 ⟨y,H2,I2,r2,q2⟩=>?_));exact cJ (bU (toC (GU (ho pins s2 σ H2 x y v u Q I2 r1 r2 q2))))
theorem B5 {tA:TT} (hc:PT X c tA) (ha:PEC X a ta) (hb:PEC X b tb):PEC X (.IfExp c a b pos) (tIf tA ta tb):=by
 intro pins s σ H Q I h;rw [arm_eval_IfExp];refine cJ (thn (hc pins s σ H _ I h) fun d s1 ⟨H1,I1,q1⟩=>?_)
 cases d with
 | true=>exact ha pins s1 σ H1 Q I1 q1
 | false=>exact hb pins s1 σ H1 Q I1 q1
theorem Ef {T:String} {name:Str} {id:String} {o:cA} {to:TE} {r:V->List V->Hp->VK->Prop} {apos cpos:Pos} (pa:Iv T) (slot:Slot T name id) (hty:Iw (.builtin id)=pure (.type "method_descriptor")) (hm:MtR X id r) (ho:PE X o to) (ha:PAC X (e :: es) t)
  (hbase:jm o name X.env (d6 o X.env)=d6 o X.env:=by rfl)
  (hfew:((fg cpos (bM (e :: es) X.env)).all (fun x=>!x.1) && (qO cpos (kC [] X.env)).all (fun x=>x.1.isSome)
   && decide ((e :: es).length + ([]:List rh).length + (if ([]:List rh).isEmpty then 0 else 1) < 30))=true:=by rfl)
  (hline:(apos.endLine == cpos.line)=true:=by rfl) (hs:bM (e :: es) X.env=(false,d6 e X.env) :: bM es X.env:=by rfl) (hplain:(fg cpos (bM es X.env)).any (·.1)=false:=by rfl) :
  PEC X (.Call (.Attribute o name apos) (e :: es) [] cpos) (tBM X.K T r to t):=by
 intro pins s σ H Q I h;rw [arm_eval_Call,hbase];refine cJ (thn (ho pins s σ H _ I h) fun v s1 ⟨x,H1,I1,r1,ty,q1⟩=>?_);obtain ⟨h1,h2⟩:=zT I1 r1 ty;have hform:methodCallForm ((e :: es).length + ([]:List rh).length) (fg cpos (bM (e :: es) X.env)) (qO cpos (kC [] X.env))=true:=hfew;have hpos:methodCallPos true o X.env apos cpos=pure cpos:=by
  unfold methodCallPos;simp [hline]
 refine cJ (bU ?_);unfold methodCall;rw [hform];refine cJ (bK (getMethod_builtin h1 pa slot hty h2 (cJ (eP hpos ?_))));have hA:=ha cpos pins s1 σ H1 _ I1 q1;rw [hs] at hA |-;show wpC _ _ (kg cpos (.builtin id) [v] _ []) _ _ _;unfold kg;refine e8 (oK ?_);unfold evalArgs;show wpC _ _ (zu (fg cpos ((false,d6 e X.env) :: bM es X.env)) >>= _) _ _ _;refine e8 (pJ hA fun us s2 ⟨vs,H2,I2,r2,q2⟩=>toC ?_);refine bK (af (av (af (av (av (cJ (bU ?_)))))));have hp2:(fg cpos ((false,d6 e X.env) :: bM es X.env)).any (fun x=>x.1)=false:=by
  show (false || (fg cpos (bM es X.env)).any (·.1))=false;rw [hplain];rfl
 simp only [hp2,List.any_nil,ye];refine cJ (av ?_);exact toC (af (thn (hm pins s2 σ H2 x vs v us Q I2 r1 r2 q2) fun r s3 hr=>af (bK (pX (av hr)))))
theorem yU (he:PEC X e te) (hs:lZ e none pos.line X.env=pure false:=by rfl):PSC X (.Expr e pos) (Gn te):=by
 intro pins s σ H D I h;rw [exec_Expr X.env e pos I.quiet hs];exact cJ (bU (e8 (pJ (he pins s σ H _ I h) fun v s1 ⟨x,H1,I1,r1,q1⟩=>toC (wpAny_dropValue ⟨σ,H1,I1,q1⟩))))
theorem uZ (a:Array Nat):∀ (n:Nat) (acc:Array Nat),((aJ n a).foldl (·++·) acc).size=acc.size + n * a.size
 | 0,acc=>by simp
 | n + 1,acc=>by
  rw [dy,iK,uZ a n,kh,ky];omega
def rRepS:R2:=fun x y H Q=>∃ (z:Str) (n:Nat),x=.str z/\y=.int n/\z.length<=100/\n<=100/\Q (.str ⟨(aJ n z.cps).foldl (·++·) #[]⟩) H
theorem FN:OpR X (jE .Mult) rRepS:=by
 intro pins s σ H x y v u Q I rx ry h;obtain ⟨z,n,rfl,rfl,lz,ln,q⟩:=h;obtain ⟨t,rfl⟩:=rx;obtain ⟨t',rfl⟩:=ry;have big:100000 < ax:=by decide
 have mul:z.length * n<=10000:=Nat.mul_le_mul lz ln;refine P.mul_str (by simp; omega) (fun h1 _=>?_) (fun _ _=>?_) ?_
 ·have:((2 ^ 63 - 1:Int) / (n:Int)) ≥ 100:=by
   refine Int.le_ediv_of_mul_le (by omega) ?_;omega
  omega
 ·rw [eI];unfold Builtin.Str.tooLong;exact decide_eq_false (by omega)
 ·by_cases c1:((n:Int) < 1)
  ·rw [if_pos c1];have:n=0:=by omega
   subst this;exact ⟨aR _,.str uA,H,I.tok _,⟨_,rfl⟩,q⟩
  ·rw [if_neg c1]
   by_cases c2:(((n:Int) == 1) || z.length == 0)=true
   ·rw [if_pos c2];have ez:(⟨(aJ n z.cps).foldl (·++·) #[]⟩:Str)=z:=by
     rcases Bool.or_eq_true_iff.mp c2 with h | h
     ·have h':(n:Int)=1:=by simpa using h
      have:n=1:=by omega
      subst this;refine kz ?_;show #[]++z.cps=z.cps;simp
     ·have z0:z.cps=#[]:=kL (show z.length=0 by simpa using h);refine kz ?_;show (aJ n z.cps).foldl (·++·) #[]=z.cps;rw [z0];clear q c1 c2 h mul ln
      induction n with
      | zero=>rfl
      | succ n ih=>rw [dy,iK]; exact ih
    rw [ez] at q;exact ⟨.str z,H,I,⟨_,rfl⟩,q⟩
   ·rw [if_neg c2];rw [eI];refine ⟨?_,.str _,H,I.tok _,⟨_,rfl⟩,q⟩;show ((aJ n z.cps).foldl (·++·) #[]).size<=ax;rw [uZ];have e1:n * z.cps.size=z.length * n:=Nat.mul_comm _ _;rw [e1];show 0 + _<=_;omega
theorem IW {prog:aS} {w:bN} {A:bJ} {R:ma->ah->Prop} {s:ah} {test:cA} {body:List dw} {env:Env} (I:Nat->ah->Prop)
  (turn:∀ n z,I n z->aY (aM prog w) A (wY test env (d6 test env)) (fun d z2 =>
    if d then wpC (aM prog w) A (vy body env) (fun f y=>match f with
      | .next | .cont=>∃ m,m < n/\I m y
      | .brk=>R (.ok .next) y
      | .ret v=>R (.ok (.ret v)) y) (pV (aM prog w) A env fun e y=>R (.error e) y) z2
    else R (.ok .next) z2)
    (pV (aM prog w) A env fun e y=>R (.error e) y) z)
  (n:Nat) (h:I n s):gc (aM prog w) A (.whileLoop test body [] env) R s:=by
 refine Ds rfl I (fun n z hI=>?_) n h;show wpC _ A ((whileTurn test body [] env).onRaise (fun x=>do jq x env; oa x)) _ _ z;refine z6 ?_;simp only [whileTurn];refine cJ (cg (turn n z hI) (fun d z2 h2=>?_) fun _ _ y=>y)
 cases d with
 | false =>
  rw [if_neg (by decide)] at h2 |-;exact toC (af (fK (av h2)))
 | true =>
  rw [if_pos rfl] at h2 |-;refine e8 (pJ h2 fun f y h3=>?_)
  cases f with
  | next=>exact toC (av (.inl ⟨rfl,h3⟩))
  | cont=>exact toC (av (.inl ⟨rfl,h3⟩))
  | brk=>exact toC (av h3)
  | ret v=>exact toC (av h3)
theorem qD {body:List dw} {tc:TT} {tb:TS} (hp:wZ (aM X.prog X.w) X.A X.env X.xe) (hc:PT X c tc) (hb:PSsC X body tb):PSC X (.While c body [] pos) (CC tc tb):=by
 intro pins s σ H D I h;obtain ⟨W,⟨m0,w0⟩,turn⟩:=h;rw [exec_While];refine cJ (bU (AV ?_));refine IW (fun n s'=>∃ σ' H',Inv X pins σ' H' s'/\W n σ' H') ?_ m0 ⟨σ,H,I,w0⟩;rintro n s1 ⟨σ1,H1,I1,w1⟩;refine eB hp (thn (hc pins s1 σ1 H1 _ I1 (turn n σ1 H1 w1)) fun d s2 ⟨H2,I2,q2⟩=>?_)
 cases d with
 | true =>
  obtain ⟨N,hN,q2⟩:=q2;rw [if_pos rfl];refine oJ (hb pins s2 σ1 H2 _ I2 q2) (fun f s3 q3=>?_) (fun e z y=>hp e z y)
  cases f with
  | next =>
   obtain ⟨σ3,H3,I3,n3⟩:=q3;obtain ⟨m',hm,w3⟩:=hN σ3 H3 n3;exact ⟨m',hm,σ3,H3,I3,w3⟩
  | cont =>
   obtain ⟨σ3,H3,I3,n3⟩:=q3;obtain ⟨m',hm,w3⟩:=hN σ3 H3 n3;exact ⟨m',hm,σ3,H3,I3,w3⟩
  | brk=>exact q3
  | ret v=>exact q3
 | false=>exact ⟨σ1,H2,I2,q2⟩
end
end L2
namespace My
open PySem L2
def top (i:Nat):dw:=PySem.Challenge.pw_momentloom_k74_whole_beginnings_of_model.main.body.getD i (.Pass ⟨0,0,0,0⟩)
abbrev oj:dw:=qA (top 5) 0
abbrev gJ:dw:=top 12
abbrev iB:dw:=top 13
abbrev qE:dw:=top 14
abbrev mD:dw:=top 15
abbrev pf:dw:=top 16
abbrev jI:dw:=top 17
abbrev mG:dw:=top 18
abbrev iU:dw:=top 19
abbrev lJ:dw:=top 21
abbrev iw:dw:=top 22
abbrev j6:dw:=top 23
abbrev jd:dw:=top 24
abbrev lK:dw:=qA (top 25) 0
abbrev gd:dw:=qA (top 25) 1
abbrev gq:dw:=qA (top 25) 2
abbrev gr:dw:=qA (top 25) 3
abbrev dQ:dw:=qA (top 25) 4
abbrev j7:dw:=top 26
abbrev iV:dw:=top 27
abbrev j8:dw:=top 28
abbrev kF:dw:=top 29
abbrev j9:dw:=top 30
abbrev ka:dw:=top 31
abbrev jg:dw:=top 32
abbrev kM:dw:=top 33
abbrev oM:dw:=top 34
abbrev qF:dw:=top 35
abbrev nK:dw:=top 37
abbrev fC:dw:=top 38
abbrev jJ:dw:=top 39
abbrev ia:dw:=top 40
abbrev iC:dw:=top 41
abbrev mH:dw:=top 42
abbrev jK:dw:=top 43
abbrev iD:dw:=top 44
abbrev iW:dw:=top 45
abbrev jL:dw:=top 46
abbrev gZ:dw:=top 47
abbrev gf:dw:=top 48
abbrev jM:dw:=top 49
abbrev qG:dw:=top 50
abbrev nM:dw:=top 51
abbrev kb:dw:=top 52
abbrev Eg:dw:=top 53
structure Df (K:ai) (mg:Str->Option ag) (x:Str) (st:dw) (ps:List Str) (f:aj) (fd:cf):Prop where
 F:Fun K x x st f fd
 b:Binds K fd ps []
 m:mg x=some (.ref f)
structure Bl (mg:Str->Option ag):Prop where
 len:mg "len"=none
 abs:mg "abs"=none
 isi:mg "isinstance"=none
 list:mg "list"=none
 tuple:mg "tuple"=none
 str:mg "str"=none
 int:mg "int"=none
 bool:mg "bool"=none
 range:mg "range"=none
 max:mg "max"=none
 dict:mg "dict"=none
theorem boot_abs:eE "abs"=some (.builtin "abs"):=by decide +kernel
theorem va:eE "isinstance"=some (.builtin "isinstance"):=by decide +kernel
theorem boot_tuple:eE "tuple"=some (.type "tuple"):=by decide +kernel
theorem boot_str:eE "str"=some (.type "str"):=by decide +kernel
theorem boot_int:eE "int"=some (.type "int"):=by decide +kernel
theorem boot_max:eE "max"=some (.builtin "max"):=by decide +kernel
def But (p:aj) (H H':Hp):Prop:=∀ b o,H b=some o->b≠p->H' b=some o
theorem But.refl (p:aj) (H:Hp):But p H H:=fun _ _ e _=>e
theorem But.trans {p:aj} {H H1 H2:Hp} (a:But p H H1) (b:But p H1 H2):But p H H2:=fun c o e n=>b c o (a c o e n) n
theorem But.upd (p:aj) (H:Hp) (o:HO):But p H (upd H p o):=fun b u e n=>by rw [aX n]; exact e
theorem But.same {p:aj} {H H1 H2:Hp} (a:But p H H1) (b:cB H1 H2):But p H H2:=fun c o e n=>b c o (a c o e n)
theorem aD {H:Hp} {p:aj} (h:H p=none) (o:HO):cB H (upd H p o):=fun b u q=>by rw [aX (bw q h)]; exact q
theorem GV {c:Prop} [Decidable c] (h:decide c=true):c:=of_decide_eq_true h
theorem lt2:2<=ax:=by decide
def GX (K:ai):List V->Hp->VK->Prop:=fun xs H Q=>∃ p ys,xs=[.ref p]/\(SqL K H p ys\/SqT K H p ys)/\Q (.int ys.length) H
theorem dN {X:Cx} (K:ai) (hK:X.K=K):l8 X (.builtin "len") (GX K):=by
 rw [<- hK];exact xk
theorem uk {X:Cx} (K:ai) (hK:X.K=K):IxR X (rIxT K):=by
 rw [<- hK];exact cM
theorem eS {te:TE} {D:Ends} {σ:St} {H:Hp} (h:te σ H D.rt):uw te D σ H:=h
section
variable {X:Cx} {es:List cA} {te:TE} {t:TA}
theorem vb {es':List cA} {k:Nat} {p:Pos} {env:Env}:bM (.Tuple es' k p :: es) env=(false,d6 (.Tuple es' k p) env) :: bM es env:=by rfl
theorem vc {es':List cA} {k:Nat} {p:Pos} (ha:PE X (.Tuple es' k p) te) (hr:PA X es t):PA X (.Tuple es' k p :: es) (gX te t):=eJ ha hr (by rfl)
theorem xO {es':List cA} {p:Pos} (ha:PE X (.List es' p) te) (hr:PA X es t):PA X (.List es' p :: es) (gX te t):=eJ ha hr (by rfl)
theorem cS {c:Const} {k:Nat} {p:Pos} (ha:PE X (.Constant c k p) te) (hr:PA X es t):PA X (.Constant c k p :: es) (gX te t):=eJ ha hr (by rfl)
theorem bI {x:Str} {p:Pos} (ha:PE X (.Name x p) te) (hr:PA X es t):PA X (.Name x p :: es) (gX te t):=eJ ha hr (by rfl)
theorem gT {g:cA} {as:List cA} {ks:List rh} {p:Pos} (ha:PE X (.Call g as ks p) te) (hr:PA X es t):PA X (.Call g as ks p :: es) (gX te t):=eJ ha hr (by rfl)
theorem eK {a b:cA} {p:Pos} (ha:PE X (.Subscript a b p) te) (hr:PA X es t):PA X (.Subscript a b p :: es) (gX te t):=eJ ha hr (by rfl)
theorem g9 {a b:cA} {o:zF} {p:Pos} (ha:PE X (.BinOp a o b p) te) (hr:PA X es t):PA X (.BinOp a o b p :: es) (gX te t):=eJ ha hr (by rfl)
end
theorem c7 {D:Ends} {σ:St} {H:Hp} (h:D.nx σ H):dY D σ H:=h
def Det (t:L2.TT) (σ:St) (H:Hp) (b:Bool):Prop:=∀ Q:Bool->Hp->Prop,Q b H->t σ H Q
theorem Det.and {tA tB:L2.TT} {σ:St} {H:Hp} {x y:Bool} (a:Det tA σ H x) (b:x=true->Det tB σ H y):Det (HX tA tB) σ H (x && y):=fun Q q=>a _ (by
 cases x with
 | true=>exact cV (b rfl Q q)
 | false=>exact du q)
theorem Det.or {tA tB:L2.TT} {σ:St} {H:Hp} {x y:Bool} (a:Det tA σ H x) (b:x=false->Det tB σ H y):Det (tOr tA tB) σ H (x || y):=fun Q q=>a _ (by
 cases x with
 | true=>exact cV q
 | false=>exact du (b rfl Q q))
theorem ph {t:L2.TT} {a b:TS} {D:Ends} {σ:St} {H:Hp} {c:Bool} (h:Det t σ H c) (k1:c=true->a D σ H) (k2:c=false->b D σ H):vA t a b D σ H:=h _ (by
 cases c with
 | true=>exact cV (k1 rfl)
 | false=>exact du (k2 rfl))
theorem vd {i:Nat} {w k:Int} {σ:St} {H:Hp} (hv:σ[i]?=some (some (.int w))):Det (qg (tOp rEq (kH i) (tC (.int k)))) σ H (decide (w=k)):=fun Q q=>⟨_,hv,rfl,_,rfl,by
 rw [show decide (V.int w=V.int k)=decide (w=k) from by
  by_cases c:w=k
  ·subst c;rw [decide_eq_true rfl,decide_eq_true rfl]
  ·rw [decide_eq_false c,decide_eq_false (fun z=>c (by cases z; rfl))]]
 exact q⟩
theorem xP {i:Nat} {w k:Int} {σ:St} {H:Hp} (hv:σ[i]?=some (some (.int w))):Det (qg (tOp (rI0 fun i j=>.bl (decide (i < j))) (kH i) (tC (.int k)))) σ H (decide (w < k)):=fun Q q=>⟨_,hv,_,_,rfl,rfl,_,rfl,q⟩
theorem IX {i:Nat} {w k:Int} {σ:St} {H:Hp} (hv:σ[i]?=some (some (.int w))):Det (qg (tOp (rI0 fun i j=>.bl (decide (j < i))) (kH i) (tC (.int k)))) σ H (decide (k < w)):=fun Q q=>⟨_,hv,_,_,rfl,rfl,_,rfl,q⟩
section
variable {X:Cx} {e:cA} {ta:TE} {f:Str} {pos:Pos}
theorem lL (K:ai) (hK:X.K=K) (he:PE X e ta) (hb:jm e f X.env (d6 e X.env)=d6 e X.env):PE X (.Attribute e f pos) (E2 K ta f):=by
 rw [<- hK];exact Il he hb
end
theorem aB {t u:TS} {D:Ends} {σ:St} {H:Hp} (h:t {D with nx:=u D} σ H):By t u D σ H:=h
theorem bT {te:TE} {g:TG} {D:Ends} {σ:St} {H:Hp} (h:te σ H fun x H1=>g x σ H1 D.nx):yo te g D σ H:=h
theorem aG {i:Nat} {v:V} {σ:St} {H:Hp} {Q:St->Hp->Prop} (h:Q (σ.set i (some v)) H):rN i v σ H Q:=h
theorem dG:1000 < ax:=by decide
def abc:Str:="abcdefghijklmnopqrstuvwxyz"
theorem FO:abc.cps.toList.length=26:=by decide +kernel
theorem wB:abc.length<=ax:=by decide +kernel
theorem Eh {z:Int} (h0:0<=z) (h1:z < 26):∃ c,atI abc.cps.toList z=some c:=by
 obtain ⟨j,rfl⟩:∃ j:Nat,z=(j:Int):=⟨z.toNat,by omega⟩;have l:j < abc.cps.toList.length:=by rw [FO]; omega
 exact ⟨abc.cps.toList[j],eZ (aN l)⟩
theorem aL (x y:Str):(x++y).length=x.length + y.length:=by
 show (x++y).cps.size=x.cps.size + y.cps.size;show (x.cps++y.cps).size=_;rw [kh]
section
variable {P:aS} {w:bN} {K:ai} {mg:Str->Option ag} {base:cI} {f fT fW:aj} {fd fdT fdW:cf}
seal L2.PS L2.PSs L2.PE L2.PA L2.PT L2.PW L2.PI L2.PG L2.PGs L2.PC
def ff (H:Hp) (p:aj):Prop:=∃ x y:Int,H p=some (.lst [.int x,.int y])
theorem ff.same {H H':Hp} {p:aj} (a:ff H p) (b:cB H H'):ff H' p:=by
 obtain ⟨x,y,e⟩:=a;exact ⟨x,y,b _ _ e⟩
theorem sU (x:Int):-(2 ^ 64) < x % 2147483629/\x % 2147483629 < 2 ^ 64:=by
 have h1:=iM x (show (2147483629:Int)≠0 by decide);have h2:=gG x (show (0:Int) < 2147483629 by decide);omega
theorem wC {n:Nat} {ti:TE} {g:TG} {tc:L2.TT} {te:TE} {σ:St} {H:Hp} {Q:VK} (P:Nat->Hp->Prop) (hi:∀ R:VK,(∀ (m:Nat) (H1:Hp),P m H1->R (.int m) H1)->ti σ H R) (hb:∀ m H1,P m H1->m < 1000) (Pv:Nat->Hp->Nat->List V->Hp->Prop) (h0:∀ m H1,P m H1->Pv m H1 0 [] H1) (hl:∀ m H1,P m H1->∀ i ys H,i<=m->Pv m H1 i ys H->ys.length < ax)
  (hs:∀ m H1,P m H1->∀ i ys H,i < m->Pv m H1 i ys H->g (.int (0 + i)) (aJ n none++σ) H fun σ2 H2=>σ2.drop n=σ/\tc σ2 H2 fun b H3=>if b=true then te σ2 H3 fun y H4=>Pv m H1 (i + 1) (ys++[y]) H4 else Pv m H1 (i + 1) ys H3)
  (hd:∀ m H1,P m H1->∀ ys H,Pv m H1 m ys H->∀ p,H p=none->Q (.ref p) (upd H p (.lst ys))):nG n (Gq (gX ti rg)) g tc te σ H Q:=
 hi _ fun m H1 p=>⟨(m:Int),rfl,by have:=hb m H1 p; omega,by have:=hb m H1 p; omega,by
  rw [eI];exact Do (Pv m H1) (h0 m H1 p) (hl m H1 p) (hs m H1 p) (hd m H1 p)⟩
theorem om {p:aj} {G:Hp} {a:aj} (h:ff G p) (n:G a=none):a≠p:=by
 obtain ⟨x,y,e⟩:=h;exact (bw e n).symm
theorem sV {p:aj} {G:Hp} (h:ff G p) {a:aj} {o:HO} (n:a≠p):ff (upd G a o) p:=by
 obtain ⟨x,y,e⟩:=h;exact ⟨x,y,by rw [aX n.symm]; exact e⟩
theorem vf {K:ai} {n:Nat} {ti:TE} {g:TG} {tc:L2.TT} {te:TE} {σ:St} {H:Hp} {Q:VK} {a:aj} {xs:List V} (hi:∀ R:VK,R (.ref a) H->ti σ H R) (hx:SqL K H a xs) (Pv:Nat->List V->Hp->Prop) (h0:Pv 0 [] H) (hl:∀ i ys H,i<=xs.length->Pv i ys H->SqL K H a xs/\ys.length < ax)
  (hs:∀ i x ys H,xs[i]?=some x->Pv i ys H->g x (aJ n none++σ) H fun σ2 H2=>σ2.drop n=σ/\tc σ2 H2 fun b H3=>if b=true then te σ2 H3 fun y H4=>Pv (i + 1) (ys++[y]) H4 else Pv (i + 1) ys H3)
  (hd:∀ ys H,Pv xs.length ys H->∀ p,H p=none->Q (.ref p) (upd H p (.lst ys))):nG n (vS K ti) g tc te σ H Q:=
 hi _ ⟨a,rfl,⟨xs,hx⟩,qC Pv h0 hl hs hd⟩
theorem FP {xs:List V} {lo hi:Option Int} {v:V} (h:v∈jZ xs lo hi):v∈xs:=by
 unfold jZ at h;exact lF (dC h)
theorem IY {xs:List V} (h:xs≠[]) (z:Int):∃ v,atI xs (z % (xs.length:Int))=some v/\v∈xs:=by
 have hl:0 < xs.length:=fj.mpr h;have h0:=iM z (show (xs.length:Int)≠0 by omega);have h1:=gG z (show (0:Int) < (xs.length:Int) by omega);obtain ⟨j,hj⟩:∃ j:Nat,z % (xs.length:Int)=(j:Int):=⟨(z % (xs.length:Int)).toNat,by omega⟩;rw [hj] at h1 |-;have hj2:j < xs.length:=by omega
 exact ⟨xs[j],eZ (aN hj2),kS hj2⟩
abbrev nT:List Str:=["_law_purse_here","_law_many","_law_at","_law_found"]
abbrev pT:List Str:=["_law_purse_here","_law_many"]
theorem scT:cH nT pT (bf fC):=⟨rfl,rfl,rfl,by decide +kernel,rfl,by decide +kernel,by decide +kernel⟩
inductive A3 (vs:List V) (H:Hp) (Q:VK) (_e:XK):Prop where
 | mk (p:aj) (n:Int) (_:vs=[.ref p,.int n]) (_:ff H p) (_:0 < n) (_:n < 2 ^ 64) (_:∀ (r:Int) (H':Hp),0<=r->r < n->ff H' p->But p H H'->Q (.int r) H'):A3 vs H Q _e
def oo:Sp:=fun vs H Q _e=>A3 vs H Q _e
theorem nO (D:Df K mg "_law_take" fC pT f fd) (B:Bl mg):cQ P w K mg base CX0 1 f fd pT oo:=by
 refine D.F.ok scT (fun vs H Q E h=>?_) (fun cdv A outer s H vs Q E hr h=>?_)
 ·obtain ⟨p,n,rfl,_⟩:=h;rfl
 obtain ⟨p,n,rfl,⟨x,y,hp⟩,hn,hn2,q⟩:=h;refine ⟨_,aH (cq (i:=2) scT.nd rfl (Or.inl rfl) (fA vT (by rfl) B.int boot_int (eJ (rQ d8 (bR cU (pv 0) aq (fun _ _=>rfl)) aq (bD _)) ak)))
  (aH (cq (i:=3) scT.nd rfl (Or.inl rfl) (cb qb (bR cU (pv 0) (pv 2) (fun _ _=>rfl)) (pv 1)))
  (aH (CB (cb yE (bR cU (pv 0) (pv 2) (fun _ _=>rfl)) (pv 1)) (CA (pv 0) (pv 2) yv))
  (aI (bE (pv 3))))),?_⟩
 refine aB (bT ?_);refine ⟨_,rfl,p,_,_,_,rfl,rfl,SqL.of hp,rfl,rfl,.inr ⟨_,rfl,?_⟩⟩;refine aG ?_;dsimp only;generalize hb:decide (V.int x=V.int 0)=b;refine aB (bT ?_)
 cases b with
 | true =>
  refine ⟨_,rfl,_,rfl,p,_,_,_,rfl,rfl,SqL.of hp,rfl,_,rfl,_,_,rfl,rfl,hn,?_⟩;refine aG ?_;dsimp only;refine ⟨_,rfl,_,rfl,p,_,_,_,rfl,rfl,SqL.of hp,rfl,_,rfl,_,_,rfl,rfl,⟨hn,hn2⟩,_,rfl,_,rfl,p,_,_,_,rfl,rfl,hp,rfl,?_⟩;refine ⟨_,rfl,?_⟩;exact q _ _ (iM _ (by omega)) (gG _ hn) ⟨_,_,ao⟩ (But.upd p H _)
 | false =>
  refine ⟨_,rfl,_,rfl,p,_,_,_,rfl,rfl,SqL.of hp,rfl,_,rfl,_,_,rfl,rfl,hn,?_⟩;refine aG ?_;dsimp only;refine ⟨_,rfl,_,rfl,p,_,_,_,rfl,rfl,SqL.of hp,rfl,_,rfl,_,_,rfl,rfl,⟨hn,hn2⟩,_,rfl,_,rfl,p,_,_,_,rfl,rfl,hp,rfl,?_⟩;refine ⟨_,rfl,?_⟩;exact q _ _ (iM _ (by omega)) (gG _ hn) ⟨_,_,ao⟩ (But.upd p H _)
abbrev nW:List Str:=["_law_purse_here","_law_sort"]
abbrev pW:List Str:=["_law_purse_here"]
theorem scW:cH nW pW (bf ia):=⟨rfl,rfl,rfl,by decide +kernel,rfl,by decide +kernel,by decide +kernel⟩
def xQ:Sp:=fun vs H Q _=>∃ p:aj,vs=[.ref p]/\ff H p/\∀ (r:Int) (H':Hp),-(10 ^ 15)<=r->r<=10 ^ 15->ff H' p->But p H H'->Q (.int r) H'
theorem yV (D:Df K mg "_law_worth" ia pW f fd) (DT:Df K mg "_law_take" fC pT fT fdT) (B:Bl mg):cQ P w K mg base CX0 2 f fd pW xQ:=by
 have GT:cQ P w K mg base CX0 1 fT fdT pT oo:=nO DT B;refine D.F.ok scW (fun vs H Q E h=>?_) (fun cdv A outer s H vs Q E r1 h=>?_)
 ·obtain ⟨p,rfl,_⟩:=h;rfl
 obtain ⟨p,rfl,hp,q⟩:=h;refine ⟨_,aH (cq (i:=1) scW.nd rfl (Or.inl rfl) (bq GT r1 (by rfl) DT.m DT.F.kp DT.b .nil bQ (bI (pv 0) (cS aq ak))))
  (aH (df (aZ d8 (pv 1) aq (bD _)) (aI (bE (cb qa (bq GT r1 (by rfl) DT.m DT.F.kp DT.b .nil bQ (bI (pv 0) (g9 (cb gx (cb q9 aq (cb qc aq aq)) aq) ak))) (cb qc aq aq)))) bO)
  (aH (df (aZ d8 (pv 1) aq (bD _)) (aI (bE (bR cU (cZ (g9 (cb qc aq aq) (eJ (AD w9 (cb qc aq aq)) (g9 (cb qa (cb qc aq aq) aq) (cS aq ak))))) (bq GT r1 (by rfl) DT.m DT.F.kp DT.b .nil bQ (bI (pv 0) (cS aq ak))) (fun _ _=>rfl)))) bO)
  (aI (bE (cb qa (bq GT r1 (by rfl) DT.m DT.F.kp DT.b .nil bQ (bI (pv 0) (cS aq ak))) aq))))),?_⟩
 have big:=dG;have c15:EY 10 15:=⟨by decide,by decide,by decide⟩;have e15:(10:Int) ^ (15:Int).toNat=1000000000000000:=by decide
 have e15':(10:Int) ^ 15=1000000000000000:=by decide
 refine aB (bT ?_);refine ⟨_,rfl,p,8,rfl,hp,by decide,by decide,fun way H1 w0 w1 hp1 b1=>?_⟩;refine aG ?_;dsimp only;refine aB ?_;refine ph (vd rfl) (fun _=>?_) (fun _=>?_)
 ·refine ⟨_,rfl,_,_,rfl,rfl,c15,_,_,rfl,rfl,.inl ⟨by decide,by decide⟩,_,_,rfl,rfl,p,_,rfl,hp1,?_,?_,fun r1 H2 r10 r11 hp2 b2=>?_⟩
  ·rw [e15]; decide
  ·rw [e15]; decide
  ·refine ⟨_,_,rfl,rfl,c15,_,_,rfl,rfl,?_⟩;rw [e15] at r11 |-;exact q _ _ (by omega) (by omega) hp2 (b1.trans b2)
 refine aB ?_;refine ph (vd rfl) (fun _=>?_) (fun _=>?_)
 ·refine ⟨_,_,rfl,rfl,c15,_,_,rfl,rfl,c15,_,rfl,_,_,rfl,rfl,c15,_,_,rfl,rfl,?_⟩;rw [e15];refine ⟨by show 4<=ax; omega,fun l hl=>?_⟩;have sl:=aD hl (.lst [V.int 1000000000000000,V.int (-1000000000000000),V.int (1000000000000000 - 1),V.int 10]);refine ⟨_,rfl,p,4,rfl,hp1.same sl,by decide,by decide,fun r H2 r0 r1' hp2 b2=>?_⟩;obtain ⟨z,hz,z1,z2⟩:∃ z:Int,atI [V.int 1000000000000000,V.int (-1000000000000000),V.int (1000000000000000 - 1),V.int 10] r=some (.int z)/\-1000000000000000<=z/\z<=1000000000000000:=by
   have:r=0\/r=1\/r=2\/r=3:=by omega
   rcases this with rfl | rfl | rfl | rfl
   ·exact ⟨_,rfl,by decide,by decide⟩
   ·exact ⟨_,rfl,by decide,by decide⟩
   ·exact ⟨_,rfl,by decide,by decide⟩
   ·exact ⟨_,rfl,by decide,by decide⟩
  refine ⟨l,_,_,_,rfl,rfl,SqL.of (b2 _ _ ao (om hp1 hl)),hz,?_⟩;exact q _ _ (by omega) (by omega) hp2 ((b1.same sl).trans b2)
 refine ⟨_,rfl,p,9,rfl,hp1,by decide,by decide,fun r1 H2 r10 r11 hp2 b2=>?_⟩;refine ⟨_,_,rfl,rfl,?_⟩;exact q _ _ (by omega) (by omega) hp2 (b1.trans b2)
abbrev nP:List Str:=["_law_script","_law_cells","_law_found","_law_number","_law_k","_law_cell"]
abbrev pP:List Str:=["_law_script"]
theorem scP:cH nP pP (bf nK):=⟨rfl,rfl,rfl,by decide +kernel,rfl,by decide +kernel,by decide +kernel⟩
inductive yW (K:ai) (vs:List V) (H:Hp) (Q:VK) (_e:XK):Prop where
 | mk (a:aj) (ns:List Int) (_:vs=[.ref a]) (_:SqL K H a (ns.map V.int)) (_:ns.length<=63) (_:(∀ x∈ns,gP x<=1048576)) (_:∀ (p:aj) (H':Hp),H p=none->ff H' p->cB H H'->Q (.ref p) H'):yW K vs H Q _e
def A4 (K:ai):Sp:=fun vs H Q _e=>yW K vs H Q _e
theorem Ei (D:Df K mg "_law_purse" nK pP f fd) (B:Bl mg):cQ P w K mg base CX0 1 f fd pP (A4 K):=by
 refine D.F.ok scP (fun vs H Q E h=>?_) (fun cdv A outer s H vs Q E hr h=>?_)
 ·obtain ⟨a,ns,rfl,_⟩:=h;rfl
 obtain ⟨a,ns,rfl,hS,hlen,hbits,q⟩:=h;refine ⟨_,aH (cq (i:=1) scP.nd rfl (Or.inl rfl) (cb j3 (gM nC (pv 0) i7 (ib aq)) (cZ (cS aq ak))))
  (aH (cq (i:=2) scP.nd rfl (Or.inl rfl) aq)
  (aH (cq (i:=3) scP.nd rfl (Or.inl rfl) aq)
  (aH (jt cN rfl (lV (by rfl) B.range (cS aq ak)) (cT (i:=4) scP.nd rfl (Or.inl rfl)) (aH (cq (i:=5) scP.nd rfl (Or.inl rfl) (bR cU (pv 1) (cb qb (pv 4) (cY (dN K (by rfl)) (by rfl) B.len bX (bI (pv 1) ak))) (fun _ _=>rfl)))
  (aH (cq (i:=3) scP.nd rfl (Or.inl rfl) (cb qb (cb gx (cb gx (cb gx (cb q9 (pv 3) (pv 3)) (pv 5)) (cb q9 aq (pv 4))) aq) aq))
  (aI (cq (i:=2) scP.nd rfl (Or.inl rfl) (cb gx (cb q9 (pv 2) aq) (cb qb (cb q9 (pv 3) (pv 3)) aq)))))))
  (aH (df (aZ d8 (cb qb (bR cU (pv 1) aq (fun _ _=>rfl)) aq) aq (bD _)) (aI (bE (cZ (g9 (cb yE (cY yr (by rfl) B.abs boot_abs (eK (bR cU (pv 1) aq (fun _ _=>rfl)) ak)) aq) (bI (pv 2) ak))))) bO)
  (aI (bE (cZ (cS aq (bI (pv 2) ak))))))))),?_⟩
 have big:=dG;refine aB (bT ?_);refine ⟨_,rfl,_,rfl,a,_,rfl,hS,fun l hl=>⟨(by show 1<=ax; decide),fun m hm=>?_⟩⟩;have hlm:l≠m:=bw (ao:upd H l (.lst (jZ (ns.map V.int) none (some 63))) l=_) hm;have cl:(jZ (ns.map V.int) none (some 63)).length<=63:=bC (qj _ _ _) (by rw [aa]; exact hlen);have l64:(jZ (ns.map V.int) none (some 63)).length + [V.int 1].length<=ax:=by
  rw [kJ];omega
 refine ⟨l,m,_,_,rfl,rfl,(by rw [aX hlm]; exact ao),ao,l64,fun c hc=>?_⟩;generalize hcs:jZ (ns.map V.int) none (some 63)++[V.int 1]=cs at hc |-;have sc:cB H (upd (upd (upd H l (.lst (jZ (ns.map V.int) none (some 63)))) m (.lst [.int 1])) c (.lst cs)):=(aD hl _).trans ((aD hm _).trans (aD hc _));generalize hH:upd (upd (upd H l (.lst (jZ (ns.map V.int) none (some 63)))) m (.lst [.int 1])) c (.lst cs)=H1 at sc |-;have hc1:H1 c=some (.lst cs):=by rw [<- hH]; exact ao
 have nonil:cs≠[]:=by rw [<- hcs]; simp
 have cells:∀ v∈cs,∃ z:Int,v=.int z/\gP z<=1048576:=fun v hv=>by
  rw [<- hcs] at hv
  rcases aU.mp hv with z | z
  ·obtain ⟨n,hn,rfl⟩:=cO.mp (FP z);exact ⟨n,rfl,hbits n hn⟩
  ·rw [az.mp z];exact ⟨1,rfl,by decide⟩
 refine aG ?_;dsimp only;refine aB (bT ?_);refine aG ?_;dsimp only;refine aB (bT ?_);refine aG ?_;dsimp only;refine aB ?_;refine ⟨120,rfl,by decide,by decide,qz (n:=120) (fun i σ H2=>∃ (z y:Int) (u v:Option V),σ=[some (.ref a),some (.ref c),some (.int z),some (.int y),u,v]/\-(2 ^ 64) < y/\y < 2 ^ 64/\H2=H1) ⟨1,5,none,none,rfl,by decide,by decide,rfl⟩ ?_ ?_⟩
 ·rintro i σ H2 hi ⟨z,y0,u0,v,rfl,hy1,hy2,rfl⟩;obtain ⟨u,hu,hm2⟩:=IY nonil (0 + (i:Int));obtain ⟨y,rfl,hy⟩:=cells u hm2;have lpos:(0:Int) < (cs.length:Int):=by
   have:=fj.mpr nonil;omega
  refine aB (bT ?_);refine ⟨_,rfl,_,rfl,_,rfl,c,_,rfl,.inl (SqL.of hc1),_,_,rfl,rfl,lpos,c,_,_,_,rfl,rfl,SqL.of hc1,hu,?_⟩;refine aG ?_;dsimp only;refine aB (bT ?_);refine ⟨_,rfl,_,rfl,_,_,rfl,rfl,.inl ⟨hy1,hy2⟩,_,rfl,_,_,rfl,rfl,_,rfl,_,_,rfl,rfl,.inl ⟨by decide,by decide⟩,_,_,rfl,rfl,_,_,rfl,rfl,_,_,rfl,rfl,(by show (0:Int) < 2147483629; decide),?_⟩;refine aG ?_;dsimp only;refine bT ?_;refine ⟨_,rfl,_,_,rfl,rfl,.inr ⟨by decide,by decide⟩,_,rfl,_,rfl,_,_,rfl,rfl,.inl (sU _),_,_,rfl,rfl,(by show (0:Int) < 2147483587; decide),_,_,rfl,rfl,?_⟩;refine aG ?_;exact ⟨_,_,_,_,rfl,(sU _).1,(sU _).2,rfl⟩
 ·rintro σ H2 ⟨z,y0,u0,v,rfl,hy1,hy2,rfl⟩;obtain ⟨x0,hx0⟩:∃ x0,cs[0]?=some x0:=by
   cases cs with
   | nil=>exact absurd rfl nonil
   | cons x0 r=>exact ⟨x0,rfl⟩
  obtain ⟨y,rfl,hy⟩:=cells x0 (bS hx0);have a0:atI cs 0=some (.int y):=eZ (j:=0) hx0;refine aB ?_;refine ⟨_,rfl,c,_,_,_,rfl,rfl,SqL.of hc1,a0,_,_,rfl,rfl,(by show (0:Int) < 2; decide),rfl,_,rfl,?_⟩;refine Iz (fun _=>?_) (fun _=>?_)
  ·refine ⟨_,rfl,c,_,_,_,rfl,rfl,SqL.of hc1,a0,_,rfl,_,_,rfl,rfl,⟨by decide,by decide⟩,_,rfl,lt2,fun p hp=>?_⟩;exact q p _ (sc.free hp) ⟨_,_,ao⟩ (sc.trans (aD hp _))
  ·refine ⟨_,rfl,lt2,fun p hp=>?_⟩;exact q p _ (sc.free hp) ⟨_,_,ao⟩ (sc.trans (aD hp _))
end
theorem iE (x y z:Str):(x++y)++z=x++(y++z):=by
 show (⟨x.cps++y.cps++z.cps⟩:Str)=⟨x.cps++(y.cps++z.cps)⟩;rw [jO]
theorem wD (z:Str):∀ (ps:List Str) (acc:Array Nat),(ps.foldl (fun acc p=>acc++z.cps++p.cps) acc).size=acc.size + (ps.map fun x=>x.length).sum + ps.length * z.length
 | [],acc=>by simp
 | p :: ps,acc=>by
  rw [iK,wD z ps,kh,kh,bu,fX,aE,ky];show acc.size + z.length + p.length + _ + _=_;omega
theorem iX (z:Str) (ys:List Str):(bB z ys).length<=jsz z ys:=by
 cases ys with
 | nil=>exact aR _
 | cons p ps =>
  show (ps.foldl (fun acc p=>acc++z.cps++p.cps) p.cps).size<=_;rw [wD];unfold jsz;rw [bu,fX,aE,ky];show p.length + _ + _<=_;omega
theorem yX (z:Str) (a:Array Nat):∀ (ps:List Str) (acc:Array Nat),ps.foldl (fun acc p=>acc++z.cps++p.cps) (a++acc)=a++ps.foldl (fun acc p=>acc++z.cps++p.cps) acc
 | [],acc=>rfl
 | p :: ps,acc=>by
  rw [iK,iK,<- yX z a ps,jO,jO,jO]
theorem cR (z x y:Str) (ys:List Str):bB z (x :: y :: ys)=x++z++bB z (y :: ys):=by
 show (⟨ys.foldl (fun acc p=>acc++z.cps++p.cps) (x.cps++z.cps++y.cps)⟩:Str)=⟨x.cps++z.cps++ys.foldl (fun acc p=>acc++z.cps++p.cps) y.cps⟩;rw [yX]
theorem sW {z:Str} {ys:List Str} {k:Nat} (h:∀ x∈ys,x.length<=k):jsz z ys<=ys.length * (k + z.length):=by
 unfold jsz
 induction ys with
 | nil=>simp
 | cons y ys ih =>
  have h1:=h y (aw ..);have h2:=ih fun x hx=>h x (ar _ hx);rw [bu,fX,aE,ky,ky];omega
def Ltr (x:Str):Prop:=∀ c∈x.cps.toList,97<=c/\c<=122
def Nam (x:Str):Prop:=1<=x.length/\x.length<=6/\Ltr x
theorem FQ:∀ c∈abc.cps.toList,97<=c/\c<=122:=by decide +kernel
theorem Ej {z:Int} {c:Nat} (h:atI abc.cps.toList z=some c):97<=c/\c<=122:=by
 unfold atI at h;obtain ⟨j,_,e⟩:=oU.mp h;exact FQ c (bS e)
theorem A5 {c:Nat} (h:97<=c/\c<=122):Ltr ⟨#[c]⟩:=fun d hd=>by
 have e:d=c:=by simpa using hd
 rw [e];exact h
theorem xR {x y:Str} (h:Ltr x) (k:Ltr y):Ltr (x++y):=fun c hc=>by
 have hc':c∈(x.cps++y.cps).toList:=hc;rw [A6] at hc'
 rcases aU.mp hc' with z | z
 ·exact h c z
 ·exact k c z
theorem yY:∀ {ts:List Str},(∀ x∈ts,Ltr x)->Ltr (bB "" ts)
 | [],_=>fun c hc=>by
  have e:(bB "" []).cps.toList=[]:=by decide
  rw [e] at hc
  cases hc
 | [x],h=>h x (aw ..)
 | x :: y :: ts,h=>by
  rw [cR];exact xR (xR (h x (aw ..)) (fun c hc=>by cases hc)) (yY fun z hz=>h z (ar _ hz))
section
variable {P:aS} {w:bN} {K:ai} {mg:Str->Option ag} {base:cI} {f fT fW:aj} {fd fdT fdW:cf}
seal L2.PS L2.PSs L2.PE L2.PA L2.PT L2.PW L2.PI L2.PG L2.PGs L2.PC
abbrev nN:List Str:=["_law_purse_here","_law_many","_law_letters","_law_first","_law_found","_law_k","_law_size","_law_tail"]
abbrev pN:List Str:=["_law_purse_here","_law_many"]
theorem scN:cH nN pN (bf jJ):=⟨rfl,rfl,rfl,by decide +kernel,rfl,by decide +kernel,by decide +kernel⟩
theorem ndN:((["_law_j"]:List Str)++nN).Nodup:=by decide +kernel
inductive Ek (vs:List V) (H:Hp) (Q:VK) (_e:XK):Prop where
 | mk (p:aj) (n:Int) (_:vs=[.ref p,.int n]) (_:ff H p) (_:0<=n) (_:n<=9) (_:∀ (l:aj) (ss:List Str) (H':Hp),H l=none->H' l=some (.lst (ss.map V.str))->(ss.length:Int)=n->(∀ x∈ss,Nam x)->ff H' p->But p H H'->Q (.ref l) H'):Ek vs H Q _e
end
def Wo (a:Int):Prop:=-(10 ^ 15)<=a/\a<=10 ^ 15
theorem mI {z:Int} (h:Wo z):z.natAbs.log2 < 1920:=by
 have h1:z.natAbs < 2 ^ 50:=by
  have:=h.1;have:=h.2;omega
 by_cases c:z.natAbs=0
 ·rw [c];decide
 ·have:=(BF c).mpr h1;omega
theorem gu {z:Int} (h:Wo z):(ba (toString z)).length<=17:=by
 obtain ⟨h1,h2⟩:=h
 by_cases c:0<=z
 ·have:=qR c (k:=16) (by decide) (by omega);omega
 ·rw [PyProof.Rows.len_text_neg (by omega)];have:=qR (v:=0 - z) (by omega) (k:=16) (by decide) (by omega);omega
def oN:List (Str×Str):=[("plus","+"),("less","-"),("times","*"),("part","/"),("rest","|"),("below","<"),("same","=")]
def markD:List (Key×V):=oN.map fun p=>(.inr p.1,.str p.2)
theorem gN {k m:Str}:∀ {D:List (Str×Str)},D.lookup k=some m->(k,m)∈D
 | [],h=>by cases h
 |(x,y) :: D,h=>by
  by_cases c:k=x
  ·subst c;simp [dS] at h;subst h;exact aw ..
  ·have e:(k == x)=false:=beq_eq_false_iff_ne.mpr c;simp only [dS,e] at h;exact ar _ (gN h)
theorem sj:∀ q∈oN,(¬ q.1="number"/\¬ q.1="box"/\¬ q.1="long"/\¬ q.1="got"/\¬ q.1="now")/\q.2.length=1/\vH (qk [] markD) (.inr q.1)=some (.str q.2):=by decide +kernel
inductive FI (H:Hp):Nat->V->Str->Prop where
 | num {t z n}:H t=some (.tup [.str "number",.int z])->Wo z->FI H (n + 1) (.ref t) (ba (toString z))
 | box {t x n}:H t=some (.tup [.str "box",.str x])->Nam x->FI H (n + 1) (.ref t) ("."++x)
 | long {t x n}:H t=some (.tup [.str "long",.str x])->Nam x->FI H (n + 1) (.ref t) ("#"++x)
 | got {t g n}:H t=some (.tup [.str "got",.int g])->(g=0\/g=1)->FI H (n + 1) (.ref t) ("$"++ba (toString g))
 | now {t n}:H t=some (.tup [.str "now"])->FI H (n + 1) (.ref t) "@"
 | two {t k m a b s1 s2 n1 n2 n}:H t=some (.tup [.str k,a,b])->oN.lookup k=some m->FI H n1 a s1->FI H n2 b s2->n1 + n2 < n->FI H n (.ref t) (bB " " [m,s1,s2])
theorem FI.up {H H':Hp} {n:Nat} {v:V} {s:Str} (h:FI H n v s) (k:∀ t xs,H t=some (.tup xs)->H' t=some (.tup xs)):FI H' n v s:=by
 induction h with
 | num a b=>exact .num (k _ _ a) b
 | box a b=>exact .box (k _ _ a) b
 | long a b=>exact .long (k _ _ a) b
 | got a b=>exact .got (k _ _ a) b
 | now a=>exact .now (k _ _ a)
 | two a b _ _ c ih1 ih2=>exact .two (k _ _ a) b ih1 ih2 c
theorem FI.same {H H':Hp} {n:Nat} {v:V} {s:Str} (h:FI H n v s) (k:cB H H'):FI H' n v s:=h.up fun _ _ e=>k _ _ e
theorem FI.len {H:Hp} {n:Nat} {v:V} {s:Str} (h:FI H n v s):s.length < 18 * n:=by
 induction h with
 | num _ b =>
  have:=gu b;omega
 | box _ b =>
  have b6:=b.2.1;rw [aL];have:(".":Str).length=1:=by decide
  omega
 | long _ b =>
  have b6:=b.2.1;rw [aL];have:("#":Str).length=1:=by decide
  omega
 | @got t g n _ b =>
  rw [aL];have:("$":Str).length=1:=by decide
  have:(ba (toString g)).length=1:=by
   rcases b with rfl | rfl <;> decide +kernel
  omega
 | now =>
  have:("@":Str).length=1:=by decide
  omega
 | @two t k m a b s1 s2 n1 n2 n _ e _ _ c ih1 ih2 =>
  have:=iX " " [m,s1,s2];have e1:=(sj _ (gN e)).2.1;have e2:(" ":Str).length=1:=by decide
  have e3:jsz " " [m,s1,s2]=m.length + (s1.length + (s2.length + 0)) + 3 * (" ":Str).length:=rfl;rw [e2] at e3;dsimp only at e1;omega
theorem FI.le {H:Hp} {n m:Nat} {v:V} {s:Str} (h:FI H n v s) (l:n<=m):FI H m v s:=by
 cases m with
 | zero=>cases h <;> omega
 | succ m =>
  cases h with
  | num a b=>exact .num a b
  | box a b=>exact .box a b
  | long a b=>exact .long a b
  | got a b=>exact .got a b
  | now a=>exact .now a
  | two a b c d e=>exact .two a b c d (by omega)
theorem FI.pos {H:Hp} {n:Nat} {v:V} {s:Str} (h:FI H n v s):0 < n:=by
 cases h <;> omega
theorem cE {te:TE} {k x:Str} {a b:TS} {D:Ends} {σ:St} {H:Hp} (h:∀ Q:VK,Q (.str x) H->te σ H Q) (n:¬ x=k) (q:b D σ H):vA (qg (tOp rEq te (tC (.str k)))) a b D σ H:=
 h _ ⟨rfl,_,rfl,by rw [decide_eq_false (fun z=>n (V.str.inj z))]; exact du q⟩
theorem gg {te:TE} {k:Str} {a b:TS} {D:Ends} {σ:St} {H:Hp} (h:∀ Q:VK,Q (.str k) H->te σ H Q) (q:a D σ H):vA (qg (tOp rEq te (tC (.str k)))) a b D σ H:=
 h _ ⟨rfl,_,rfl,by rw [decide_eq_true rfl]; exact cV q⟩
section
variable {P:aS} {w:bN} {K:ai} {mg:Str->Option ag} {base:cI} {f:aj} {fd:cf} {aW:aj}
seal L2.PS L2.PSs L2.PE L2.PA L2.PT L2.PW L2.PI L2.PG L2.PGs L2.PC
inductive GY (n:Nat) (vs:List V) (H:Hp) (Q:VK) (_e:XK):Prop where
 | mk (v:V) (s:Str) (_:vs=[v]) (_:FI H n v s) (_:∀ H',cB H H'->Q (.str s) H'):GY n vs H Q _e
def xS (n:Nat):Sp:=fun vs H Q _e=>GY n vs H Q _e
abbrev nF:List Str:=["formula","kind"]
abbrev pF:List Str:=["formula"]
theorem scF:cH nF pF (bf gJ):=⟨rfl,rfl,rfl,by decide +kernel,rfl,by decide +kernel,by decide +kernel⟩
theorem FR {n:Nat} (D:Df K mg "formula_words" gJ pF f fd) (B:Bl mg) (hW:mg "WORDS"=some (.ref aW)) (hTab:Tab K aW oN) (hn:n<=100) (GR:cQ P w K mg base CX0 n f fd pF (xS n)):cQ P w K mg base CX0 (n + 1) f fd pF (xS (n + 1)):=by
 refine D.F.ok scF (fun vs H Q E h=>?_) (fun cdv A outer s H vs Q E hr h=>?_)
 ·obtain ⟨v,s,rfl,_⟩:=h;rfl
 obtain ⟨v,s,rfl,hF,q⟩:=h;refine ⟨_,aH (cq (i:=1) scF.nd rfl (Or.inl rfl) (bR cM (pv 0) aq (fun _ _=>rfl)))
  (aH (df (aZ d8 (pv 1) aO (bD _)) (aI (bE (fA eW (by rfl) B.str boot_str (eK (bR cM (pv 0) aq (fun _ _=>rfl)) ak)))) bO)
  (aH (df (aZ d8 (pv 1) aO (bD _)) (aI (bE (cb cD aO (bR cM (pv 0) aq (fun _ _=>rfl))))) bO)
  (aH (df (aZ d8 (pv 1) aO (bD _)) (aI (bE (cb cD aO (bR cM (pv 0) aq (fun _ _=>rfl))))) bO)
  (aH (df (aZ d8 (pv 1) aO (bD _)) (aI (bE (cb cD aO (fA eW (by rfl) B.str boot_str (eK (bR cM (pv 0) aq (fun _ _=>rfl)) ak))))) bO)
  (aH (df (aZ d8 (pv 1) aO (bD _)) (aI (bE aO)) bO)
  (aI (bE (d9 bz cF cG ie aO (xO (cZ (eK (bR (Dm hTab) (jT (v:=.ref aW) (by rfl) hW rfl) (pv 1) (fun _ _=>rfl)) (gT (bq GR hr (by rfl) D.m D.F.kp D.b .nil bQ (eK (bR cM (pv 0) aq (fun _ _=>rfl)) ak)) (gT (bq GR hr (by rfl) D.m D.F.kp D.b .nil bQ (eK (bR cM (pv 0) aq (fun _ _=>rfl)) ak)) ak)))) ak))))))))),?_⟩
 have big:=dG;have kne:(¬ ("box":Str)="number"/\¬ ("long":Str)="number"/\¬ ("long":Str)="box"/\¬ ("got":Str)="number")/\(¬ ("got":Str)="box"/\¬ ("got":Str)="long"/\¬ ("now":Str)="number"/\¬ ("now":Str)="box"/\¬ ("now":Str)="long"/\¬ ("now":Str)="got"):=by decide +kernel
 have l1:(".":Str).length=1:=by decide
 have l2:("#":Str).length=1:=by decide
 have l3:("$":Str).length=1:=by decide
 cases hF with
 | num a b =>
  refine aB (bT ⟨_,rfl,_,_,_,_,rfl,rfl,SqT.of a,rfl,aG ?_⟩);dsimp only;refine aB (gg (fun Q q=>⟨_,rfl,q⟩) ?_);exact ⟨_,rfl,_,_,_,_,rfl,rfl,SqT.of a,rfl,_,rfl,mI b,q _ (cB.refl _)⟩
 | box a b =>
  have b6:=b.2.1;refine aB (bT ⟨_,rfl,_,_,_,_,rfl,rfl,SqT.of a,rfl,aG ?_⟩);dsimp only;refine aB (cE (fun Q q=>⟨_,rfl,q⟩) kne.1.1 (c7 ?_));dsimp only;refine aB (gg (fun Q q=>⟨_,rfl,q⟩) ?_);exact ⟨_,rfl,_,_,_,_,rfl,rfl,SqT.of a,rfl,_,_,rfl,rfl,(by omega),q _ (cB.refl _)⟩
 | long a b =>
  have b6:=b.2.1;refine aB (bT ⟨_,rfl,_,_,_,_,rfl,rfl,SqT.of a,rfl,aG ?_⟩);dsimp only;refine aB (cE (fun Q q=>⟨_,rfl,q⟩) kne.1.2.1 (c7 ?_));dsimp only;refine aB (cE (fun Q q=>⟨_,rfl,q⟩) kne.1.2.2.1 (c7 ?_));dsimp only;refine aB (gg (fun Q q=>⟨_,rfl,q⟩) ?_);exact ⟨_,rfl,_,_,_,_,rfl,rfl,SqT.of a,rfl,_,_,rfl,rfl,(by omega),q _ (cB.refl _)⟩
 | @got t g _ a b =>
  refine aB (bT ⟨_,rfl,_,_,_,_,rfl,rfl,SqT.of a,rfl,aG ?_⟩);dsimp only;refine aB (cE (fun Q q=>⟨_,rfl,q⟩) kne.1.2.2.2 (c7 ?_));dsimp only;refine aB (cE (fun Q q=>⟨_,rfl,q⟩) kne.2.1 (c7 ?_));dsimp only;refine aB (cE (fun Q q=>⟨_,rfl,q⟩) kne.2.2.1 (c7 ?_));dsimp only;refine aB (gg (fun Q q=>⟨_,rfl,q⟩) ?_);have wg:Wo g:=by unfold Wo; omega
  have:=gu wg;exact ⟨_,rfl,_,_,_,_,rfl,rfl,SqT.of a,rfl,_,rfl,mI wg,_,_,rfl,rfl,(by omega),q _ (cB.refl _)⟩
 | now a =>
  refine aB (bT ⟨_,rfl,_,_,_,_,rfl,rfl,SqT.of a,rfl,aG ?_⟩);dsimp only;refine aB (cE (fun Q q=>⟨_,rfl,q⟩) kne.2.2.2.1 (c7 ?_));dsimp only;refine aB (cE (fun Q q=>⟨_,rfl,q⟩) kne.2.2.2.2.1 (c7 ?_));dsimp only;refine aB (cE (fun Q q=>⟨_,rfl,q⟩) kne.2.2.2.2.2.1 (c7 ?_));dsimp only;refine aB (cE (fun Q q=>⟨_,rfl,q⟩) kne.2.2.2.2.2.2 (c7 ?_));dsimp only;refine aB (gg (fun Q q=>⟨_,rfl,q⟩) ?_);exact q _ (cB.refl _)
 | @two t k m v1 v2 s1 s2 n1 n2 _ a b c d e =>
  obtain ⟨⟨k1,k2,k3,k4,k5⟩,lm,_⟩:=sj _ (gN b);dsimp only at k1 k2 k3 k4 k5 lm;refine aB (bT ⟨_,rfl,_,_,_,_,rfl,rfl,SqT.of a,rfl,aG ?_⟩);dsimp only;refine aB (cE (fun Q q=>⟨_,rfl,q⟩) k1 (c7 ?_));dsimp only;refine aB (cE (fun Q q=>⟨_,rfl,q⟩) k2 (c7 ?_));dsimp only;refine aB (cE (fun Q q=>⟨_,rfl,q⟩) k3 (c7 ?_));dsimp only;refine aB (cE (fun Q q=>⟨_,rfl,q⟩) k4 (c7 ?_));dsimp only;refine aB (cE (fun Q q=>⟨_,rfl,q⟩) k5 (c7 ?_));dsimp only;refine ⟨rfl,_,rfl,k,m,rfl,rfl,b,_,rfl,_,_,_,_,rfl,rfl,SqT.of a,rfl,v1,s1,rfl,c.le (by omega),fun H1 g1=>?_⟩;refine ⟨_,rfl,_,_,_,_,rfl,rfl,SqT.of (g1 _ _ a),rfl,v2,s2,rfl,(d.le (by omega)).same g1,fun H2 g2=>?_⟩;refine ⟨by show 3<=ax; omega,fun l hl=>?_⟩;have g3:=(g1.trans g2).trans (aD hl (.lst [V.str m,V.str s1,V.str s2]));have j1:=c.len;have j2:=d.len;refine ⟨_,l,[m,s1,s2],rfl,rfl,.inl (SqL.of ao),?_,q _ g3⟩;have e2:(" ":Str).length=1:=by decide
  show m.length + (s1.length + (s2.length + 0)) + 3 * (" ":Str).length<=16777216;omega
theorem FS (D:Df K mg "formula_words" gJ pF f fd):cQ P w K mg base CX0 0 f fd pF (xS 0):=
 ⟨fun vs H Q E h=>(by obtain ⟨v,s,rfl,h,_⟩:=h; exact absurd h.pos (dz 0)),fun A outer s H args us vs Q E a b c d h=>(by obtain ⟨v,s,rfl,h,_⟩:=h; exact absurd h.pos (dz 0))⟩
theorem GZ (D:Df K mg "formula_words" gJ pF f fd) (B:Bl mg) (hW:mg "WORDS"=some (.ref aW)) (hTab:Tab K aW oN):∀ n:Nat,n<=100->cQ P w K mg base CX0 n f fd pF (xS n)
 | 0,_=>FS D
 | n + 1,h=>FR D B hW hTab (by omega) (GZ D B hW hTab n (by omega))
abbrev nLw:List Str:=["_law_formula_here","_law_mark"]
abbrev pLw:List Str:=["_law_formula_here"]
theorem scLw:cH nLw pLw (bf jL):=⟨rfl,rfl,rfl,by decide +kernel,rfl,by decide +kernel,by decide +kernel⟩
theorem FT {n:Nat} (D:Df K mg "_law_words" jL pLw f fd) (B:Bl mg) (hn:n<=100) (GR:cQ P w K mg base CX0 n f fd pLw (xS n)):cQ P w K mg base CX0 (n + 1) f fd pLw (xS (n + 1)):=by
 refine D.F.ok scLw (fun vs H Q E h=>?_) (fun cdv A outer s H vs Q E hr h=>?_)
 ·obtain ⟨v,s,rfl,_⟩:=h;rfl
 obtain ⟨v,s,rfl,hF,q⟩:=h;have hu1:=hu_of hr;refine ⟨_,aH (df (aZ d8 (bR cM (pv 0) aq (fun _ _=>rfl)) aO (bD _)) (aI (bE (fA eW (by rfl) B.str boot_str (eK (bR cM (pv 0) aq (fun _ _=>rfl)) ak)))) bO)
  (aH (df (aZ d8 (bR cM (pv 0) aq (fun _ _=>rfl)) aO (bD _)) (aI (bE (cb cD aO (bR cM (pv 0) aq (fun _ _=>rfl))))) bO)
  (aH (df (aZ d8 (bR cM (pv 0) aq (fun _ _=>rfl)) aO (bD _)) (aI (bE (cb cD aO (bR cM (pv 0) aq (fun _ _=>rfl))))) bO)
  (aH (df (aZ d8 (bR cM (pv 0) aq (fun _ _=>rfl)) aO (bD _)) (aI (bE (bR cU (cZ (cS aO (cS aO ak))) (bR cM (pv 0) aq (fun _ _=>rfl)) (fun _ _=>rfl)))) bO)
  (aH (df (aZ d8 (bR cM (pv 0) aq (fun _ _=>rfl)) aO (bD _)) (aI (bE aO)) bO)
  (aH (cq (i:=1) scLw.nd rfl (Or.inl rfl) (Fe hu1 (Fg (mm aO aO (mm aO aO (mm aO aO (mm aO aO (mm aO aO (mm aO aO (mm aO aO Ff))))))) rfl rfl (by simp) (by decide)) (bR cM (pv 0) aq (fun _ _=>rfl)) (fun _ _=>rfl)))
  (aI (bE (d9 bz cF cG ie aO (xO (cZ (bI (pv 1) (gT (bq GR hr (by rfl) D.m D.F.kp D.b .nil bQ (eK (bR cM (pv 0) aq (fun _ _=>rfl)) ak)) (gT (bq GR hr (by rfl) D.m D.F.kp D.b .nil bQ (eK (bR cM (pv 0) aq (fun _ _=>rfl)) ak)) ak)))) ak))))))))),?_⟩
 have big:=dG;have kne:(¬ ("box":Str)="number"/\¬ ("long":Str)="number"/\¬ ("long":Str)="box"/\¬ ("got":Str)="number")/\(¬ ("got":Str)="box"/\¬ ("got":Str)="long"/\¬ ("now":Str)="number"/\¬ ("now":Str)="box"/\¬ ("now":Str)="long"/\¬ ("now":Str)="got"):=by decide +kernel
 have l1:(".":Str).length=1:=by decide
 have l2:("#":Str).length=1:=by decide
 cases hF with
 | num a b =>
  refine aB (gg (fun Q q=>⟨_,rfl,_,_,_,_,rfl,rfl,SqT.of a,rfl,q⟩) ?_);exact ⟨_,rfl,_,_,_,_,rfl,rfl,SqT.of a,rfl,_,rfl,mI b,q _ (cB.refl _)⟩
 | box a b =>
  have b6:=b.2.1;refine aB (cE (fun Q q=>⟨_,rfl,_,_,_,_,rfl,rfl,SqT.of a,rfl,q⟩) kne.1.1 (c7 ?_));dsimp only;refine aB (gg (fun Q q=>⟨_,rfl,_,_,_,_,rfl,rfl,SqT.of a,rfl,q⟩) ?_);exact ⟨_,rfl,_,_,_,_,rfl,rfl,SqT.of a,rfl,_,_,rfl,rfl,(by omega),q _ (cB.refl _)⟩
 | long a b =>
  have b6:=b.2.1;refine aB (cE (fun Q q=>⟨_,rfl,_,_,_,_,rfl,rfl,SqT.of a,rfl,q⟩) kne.1.2.1 (c7 ?_));dsimp only;refine aB (cE (fun Q q=>⟨_,rfl,_,_,_,_,rfl,rfl,SqT.of a,rfl,q⟩) kne.1.2.2.1 (c7 ?_));dsimp only;refine aB (gg (fun Q q=>⟨_,rfl,_,_,_,_,rfl,rfl,SqT.of a,rfl,q⟩) ?_);exact ⟨_,rfl,_,_,_,_,rfl,rfl,SqT.of a,rfl,_,_,rfl,rfl,(by omega),q _ (cB.refl _)⟩
 | @got t g _ a b =>
  refine aB (cE (fun Q q=>⟨_,rfl,_,_,_,_,rfl,rfl,SqT.of a,rfl,q⟩) kne.1.2.2.2 (c7 ?_));dsimp only;refine aB (cE (fun Q q=>⟨_,rfl,_,_,_,_,rfl,rfl,SqT.of a,rfl,q⟩) kne.2.1 (c7 ?_));dsimp only;refine aB (cE (fun Q q=>⟨_,rfl,_,_,_,_,rfl,rfl,SqT.of a,rfl,q⟩) kne.2.2.1 (c7 ?_));dsimp only;refine aB (gg (fun Q q=>⟨_,rfl,_,_,_,_,rfl,rfl,SqT.of a,rfl,q⟩) ?_);refine ⟨by show 2<=ax; omega,fun l hl=>?_⟩;have sl:=aD hl (.lst [V.str "$0",V.str "$1"]);have e0:("$":Str)++ba (toString (0:Int))="$0":=by decide +kernel
  have e1:("$":Str)++ba (toString (1:Int))="$1":=by decide +kernel
  refine ⟨_,rfl,_,_,_,_,rfl,rfl,SqT.of (sl _ _ a),rfl,l,_,_,.str ("$"++ba (toString g)),rfl,rfl,SqL.of ao,?_,q _ sl⟩
  rcases b with rfl | rfl
  ·rw [e0]; rfl
  ·rw [e1]; rfl
 | now a =>
  refine aB (cE (fun Q q=>⟨_,rfl,_,_,_,_,rfl,rfl,SqT.of a,rfl,q⟩) kne.2.2.2.1 (c7 ?_));dsimp only;refine aB (cE (fun Q q=>⟨_,rfl,_,_,_,_,rfl,rfl,SqT.of a,rfl,q⟩) kne.2.2.2.2.1 (c7 ?_));dsimp only;refine aB (cE (fun Q q=>⟨_,rfl,_,_,_,_,rfl,rfl,SqT.of a,rfl,q⟩) kne.2.2.2.2.2.1 (c7 ?_));dsimp only;refine aB (cE (fun Q q=>⟨_,rfl,_,_,_,_,rfl,rfl,SqT.of a,rfl,q⟩) kne.2.2.2.2.2.2 (c7 ?_));dsimp only;refine aB (gg (fun Q q=>⟨_,rfl,_,_,_,_,rfl,rfl,SqT.of a,rfl,q⟩) ?_);exact q _ (cB.refl _)
 | @two t k m v1 v2 s1 s2 n1 n2 _ a b c d e =>
  obtain ⟨⟨k1,k2,k3,k4,k5⟩,lm,vm⟩:=sj _ (gN b);dsimp only at k1 k2 k3 k4 k5 lm vm;refine aB (cE (fun Q q=>⟨_,rfl,_,_,_,_,rfl,rfl,SqT.of a,rfl,q⟩) k1 (c7 ?_));dsimp only;refine aB (cE (fun Q q=>⟨_,rfl,_,_,_,_,rfl,rfl,SqT.of a,rfl,q⟩) k2 (c7 ?_));dsimp only;refine aB (cE (fun Q q=>⟨_,rfl,_,_,_,_,rfl,rfl,SqT.of a,rfl,q⟩) k3 (c7 ?_));dsimp only;refine aB (cE (fun Q q=>⟨_,rfl,_,_,_,_,rfl,rfl,SqT.of a,rfl,q⟩) k4 (c7 ?_));dsimp only;refine aB (cE (fun Q q=>⟨_,rfl,_,_,_,_,rfl,rfl,SqT.of a,rfl,q⟩) k5 (c7 ?_));dsimp only;refine aB (bT ?_);intro pd hpd;have sd1:=aD hpd (.dK []);refine ⟨ao,markD,rfl,by decide +kernel,?_⟩;have sd:cB H (upd (upd H pd (.dK [])) pd (.dK (qk [] markD))):=fun x o ex=>by
   rw [aX (bw ex hpd),aX (bw ex hpd)];exact ex
  refine ⟨_,rfl,_,_,_,_,rfl,rfl,SqT.of (sd _ _ a),rfl,pd,.str m,rfl,.inl ⟨_,.inr k,.inl ao,rfl,vm.symm⟩,aG ?_⟩;dsimp only;generalize upd (upd H pd (.dK [])) pd (.dK (qk [] markD))=H0 at sd |-;refine ⟨rfl,_,rfl,_,rfl,_,_,_,_,rfl,rfl,SqT.of (sd _ _ a),rfl,v1,s1,rfl,(c.le (by omega)).same sd,fun H1 g1=>?_⟩;have g1:=sd.trans g1;refine ⟨_,rfl,_,_,_,_,rfl,rfl,SqT.of (g1 _ _ a),rfl,v2,s2,rfl,(d.le (by omega)).same g1,fun H2 g2=>?_⟩;refine ⟨by show 3<=ax; omega,fun l hl=>?_⟩;have g3:=(g1.trans g2).trans (aD hl (.lst [V.str m,V.str s1,V.str s2]));have j1:=c.len;have j2:=d.len;refine ⟨_,l,[m,s1,s2],rfl,rfl,.inl (SqL.of ao),?_,q _ g3⟩;have e2:(" ":Str).length=1:=by decide
  show m.length + (s1.length + (s2.length + 0)) + 3 * (" ":Str).length<=16777216;omega
theorem Ha (D:Df K mg "_law_words" jL pLw f fd) (B:Bl mg):∀ n:Nat,n<=100->cQ P w K mg base CX0 n f fd pLw (xS n)
 | 0,_=>⟨fun vs H Q E h=>(by obtain ⟨v,s,rfl,h,_⟩:=h; exact absurd h.pos (dz 0)),fun A outer s H args us vs Q E a b c d h=>(by obtain ⟨v,s,rfl,h,_⟩:=h; exact absurd h.pos (dz 0))⟩
 | n + 1,h=>FT D B (by omega) (Ha D B n (by omega))
end
theorem um {H:Hp} {p lb:aj} {bs:List Str} (pu:ff H p) (hb:H lb=some (.lst (bs.map V.str))):lb≠p:=by
 obtain ⟨x,y,e⟩:=pu;refine Cw hb e fun z=>?_
 cases bs with
 | nil=>cases z
 | cons b r=>cases z
theorem sk {bs:List Str} {r:Int} (h0:0<=r) (h1:r < bs.length):∃ x,atI (bs.map V.str) r=some (.str x)/\x∈bs:=by
 obtain ⟨j,rfl⟩:∃ j:Nat,r=(j:Int):=⟨r.toNat,by omega⟩;have lt:j < bs.length:=by omega
 exact ⟨bs[j],eZ (by rw [cw,aN lt]; rfl),kS lt⟩
theorem mJ {H H':Hp} {p:aj} (pu:ff H p) (b:But p H H'):∀ t xs,H t=some (.tup xs)->H' t=some (.tup xs):=fun t xs e=>b _ _ e (fun z=>by
 obtain ⟨x,y,e2⟩:=pu;rw [<- z,e] at e2
 cases e2)
theorem xT {i:Nat} {x k:Str} {σ:St} {H:Hp} (hv:σ[i]?=some (some (.str x))):Det (qg (tOp rEq (kH i) (tC (.str k)))) σ H (decide (x=k)):=fun Q q=>⟨_,hv,rfl,_,rfl,by
 rw [show decide (V.str x=V.str k)=decide (x=k) from by
  by_cases c:x=k
  ·subst c;rw [decide_eq_true rfl,decide_eq_true rfl]
  ·rw [decide_eq_false c,decide_eq_false (fun z=>c (V.str.inj z))]]
 exact q⟩
def Hb:List Str:=["number","box","long","got","now","number"]
def El:List Str:=["plus","less","times","part","rest","below","same"]
theorem Em:∀ x∈El,(oN.lookup x).isSome=true:=by decide +kernel
theorem FU:∀ x∈Hb,x="number"\/x="box"\/x="long"\/x="got"\/x="now":=by decide +kernel
section
variable {P:aS} {w:bN} {K:ai} {mg:Str->Option ag} {base:cI} {f fT fW:aj} {fd fdT fdW:cf}
seal L2.PS L2.PSs L2.PE L2.PA L2.PT L2.PW L2.PI L2.PG L2.PGs L2.PC
def vN (H:Hp) (l:aj):Prop:=∃ ns:List Str,H l=some (.lst (ns.map V.str))/\0 < ns.length/\ns.length<=9/\∀ x∈ns,Nam x
theorem vN.but {H H':Hp} {p l:aj} (h:vN H l) (pu:ff H p) (b:But p H H'):vN H' l:=by
 obtain ⟨ns,e,r⟩:=h;exact ⟨ns,b _ _ e (um pu e),r⟩
abbrev nFo:List Str:=["_law_purse_here","_law_names_here","_law_most","_law_sort","_law_word","_law_share","_law_one"]
abbrev pFo:List Str:=["_law_purse_here","_law_names_here","_law_most"]
theorem B6:cH nFo pFo (bf iC):=⟨rfl,rfl,rfl,by decide +kernel,rfl,by decide +kernel,by decide +kernel⟩
inductive Hc (n:Nat) (vs:List V) (H:Hp) (Q:VK) (_e:XK):Prop where
 | mk (p l:aj) (m:Nat) (_:vs=[.ref p,.ref l,.int m]) (_:ff H p) (_:vN H l) (_:0 < m) (_:m<=n) (_:∀ (v:V) (s:Str) (H':Hp),FI H' m v s->ff H' p->But p H H'->Q v H'):Hc n vs H Q _e
def FV (n:Nat):Sp:=fun vs H Q _e=>Hc n vs H Q _e
theorem FW {n:Nat} (D:Df K mg "_law_formula" iC pFo f fd) (DT:Df K mg "_law_take" fC pT fT fdT) (DW:Df K mg "_law_worth" ia pW fW fdW) (B:Bl mg) (hn:n<=100) (GR:cQ P w K mg base CX0 (n + 2) f fd pFo (FV n)):cQ P w K mg base CX0 (n + 3) f fd pFo (FV (n + 1)):=by
 have GT:cQ P w K mg base CX0 1 fT fdT pT oo:=nO DT B;have GW:cQ P w K mg base CX0 2 fW fdW pW xQ:=yV DW DT B;refine D.F.ok B6 (fun vs H Q E h=>?_) (fun cdv A outer s H vs Q E hr h=>?_)
 ·obtain ⟨p,l,m,rfl,_⟩:=h;rfl
 obtain ⟨p,l,m,rfl,pu,nm,m0,mn,q⟩:=h;have r1:dE 1 _:=hr.mono (by omega);have r2:dE 2 _:=hr.mono (by omega);refine ⟨_,aH (cq (i:=3) B6.nd rfl (Or.inl rfl) (bq GT r1 (by rfl) DT.m DT.F.kp DT.b .nil bQ (bI (pv 0) (cS aq ak))))
  (aH (df ((jj (aZ pw (pv 2) aq (bD _)) (iP (aZ pw (pv 3) aq (bD _)))).pt) (aH (cq (i:=4) B6.nd rfl (Or.inl rfl) (bR cU (cZ (cS aO (cS aO (cS aO (cS aO (cS aO (cS aO ak))))))) (cb qb (pv 3) aq) (fun _ _=>rfl)))
  (aH (df ((jj (aZ d8 (pv 4) aO (bD _)) (iP (aZ d8 (pv 4) aO (bD _)))).pt) (aI (bE (fz (bI (pv 4) (eK (bR cU (pv 1) (bq GT r1 (by rfl) DT.m DT.F.kp DT.b .nil bQ (bI (pv 0) (gT (cY (dN K (by rfl)) (by rfl) B.len bX (bI (pv 1) ak)) ak))) (fun _ _=>rfl)) ak))))) bO)
  (aH (df (aZ d8 (pv 4) aO (bD _)) (aI (bE (fz (bI (pv 4) (gT (bq GT r1 (by rfl) DT.m DT.F.kp DT.b .nil bQ (bI (pv 0) (cS aq ak))) ak))))) bO)
  (aI (bE (bR cU (cZ (vc (fz (bI (pv 4) ak)) (vc (fz (cS aO (gT (bq GW r2 (by rfl) DW.m DW.F.kp DW.b .nil bQ (bI (pv 0) ak)) ak))) ak))) (fA vT (by rfl) B.int boot_int (eJ (rQ d8 (pv 4) aO (bD _)) ak)) (fun _ _=>rfl))))))) bO)
  (aH (cq (i:=4) B6.nd rfl (Or.inl rfl) (bR cU (cZ (cS aO (cS aO (cS aO (cS aO (cS aO (cS aO (cS aO ak)))))))) (bq GT r1 (by rfl) DT.m DT.F.kp DT.b .nil bQ (bI (pv 0) (cS aq ak))) (fun _ _=>rfl)))
  (aH (cq (i:=5) B6.nd rfl (Or.inl rfl) (cb gx aq (bq GT r1 (by rfl) DT.m DT.F.kp DT.b .nil bQ (bI (pv 0) (g9 (cb qa (pv 2) aq) ak)))))
  (aH (cq (i:=6) B6.nd rfl (Or.inl rfl) (bq GR hr (by rfl) D.m D.F.kp D.b .nil bQ (bI (pv 0) (bI (pv 1) (bI (pv 5) ak)))))
  (aI (bE (fz (bI (pv 4) (bI (pv 6) (gT (bq GR hr (by rfl) D.m D.F.kp D.b .nil bQ (bI (pv 0) (bI (pv 1) (g9 (cb qa (cb qa (pv 2) aq) (pv 5)) ak)))) ak)))))))))),?_⟩
 have big:=dG;have dn:¬ ("now":Str)="number":=by decide +kernel
 have fin:∀ {G1:Hp} {xs:List V} {z:Str},But p H G1->ff G1 p->(∀ G t,cB G1 G->G t=some (.tup xs)->FI G m (.ref t) z)->xs.length<=3->xs.length<=ax/\∀ t,G1 t=none->Q (.ref t) (upd G1 t (.tup xs)):=fun {G1 xs z} b1 pu1 hF hl=>⟨by omega,fun t ht=>q _ z _ (hF _ t (aD ht _) ao) (pu1.same (aD ht _)) (b1.same (aD ht _))⟩;obtain ⟨m',rfl⟩:∃ m',m=m' + 1:=⟨m - 1,by omega⟩;refine aB (bT ?_);refine ⟨_,rfl,p,12,rfl,pu,by decide,by decide,fun so G so0 so1 puG bG=>?_⟩;refine aG ?_;dsimp only;refine aB ?_;refine ph (Det.or (xP rfl) fun _=>xP rfl) (fun _=>?_) (fun c=>?_)
 ·refine aB (bT ?_);refine ⟨by show 6<=ax; omega,fun lw hlw=>?_⟩;have sl:=aD hlw (.lst [V.str "number",V.str "box",V.str "long",V.str "got",V.str "now",V.str "number"]);obtain ⟨x,hx,mx⟩:=sk (bs:=Hb) (iM so (show (6:Int)≠0 by decide)) (show so % 6 < 6 from gG so (by decide));refine ⟨_,rfl,_,_,rfl,rfl,(by show (0:Int) < 6; decide),lw,_,_,_,rfl,rfl,SqL.of ao,hx,aG ?_⟩;dsimp only;have puL:=puG.same sl;have bL:=bG.same sl;generalize upd G lw (.lst [V.str "number",V.str "box",V.str "long",V.str "got",V.str "now",V.str "number"])=GL at puL bL |-;obtain ⟨ns,hns,ns0,ns9,ns6⟩:=nm.but pu bL;have nlp:=um puL hns;refine aB ?_;refine ph (Det.or (xT rfl) fun _=>xT rfl) (fun c=>?_) (fun c=>?_)
  ·refine ⟨_,rfl,_,rfl,_,rfl,_,rfl,l,_,rfl,.inl (SqL.of hns),p,_,rfl,puL,by rw [aa]; omega,by rw [aa]; omega,fun r G1 r0 r1' pu1 b1=>?_⟩;rw [aa] at r1';obtain ⟨y,hy,my⟩:=sk r0 r1';refine ⟨l,_,_,_,rfl,rfl,SqL.of (b1 _ _ hns nlp),hy,?_⟩;have cc:x="box"\/x="long":=by
    rcases Bool.or_eq_true _ _ ▸ c with c | c
    ·exact .inl (of_decide_eq_true c)
    ·exact .inr (of_decide_eq_true c)
   rcases cc with rfl | rfl
   ·exact fin (bL.trans b1) pu1 (fun G t _ e=>.box e (ns6 y my)) (by show 2<=3; decide)
   ·exact fin (bL.trans b1) pu1 (fun G t _ e=>.long e (ns6 y my)) (by show 2<=3; decide)
  refine aB ?_;refine ph (xT rfl) (fun c2=>?_) (fun c2=>?_)
  ·refine ⟨_,rfl,_,rfl,p,2,rfl,puL,by decide,by decide,fun r G1 r0 r1' pu1 b1=>?_⟩;have:=of_decide_eq_true c2;subst this;exact fin (bL.trans b1) pu1 (fun G t _ e=>.got e (by omega)) (by show 2<=3; decide)
  refine ⟨_,rfl,⟨by show 1<=ax; omega,fun t1 ht1=>?_⟩⟩;have s1:=aD ht1 (.tup [V.str x]);refine ⟨_,rfl,p,rfl,puL.same s1,fun z G2 z1 z2 pu2 b2=>⟨by show 2<=ax; omega,fun t2 ht2=>⟨by show 2<=ax; omega,fun l3 hl3=>?_⟩⟩⟩;have s2:=aD ht2 (.tup [V.str "number",V.int z]);have s3:=aD hl3 (.lst [V.ref t1,V.ref t2]);have h1:=s3 _ _ (s2 _ _ (b2 _ _ (show upd GL t1 (.tup [V.str x]) t1=_ from ao) (om puL ht1)));have h2:=s3 _ _ (show upd G2 t2 (.tup [V.str "number",V.int z]) t2=_ from ao);have pu4:=(pu2.same s2).same s3;have b4:=(((bL.same s1).trans b2).same s2).same s3;have h3:upd (upd G2 t2 (.tup [V.str "number",V.int z])) l3 (.lst [V.ref t1,V.ref t2]) l3=_:=ao;generalize upd (upd G2 t2 (.tup [V.str "number",V.int z])) l3 (.lst [V.ref t1,V.ref t2])=G4 at h1 h2 h3 pu4 b4 |-
  rcases FU x mx with rfl | rfl | rfl | rfl | rfl
  ·exact ⟨_,rfl,rfl,.inr ⟨_,rfl,l3,_,_,_,rfl,rfl,SqL.of h3,rfl,q _ _ _ (.num h2 ⟨z1,z2⟩) pu4 b4⟩⟩
  ·exact absurd c (by decide +kernel)
  ·exact absurd c (by decide +kernel)
  ·exact absurd c2 (by decide +kernel)
  ·exact ⟨_,rfl,rfl,.inr ⟨_,rfl,l3,_,_,_,rfl,rfl,SqL.of h3,rfl,q _ _ _ (.now h1) pu4 b4⟩⟩
 have cm:¬ m' + 1 < 3:=by
  have:=(Bool.or_eq_false_iff.mp c).1;have:=of_decide_eq_false this;omega
 refine c7 ?_;dsimp only;refine aB (bT ?_);refine ⟨by show 7<=ax; omega,fun lw hlw=>?_⟩;have sl:=aD hlw (.lst [V.str "plus",V.str "less",V.str "times",V.str "part",V.str "rest",V.str "below",V.str "same"]);refine ⟨_,rfl,p,7,rfl,puG.same sl,by decide,by decide,fun r G2 r0 r1' pu2 b2=>?_⟩;obtain ⟨x,hx,mx⟩:=sk (bs:=El) r0 (show r < 7 from r1');refine ⟨lw,_,_,_,rfl,rfl,SqL.of (b2 _ _ ao (om puG hlw)),hx,aG ?_⟩;dsimp only;have b02:=(bG.same sl).trans b2;obtain ⟨mk,hmk⟩:∃ mk,oN.lookup x=some mk:=ou.mp (Em x mx);refine aB (bT ?_);refine ⟨_,rfl,_,rfl,_,_,rfl,rfl,p,_,rfl,pu2,by omega,by omega,fun r3 G3 r30 r31 pu3 b3=>⟨_,_,rfl,rfl,aG ?_⟩⟩;dsimp only;have b03:=b02.trans b3;obtain ⟨k,rfl⟩:∃ k:Nat,r3=(k:Int):=⟨r3.toNat,by omega⟩;refine aB (bT ?_);refine ⟨_,rfl,_,rfl,_,rfl,p,l,1 + k,(by rw [Int.natCast_add]; rfl),pu3,nm.but pu b03,by omega,by omega,fun v1 s1 G4 F1 pu4 b4=>aG ?_⟩;dsimp only;have b04:=b03.trans b4;refine ⟨_,rfl,_,rfl,_,rfl,_,rfl,_,rfl,_,_,rfl,rfl,_,rfl,_,_,rfl,rfl,p,l,m' - (1 + k),?_,pu4,nm.but pu b04,by omega,by omega,fun v2 s2 G5 F2 pu5 b5=>?_⟩
 ·have:((m' + 1:Nat):Int) - 1 - (1 + (k:Int))=((m' - (1 + k):Nat):Int):=by omega
  show [V.ref p,V.ref l,V.int (((m' + 1:Nat):Int) - 1 - (1 + (k:Int)))]=_;rw [this]
 ·exact fin (b04.trans b5) pu5 (fun G t sg e=>.two e hmk ((F1.up (mJ pu4 b5)).same sg) (F2.same sg) (by omega)) (by show 3<=3; decide)
theorem Hd (D:Df K mg "_law_formula" iC pFo f fd) (DT:Df K mg "_law_take" fC pT fT fdT) (DW:Df K mg "_law_worth" ia pW fW fdW) (B:Bl mg):∀ n:Nat,n<=100->cQ P w K mg base CX0 (n + 2) f fd pFo (FV n)
 | 0,_=>⟨fun vs H Q E h=>(by obtain ⟨p,l,m,rfl,_,_,h1,h2,_⟩:=h; omega),fun A outer s H args us vs Q E a b c d h=>(by obtain ⟨p,l,m,rfl,_,_,h1,h2,_⟩:=h; omega)⟩
 | n + 1,h=>FW D DT DW B (by omega) (Hd D DT DW B n (by omega))
end
inductive Fo where
 | num (z:Int)
 | box (x:Str)
 | long (x:Str)
 | got (g:Int)
 | now
 | two (k m:Str) (a b:Fo)
 deriving DecidableEq
def Fo.ws:Fo->List Str
 | .num z=>[ba (toString z)]
 | .box x=>["."++x]
 | .long x=>["#"++x]
 | .got g=>["$"++ba (toString g)]
 | .now=>["@"]
 | .two _ m a b=>m :: (a.ws++b.ws)
def Fo.n:Fo->Nat
 | .two _ _ a b=>1 + a.n + b.n
 | _=>1
def Fo.Ok:Fo->Prop
 | .num z=>Wo z
 | .box x=>Nam x
 | .long x=>Nam x
 | .got g=>g=0\/g=1
 | .now=>True
 | .two k m a b=>oN.lookup k=some m/\a.Ok/\b.Ok
inductive gU (H:Hp):Fo->V->Prop where
 | num {t z}:H t=some (.tup [.str "number",.int z])->gU H (.num z) (.ref t)
 | box {t x}:H t=some (.tup [.str "box",.str x])->gU H (.box x) (.ref t)
 | long {t x}:H t=some (.tup [.str "long",.str x])->gU H (.long x) (.ref t)
 | got {t g}:H t=some (.tup [.str "got",.int g])->gU H (.got g) (.ref t)
 | now {t}:H t=some (.tup [.str "now"])->gU H .now (.ref t)
 | two {t k m a b x y}:H t=some (.tup [.str k,x,y])->gU H a x->gU H b y->gU H (.two k m a b) (.ref t)
theorem gU.up {H H':Hp} {f:Fo} {v:V} (h:gU H f v) (k:∀ t xs,H t=some (.tup xs)->H' t=some (.tup xs)):gU H' f v:=by
 induction h with
 | num a=>exact .num (k _ _ a)
 | box a=>exact .box (k _ _ a)
 | long a=>exact .long (k _ _ a)
 | got a=>exact .got (k _ _ a)
 | now a=>exact .now (k _ _ a)
 | two a _ _ ih1 ih2=>exact .two (k _ _ a) ih1 ih2
theorem gU.same {H H':Hp} {f:Fo} {v:V} (h:gU H f v) (k:cB H H'):gU H' f v:=h.up fun _ _ e=>k _ _ e
theorem Fo.ws_ne (f:Fo):f.ws≠[]:=by
 cases f <;> simp [Fo.ws]
theorem Fo.ws_len (f:Fo):f.ws.length=f.n:=by
 induction f with
 | two k m a b ih1 ih2 =>
  show (m :: (a.ws++b.ws)).length=1 + a.n + b.n;rw [aE,ae,ih1,ih2];omega
 | _=>rfl
theorem Fo.pos (f:Fo):0 < f.n:=by
 rw [<- f.ws_len];exact fj.mpr f.ws_ne
theorem qt (z:Str):∀ {xs ys:List Str},xs≠[]->ys≠[]->bB z (xs++ys)=bB z [bB z xs,bB z ys]
 | [],_,h,_=>absurd rfl h
 | [x],[],_,h=>absurd rfl h
 | [x],y :: ys,_,_=>by
  show bB z (x :: y :: ys)=_;rw [cR,cR];rfl
 | x :: x' :: xs,ys,_,h=>by
  have ih:=qt z (xs:=x' :: xs) (by simp) h;show bB z (x :: x' :: (xs++ys))=_;rw [cR,cR,cR];rw [show bB z (x' :: (xs++ys))=_ from ih,cR];simp only [iE]
theorem FI.fo {H:Hp} {n:Nat} {v:V} {s:Str} (h:FI H n v s):∃ f:Fo,gU H f v/\f.Ok/\f.n<=n/\s=bB " " f.ws:=by
 induction h with
 | @num t z n a b=>exact ⟨.num z,.num a,b,jw (aR _),rfl⟩
 | @box t x n a b=>exact ⟨.box x,.box a,b,jw (aR _),rfl⟩
 | @long t x n a b=>exact ⟨.long x,.long a,b,jw (aR _),rfl⟩
 | @got t g n a b=>exact ⟨.got g,.got a,b,jw (aR _),rfl⟩
 | @now t n a=>exact ⟨.now,.now a,trivial,jw (aR _),rfl⟩
 | @two t k m a b s1 s2 n1 n2 n e mk _ _ l ih1 ih2 =>
  obtain ⟨f1,i1,o1,l1,rfl⟩:=ih1;obtain ⟨f2,i2,o2,l2,rfl⟩:=ih2;refine ⟨.two k m f1 f2,.two e i1 i2,⟨mk,o1,o2⟩,by show 1 + f1.n + f2.n<=n; omega,?_⟩;show bB " " [m,bB " " f1.ws,bB " " f2.ws]=bB " " (m :: (f1.ws++f2.ws));have ne:f1.ws++f2.ws≠[]:=by simp [f1.ws_ne]
  obtain ⟨w,r,e⟩:∃ w r,f1.ws++f2.ws=w :: r:=by
   cases q:f1.ws++f2.ws with
   | nil=>exact absurd q ne
   | cons w r=>exact ⟨w,r,rfl⟩
  have r1:bB " " (m :: (f1.ws++f2.ws))=m++" "++bB " " (f1.ws++f2.ws):=by rw [e,cR]
  rw [r1,qt " " f1.ws_ne f2.ws_ne];exact cR " " m _ _
theorem tj (z:Str):∀ ys:List Str,bB z ys=lN z ys
 | []=>by
  show (⟨_⟩:Str)=uA;rfl
 | [x]=>rfl
 | x :: y :: ys=>by
  rw [cR,tj z (y :: ys)];rfl
theorem En {c:Nat}:∀ {p q A B:List Nat},c∉p->c∉q->p++c :: A=q++c :: B->p=q/\A=B
 | [],[],_,_,_,_,h=>⟨rfl,(dv h).2⟩
 | [],y :: q,_,_,_,hq,h=>absurd ((dv h).1 ▸ aw ..) hq
 | x :: p,[],_,_,hp,_,h=>absurd ((dv h).1 ▸ aw ..) hp
 | x :: p,y :: q,A,B,hp,hq,h=>by
  obtain ⟨h1,h2⟩:=dv h;obtain ⟨h3,h4⟩:=En (fun z=>hp (ar _ z)) (fun z=>hq (ar _ z)) h2;exact ⟨by rw [h1,h3],h4⟩
theorem join_list (c:Nat) (p q:Str) (r:List Str):(lN ⟨#[c]⟩ (p :: q :: r)).cps.toList=p.cps.toList++c :: (lN ⟨#[c]⟩ (q :: r)).cps.toList:=by
 show ((p.cps++#[c])++(lN ⟨#[c]⟩ (q :: r)).cps).toList=_;simp
theorem vg (c:Nat):∀ {ps qs:List Str},ps≠[]->qs≠[]->(∀ p∈ps,c∉p.cps.toList)->(∀ p∈qs,c∉p.cps.toList)->(lN ⟨#[c]⟩ ps).cps.toList=(lN ⟨#[c]⟩ qs).cps.toList->ps=qs
 | [],_,h,_,_,_,_=>absurd rfl h
 | _ :: _,[],_,h,_,_,_=>absurd rfl h
 | [p],[q],_,_,_,_,h=>by
  have e:p=q:=kz (hV.mp h);rw [e]
 | [p],q :: q' :: qs,_,_,hp,_,h=>by
  rw [join_list] at h;exact absurd (show c∈p.cps.toList by rw [show p.cps.toList=_ from h]; simp) (hp p (aw ..))
 | p :: p' :: ps,[q],_,_,_,hq,h=>by
  rw [join_list] at h;exact absurd (show c∈q.cps.toList by rw [show q.cps.toList=_ from h.symm]; simp) (hq q (aw ..))
 | p :: p' :: ps,q :: q' :: qs,_,_,hp,hq,h=>by
  rw [join_list,join_list] at h;obtain ⟨h1,h2⟩:=En (hp p (aw ..)) (hq q (aw ..)) h;have e:p=q:=kz (hV.mp h1);rw [e,vg c (by simp) (by simp) (fun x hx=>hp x (ar _ hx)) (fun x hx=>hq x (ar _ hx)) h2]
theorem vh {ws:List Str} (ne:ws≠[]) (h:∀ w∈ws,32∉w.cps.toList):nJ (bB " " ws) " "=ws:=by
 have e0:(" ":Str)=⟨#[32]⟩:=by decide
 rw [e0,tj];have j:=Am (lN ⟨#[32]⟩ ws) ⟨#[32]⟩;have p:=uo (lN ⟨#[32]⟩ ws) ⟨#[32]⟩;exact vg 32 (fj.mp p) ne (fun w hw=>An _ 32 w hw) h (congrArg (fun x:Str=>x.cps.toList) j)
def gO (w:Str) (lo hi:Int):Option Int:=if w.length > 21 then none else
 match dH w with
 | none=>none
 | some z=>if ba (toString z)≠w\/z < lo\/hi < z then none else some z
def eG (w:Str):Bool:=decide (1<=w.length) && decide (w.length<=6) && w.cps.toList.all fun c=>decide (97<=c) && decide (c<=122)
def leafOf (w:Str):Option Fo:=
 if w="@" then some .now else
 if sw w "." && eG (dP w (some 1) none) then some (.box (dP w (some 1) none)) else
 if sw w "#" && eG (dP w (some 1) none) then some (.long (dP w (some 1) none)) else
 if w="$0" then some (.got 0) else if w="$1" then some (.got 1) else
 (gO w (-(10 ^ 15)) (10 ^ 15)).map .num
def wF:List (Str×Str):=[("+","plus"),("-","less"),("*","times"),("/","part"),("|","rest"),("<","below"),("=","same")]
def hJ (w:Str) (st:List Fo):Option (List Fo):=
 match leafOf w with
 | some f=>some (f :: st)
 | none=>match wF.lookup w,st with
  | some k,a :: b :: r=>some (.two k w a b :: r)
  | _,_=>none
def iL:List Str->Option (List Fo)
 | []=>some []
 | w :: ws=>(iL ws).bind (hJ w)
theorem vi:∀ q∈oN,leafOf q.2=none/\wF.lookup q.2=some q.1/\32∉q.2.cps.toList:=by decide +kernel
theorem qu (c:Nat) (x:Str):((⟨#[c]⟩:Str)++x).cps.toList=c :: x.cps.toList:=by
 show (#[c]++x.cps).toList=_;simp
theorem yZ (x:Str) (c:Nat):sw x ⟨#[c]⟩=decide (x.cps.toList[0]?=some c):=by
 have h:=StrLaws.subAt_one x c 0;unfold sw
 by_cases z:x.cps.toList[0]?=some c
 ·rw [decide_eq_true z];obtain ⟨h1,h2⟩:=h.mpr z;rw [decide_eq_true h1,h2];rfl
 ·rw [decide_eq_false z]
  cases e:(decide (0 + (⟨#[c]⟩:Str).length<=x.length) && qS x ⟨#[c]⟩ 0) with
  | false=>rfl
  | true =>
   obtain ⟨h1,h2⟩:=gb.mp e;exact absurd (h.mp ⟨of_decide_eq_true h1,h2⟩) z
theorem wG (c:Nat) (x:Str):dP ((⟨#[c]⟩:Str)++x) (some 1) none=x:=by
 have l:(((⟨#[c]⟩:Str)++x).length:Int)=x.length + 1:=by
  rw [aL];show ((1 + x.length:Nat):Int)=_;omega
 rw [kT (by decide) (by rw [l]; omega) rfl,qu];apply kz;show (((c :: x.cps.toList).drop 1).take _).toArray=x.cps;have e:((((⟨#[c]⟩:Str)++x).length:Int) - 1).toNat=x.cps.toList.length:=by
  rw [l,bY];show ((x.length:Int) + 1 - 1).toNat=x.length;omega
 rw [e,List.drop_one,List.tail_cons,bZ,lp]
theorem kA {x:Str} (h:Nam x):eG x=true:=by
 unfold eG;rw [decide_eq_true h.1,decide_eq_true h.2.1];show (x.cps.toList.all _)=true;rw [kQ];intro c hc;obtain ⟨h1,h2⟩:=h.2.2 c hc;rw [decide_eq_true h1,decide_eq_true h2];rfl
theorem y7:(".":Str)=⟨#[46]⟩/\("#":Str)=⟨#[35]⟩/\("@":Str)=⟨#[64]⟩/\("$0":Str)=⟨#[36,48]⟩/\("$1":Str)=⟨#[36,49]⟩/\("$":Str)=⟨#[36]⟩:=by decide +kernel
theorem su {x y:Str} {a b:Nat} (h:x.cps.toList[0]?=some a) (k:y.cps.toList[0]?=some b) (n:a≠b):¬ x=y:=fun e=>by
 rw [e,k] at h
 cases h;exact n rfl
theorem oO {z:Int} (h:Wo z):∃ c cs,(ba (toString z)).cps.toList=c :: cs/\(c=45\/(48<=c/\c<=57))/\(∀ d∈cs,48<=d/\d<=57)/\dH (ba (toString z))=some z:=by
 have ll:=gu h
 by_cases c0:0<=z
 ·obtain ⟨m,rfl⟩:=Int.eq_ofNat_of_zero_le c0;have e:=vx m;have hd:A7 ((nv 10 m).map p0):=fun c hc=>by
   obtain ⟨ch,hch,rfl⟩:=cO.mp hc;exact tK (wH (by decide) (by decide) hch)
  have ne:(nv 10 m).map p0≠[]:=fun z=>by
   have h:=toDigits_len_ge 10 m;rw [B7.mp z] at h;exact absurd h (by decide)
  have it:=PySem.intText_digits (x:=ba (toString ((m:Nat):Int))) (by rw [e]; exact hd) (by rw [e]; exact ne) (by omega);rw [e,vO] at it
  cases q:(nv 10 m).map p0 with
  | nil=>exact absurd q ne
  | cons c cs =>
   rw [q] at hd e;exact ⟨c,cs,e,.inr (hd c (aw ..)),fun d hd'=>hd d (ar _ hd'),it⟩
 ·have zn:z < 0:=by omega
  obtain ⟨m,hm⟩:∃ m:Nat,0 - z=(m:Int):=⟨(0 - z).toNat,by omega⟩;have e0:(ba (toString z)).cps.toList=45 :: (nv 10 m).map p0:=by
   rw [PyProof.Rows.toString_neg zn,hm,sv,String.toList_append,bA,<- sv (toString ((m:Nat):Int)),vx];rfl
  have hd:A7 ((nv 10 m).map p0):=fun c hc=>by
   obtain ⟨ch,hch,rfl⟩:=cO.mp hc;exact tK (wH (by decide) (by decide) hch)
  have ne:(nv 10 m).map p0≠[]:=fun z=>by
   have h:=toDigits_len_ge 10 m;rw [B7.mp z] at h;exact absurd h (by decide)
  have it:=PySem.intText_neg e0 hd ne (by omega);rw [vO] at it;refine ⟨45,_,e0,.inl rfl,hd,?_⟩;rw [it]
  congr 1
  omega
theorem Eo {z:Int} (h:Wo z):leafOf (ba (toString z))=some (.num z):=by
 obtain ⟨c,cs,e,hc,_,it⟩:=oO h;have hd:(ba (toString z)).cps.toList[0]?=some c:=by rw [e]; rfl
 obtain ⟨k1,k2,k3,k4,k5,_⟩:=y7;have ll:=gu h;unfold leafOf;rw [if_neg (su (b:=64) hd (by rw [k3]; rfl) (by omega)),k1,k2,yZ,yZ,hd];rw [decide_eq_false (show ¬ some c=some 46 from fun z=>by cases z; omega),decide_eq_false (show ¬ some c=some 35 from fun z=>by cases z; omega),qV,if_neg bc,if_neg bc];rw [if_neg (su (b:=36) hd (by rw [k4]; rfl) (by omega)),if_neg (su (b:=36) hd (by rw [k5]; rfl) (by omega))];unfold gO;rw [if_neg (by omega),it];show Jw Fo.num (if _ then none else some z)=_;rw [if_neg]
 ·rfl
 ·rintro (h1 | h1 | h1)
  ·exact h1 rfl
  ·have:=h.1;omega
  ·have:=h.2;omega
theorem Ep {x:Str} (h:Nam x):leafOf ("."++x)=some (.box x):=by
 obtain ⟨k1,k2,k3,k4,k5,_⟩:=y7;have hd:((".":Str)++x).cps.toList[0]?=some 46:=by rw [k1,qu]; rfl
 unfold leafOf;rw [if_neg (su (b:=64) hd (by rw [k3]; rfl) (by decide)),k1,yZ];rw [k1] at hd;rw [hd,decide_eq_true rfl,wG,kA h];rfl
theorem B8 {x:Str} (h:Nam x):leafOf ("#"++x)=some (.long x):=by
 obtain ⟨k1,k2,k3,k4,k5,_⟩:=y7;have hd:(("#":Str)++x).cps.toList[0]?=some 35:=by rw [k2,qu]; rfl
 unfold leafOf;rw [if_neg (su (b:=64) hd (by rw [k3]; rfl) (by decide)),k1,k2,yZ,yZ];rw [k2] at hd;rw [hd,decide_eq_false (show ¬ (some 35:Option Nat)=some 46 by decide),qV,if_neg bc,decide_eq_true rfl,wG,kA h];rfl
theorem Er {g:Int} (h:g=0\/g=1):leafOf ("$"++ba (toString g))=some (.got g):=by
 rcases h with rfl | rfl <;> decide +kernel
theorem Es:leafOf "@"=some .now:=by decide +kernel
theorem oP:∀ {f:Fo},f.Ok->∀ {rest:List Str} {st:List Fo},iL rest=some st->iL (f.ws++rest)=some (f :: st)
 | .num z,h,rest,st,p=>by
  show (iL rest).bind (hJ (ba (toString z)))=_;rw [p];show hJ _ _=_;unfold hJ;rw [Eo h]
 | .box x,h,rest,st,p=>by
  show (iL rest).bind (hJ ("."++x))=_;rw [p];show hJ _ _=_;unfold hJ;rw [Ep h]
 | .long x,h,rest,st,p=>by
  show (iL rest).bind (hJ ("#"++x))=_;rw [p];show hJ _ _=_;unfold hJ;rw [B8 h]
 | .got g,h,rest,st,p=>by
  show (iL rest).bind (hJ ("$"++ba (toString g)))=_;rw [p];show hJ _ _=_;unfold hJ;rw [Er h]
 | .now,h,rest,st,p=>by
  show (iL rest).bind (hJ "@")=_;rw [p];show hJ "@" st=_;unfold hJ;rw [Es]
 | .two k m a b,h,rest,st,p=>by
  obtain ⟨mk,ha,hb⟩:=h;have p1:=oP hb p;have p2:=oP ha p1;obtain ⟨l1,l2,_⟩:=vi _ (gN mk);show (iL ((a.ws++b.ws)++rest)).bind (hJ m)=_;rw [bo,p2];show hJ m _=_;unfold hJ;dsimp only at l1 l2;rw [l1,l2]
theorem B9:∀ q∈oN,∀ c∈q.2.cps.toList,c < 128:=by decide +kernel
theorem mK {f:Fo} (h:f.Ok):∀ w∈f.ws,32∉w.cps.toList/\(∀ c∈w.cps.toList,c < 128)/\w.length<=17:=by
 have name:∀ {c:Nat} {x:Str},Nam x->c < 128->c≠32->∀ w∈[(⟨#[c]⟩:Str)++x],32∉w.cps.toList/\(∀ c∈w.cps.toList,c < 128)/\w.length<=17:=fun {c x} hx h1 h2 w hw=>by
  rw [az.mp hw,qu];refine ⟨fun z=>?_,fun d hd=>?_,?_⟩
  ·rcases au.mp z with z | z
   ·exact h2 z.symm
   ·have:=hx.2.2 _ z;omega
  ·rcases au.mp hd with z | z
   ·rw [z];exact h1
   ·have:=hx.2.2 _ z;omega
  ·rw [aL];have:=hx.2.1;show 1 + x.length<=17;omega
 obtain ⟨k1,k2,k3,k4,k5,k6⟩:=y7
 induction f with
 | num z =>
  intro w hw;rw [az.mp hw];obtain ⟨c,cs,e,hc,hcs,_⟩:=oO h;rw [e];refine ⟨fun z=>?_,fun d hd=>?_,gu h⟩
  ·rcases au.mp z with z | z
   ·omega
   ·have:=hcs _ z;omega
  ·rcases au.mp hd with z | z
   ·omega
   ·have:=hcs _ z;omega
 | box x =>
  show ∀ w∈[(".":Str)++x],_;rw [k1];exact name h (by decide) (by decide)
 | long x =>
  show ∀ w∈[("#":Str)++x],_;rw [k2];exact name h (by decide) (by decide)
 | got g =>
  intro w hw;rw [az.mp hw]
  rcases h with rfl | rfl <;> decide +kernel
 | now =>
  intro w hw;rw [az.mp hw];decide +kernel
 | two k m a b ih1 ih2 =>
  obtain ⟨mk,ha,hb⟩:=h;intro w hw
  rcases au.mp hw with z | z
  ·rw [z];have e1:=vi _ (gN mk);have e2:=(sj _ (gN mk)).2.1;have e3:=B9 _ (gN mk);dsimp only at e1 e2 e3;exact ⟨e1.2.2,e3,by omega⟩
  ·rcases aU.mp z with z | z
   ·exact ih1 ha w z
   ·exact ih2 hb w z
theorem boot_all:eE "all"=some (.builtin "all"):=by decide +kernel
theorem gU.tup {H:Hp} {f:Fo} {v:V} (h:gU H f v):∃ t xs,v=.ref t/\H t=some (.tup xs)/\((∃ k m a b x y,f=.two k m a b/\xs=[.str k,x,y]/\gU H a x/\gU H b y)\/(f.n=1/\xs.length<=2)):=by
 cases h with
 | num e=>exact ⟨_,_,rfl,e,.inr ⟨rfl,aF 2⟩⟩
 | box e=>exact ⟨_,_,rfl,e,.inr ⟨rfl,aF 2⟩⟩
 | long e=>exact ⟨_,_,rfl,e,.inr ⟨rfl,aF 2⟩⟩
 | got e=>exact ⟨_,_,rfl,e,.inr ⟨rfl,aF 2⟩⟩
 | now e=>exact ⟨_,_,rfl,e,.inr ⟨rfl,by decide⟩⟩
 | two e a b=>exact ⟨_,_,rfl,e,.inl ⟨_,_,_,_,_,_,rfl,rfl,a,b⟩⟩
theorem Ca (a b:Int):decide (V.int a=V.int b)=decide (a=b):=by
 by_cases c:a=b
 ·rw [c,decide_eq_true rfl,decide_eq_true rfl]
 ·rw [decide_eq_false c,decide_eq_false fun z=>c (V.int.inj z)]
theorem rA (a b:Str):decide (V.str a=V.str b)=decide (a=b):=by
 by_cases c:a=b
 ·rw [c,decide_eq_true rfl,decide_eq_true rfl]
 ·rw [decide_eq_false c,decide_eq_false fun z=>c (V.str.inj z)]
section
variable {P:aS} {w:bN} {K:ai} {mg:Str->Option ag} {base:cI} {f fN fW fI:aj} {fd fdN fdW fdI:cf}
seal L2.PS L2.PSs L2.PE L2.PA L2.PT L2.PW L2.PI L2.PG L2.PGs L2.PC L2.PSC L2.PSsC L2.PEC
inductive He (n:Nat) (vs:List V) (H:Hp) (Q:VK) (_e:XK):Prop where
 | mk (g:Fo) (v:V) (_:vs=[v]) (_:gU H g v) (_:g.n<=n) (_:∀ H',cB H H'->Q (.int g.n) H'):He n vs H Q _e
def FY (n:Nat):Sp:=fun vs H Q _e=>He n vs H Q _e
abbrev nPi:List Str:=["formula"]
abbrev pPi:List Str:=["formula"]
theorem scPi:cH nPi pPi (bf mD):=⟨rfl,rfl,rfl,by decide +kernel,rfl,by decide +kernel,by decide +kernel⟩
theorem FZ {n:Nat} (D:Df K mg "parts_in" mD pPi f fd) (B:Bl mg) (hn:n<=1000) (GR:cQ P w K mg base CX0 n f fd pPi (FY n)):cQ P w K mg base CX0 (n + 1) f fd pPi (FY (n + 1)):=by
 refine D.F.ok scPi (fun vs H Q E h=>?_) (fun cdv A outer s H vs Q E hr h=>?_)
 ·obtain ⟨g,v,rfl,_⟩:=h;rfl
 obtain ⟨g,v,rfl,hF,gn,q⟩:=h;refine ⟨_,aH (df (aZ d8 (cY (dN K (by rfl)) (by rfl) B.len bX (bI (pv 0) ak)) aq (bD _)) (aI (bE (cb gx (cb gx aq (bq GR hr (by rfl) D.m D.F.kp D.b .nil bQ (eK (bR cM (pv 0) aq (fun _ _=>rfl)) ak))) (bq GR hr (by rfl) D.m D.F.kp D.b .nil bQ (eK (bR cM (pv 0) aq (fun _ _=>rfl)) ak))))) bO)
  (aI (bE aq)),?_⟩
 obtain ⟨t,xs,rfl,ht,c⟩:=hF.tup;refine aB ?_;refine ⟨_,rfl,t,xs,rfl,.inr (SqT.of ht),rfl,_,rfl,?_⟩
 rcases c with ⟨k,m,a,b,x,y,rfl,rfl,fa,fb⟩ | ⟨g1,l2⟩
 ·rw [Ca,decide_eq_true (show ((([V.str k,x,y]:List V).length:Nat):Int)=3 from rfl)];refine cV ?_;have gn':1 + a.n + b.n<=n + 1:=gn;refine eS ⟨_,rfl,_,_,_,_,rfl,rfl,SqT.of ht,rfl,a,x,rfl,fa,by omega,fun H1 s1=>?_⟩;refine ⟨_,_,rfl,rfl,_,rfl,_,_,_,_,rfl,rfl,SqT.of (s1 _ _ ht),rfl,b,y,rfl,fb.same s1,by omega,fun H2 s2=>?_⟩;refine ⟨_,_,rfl,rfl,?_⟩;have e:(1:Int) + (a.n:Int) + (b.n:Int)=((1 + a.n + b.n:Nat):Int):=by omega
  show Q (.int ((1:Int) + (a.n:Int) + (b.n:Int))) H2;rw [e];exact q _ (s1.trans s2)
 ·rw [Ca,decide_eq_false (by omega)];refine du ?_;have e:(1:Int)=(g.n:Int):=by rw [g1]; rfl
  show Q (.int 1) H;rw [e];exact q _ (cB.refl _)
theorem Hf (D:Df K mg "parts_in" mD pPi f fd) (B:Bl mg):∀ n:Nat,n<=1000->cQ P w K mg base CX0 n f fd pPi (FY n)
 | 0,_=>⟨fun vs H Q E h=>(by obtain ⟨g,v,rfl,_,h,_⟩:=h; have:=g.pos; omega),fun A outer s H args us vs Q E a b c d h=>(by obtain ⟨g,v,rfl,_,h,_⟩:=h; have:=g.pos; omega)⟩
 | n + 1,h=>FZ D B (by omega) (Hf D B n (by omega))
theorem Ao {x:Str} {n i:Nat} {g:TG} {tc:L2.TT} {te:TE} {σ:St} {H:Hp} {Q:VK} (hv:σ[i]?=some (some (.str x))) (Pv:Nat->List V->Hp->Prop) (h0:Pv 0 [] H) (hl:∀ i ys H,i<=x.cps.size->Pv i ys H->ys.length < ax)
  (hs:∀ i c ys H,x.cps[i]?=some c->Pv i ys H->g (.str ⟨#[c]⟩) (aJ n none++σ) H fun σ2 H2=>σ2.drop n=σ/\tc σ2 H2 fun b H3=>if b=true then te σ2 H3 fun y H4=>Pv (i + 1) (ys++[y]) H4 else Pv (i + 1) ys H3)
  (hd:∀ ys H,Pv x.cps.size ys H->∀ p,H p=none->Q (.ref p) (upd H p (.lst ys))):nG n (GC (kH i)) g tc te σ H Q:=⟨_,hv,x,rfl,BQ Pv h0 hl hs hd⟩
def Cb:Sp:=fun vs H Q _=>∃ x:Str,vs=[.str x]/\x.length<=1000/\∀ H',cB H H'->Q (.bl (eG x)) H'
abbrev nNm:List Str:=["word"]
abbrev pNm:List Str:=["word"]
theorem scNm:cH nNm pNm (bf jI):=⟨rfl,rfl,rfl,by decide +kernel,rfl,by decide +kernel,by decide +kernel⟩
theorem ndNm:((["sign"]:List Str)++nNm).Nodup:=by decide +kernel
theorem Et (a b:Nat):decide (((⟨#[a]⟩:Str).cps.toList) < (⟨#[b]⟩:Str).cps.toList)=decide (a < b):=by
 show decide ([a] < [b])=decide (a < b)
 by_cases c:a < b
 ·rw [decide_eq_true c,decide_eq_true];exact List.Lex.rel c
 ·rw [decide_eq_false c,decide_eq_false];intro h
  cases h with
  | rel h=>exact c h
  | cons h=>cases h
theorem A8 (D:Df K mg "is_name" jI pNm f fd) (B:Bl mg) (MA:mg "all"=none):cQ P w K mg base CX0 1 f fd pNm Cb:=by
 refine D.F.ok scNm (fun vs H Q E h=>?_) (fun cdv A outer s H vs Q E hr h=>?_)
 ·obtain ⟨x,rfl,_⟩:=h;rfl
 obtain ⟨x,rfl,xl,q⟩:=h;refine ⟨_,aI (bE (H9 (yq AH AH aq (cY i8 (by rfl) B.len bX (bI (pv 0) ak)) aq) (HZ (cY (BU rfl) (by rfl) MA boot_all (eJ (kE ["sign"] (gE.open (NN:=nNm) (N:=nNm) (sc:=bf jI) rfl rfl (by decide +kernel) rfl (by decide +kernel) (by decide +kernel) rfl (by decide +kernel)) rfl (FA (pv 0)) (fun _ _ _ _=>cT (i:=0) ndNm rfl (Or.inl rfl)) (fun _ _ _ _=>ic) (fun _ _ _ _=>yq wy wy aO (pv 0) aO)) ak))))),?_⟩;have big:=dG;refine eS ?_;have ca:("a":Str)=⟨#[97]⟩/\("z":Str)=⟨#[122]⟩:=by decide
 obtain ⟨c1,c2⟩:=ca;refine ⟨_,rfl,x,rfl,by omega,1,_,rfl,rfl,_,rfl,?_⟩;have no:eG x=false->Q (.bl false) H:=fun e=>by
  have:=q H (cB.refl _);rw [e] at this;exact this
 rcases nj x.length 1 with h1 | h1
 ·rw [decide_eq_false (show ¬ (1:Int)<=(x.length:Int) by omega)];refine du ⟨_,rfl,du (no ?_)⟩;unfold eG;rw [decide_eq_false (show ¬ 1<=x.length by omega)];rfl
 rw [decide_eq_true (show (1:Int)<=(x.length:Int) by omega)];refine cV ⟨_,_,rfl,rfl,_,rfl,?_⟩
 rcases nj 6 x.length with h2 | h2
 ·rw [decide_eq_false (show ¬ (x.length:Int)<=6 by omega)];refine du (no ?_);unfold eG;rw [decide_eq_false (show ¬ x.length<=6 by omega),jo];rfl
 rw [decide_eq_true (show (x.length:Int)<=6 by omega)];refine cV ?_;have cs:x.cps.size<=6:=h2;dsimp only [tCB,gX];refine Ao (x:=x) rfl (fun i ys G=>ys=(x.cps.toList.take i).map (fun c=>V.bl (decide (97<=c) && decide (c<=122)))/\G=H) ⟨rfl,rfl⟩ ?_ ?_ ?_
 ·rintro i ys G hi ⟨rfl,rfl⟩;rw [aa,bP];omega
 ·rintro i c ys G hc ⟨rfl,rfl⟩;refine aG ⟨rfl,?_⟩;unfold rT;refine cV ?_;have hc':x.cps.toList[i]?=some c:=by rw [kD]; exact hc
  have nx:∀ b:Bool,(decide (97<=c) && decide (c<=122))=b->(x.cps.toList.take i).map (fun c=>V.bl (decide (97<=c) && decide (c<=122)))++[V.bl b]=(x.cps.toList.take (i + 1)).map (fun c=>V.bl (decide (97<=c) && decide (c<=122))):=fun b e=>by
   rw [Eu,hc',bA,<- e];rfl
  refine ⟨_,rfl,_,_,rfl,rfl,_,rfl,?_⟩;rw [c1,Et]
  by_cases k1:c < 97
  ·rw [decide_eq_true k1];exact du ⟨nx false (by rw [decide_eq_false (by omega)]; rfl),rfl⟩
  ·rw [decide_eq_false k1];refine cV ⟨_,_,rfl,rfl,?_⟩;rw [c2,Et]
   by_cases k2:122 < c
   ·rw [decide_eq_true k2];exact ⟨nx false (by rw [decide_eq_false (show ¬ c<=122 by omega),jo]),rfl⟩
   ·rw [decide_eq_false k2];exact ⟨nx true (by rw [decide_eq_true (show 97<=c by omega),decide_eq_true (show c<=122 by omega)]; rfl),rfl⟩
 ·rintro ys G ⟨rfl,rfl⟩ l hl;refine ⟨l,(x.cps.toList.take x.cps.size).map (fun c=>decide (97<=c) && decide (c<=122)),rfl,SqL.of (by rw [Jx]; exact ao),?_⟩;have:=q _ (aD hl (.lst ((x.cps.toList.take x.cps.size).map (fun c=>V.bl (decide (97<=c) && decide (c<=122))))));have e:eG x=((x.cps.toList.take x.cps.size).map (fun c=>decide (97<=c) && decide (c<=122))).all id:=by
   unfold eG;rw [decide_eq_true h1,decide_eq_true h2,show x.cps.size=x.cps.toList.length from (bY).symm,bZ,List.all_map];rfl
  rw [e] at this;exact this
end
open NumText in
theorem Ap {p q:Array Nat×Bool} {c:Nat} (h:lP 10 p c=some q) (hp:∀ d∈p.1,d < 10):∀ d∈q.1,d < 10:=by
 unfold lP at h
 repeat' split at h
 all_goals first
  |(cases h; exact hp)
  |(cases h
    intro d hd
    rcases Array.mem_push.mp hd with z | z
    ·exact hp d z
    ·omega)
  | cases h
open NumText in
theorem vj:∀ (cs:List Nat) {p q:Array Nat×Bool},cs.foldlM (lP 10) p=some q->(∀ d∈p.1,d < 10)->∀ d∈q.1,d < 10
 | [],p,q,h,hp=>by
  cases (b0 h:p=q);exact hp
 | c :: cs,p,q,h,hp=>by
  rw [List.foldlM_cons] at h
  cases hs:lP 10 p c with
  | none =>
   rw [hs] at h;exact absurd h (by simp)
  | some p' =>
   rw [hs] at h;exact vj cs (show cs.foldlM (lP 10) p'=some q from h) (Ap hs hp)
theorem wI:∀ (l:List Nat) (a:Nat),(∀ d∈l,d < 10)->l.foldl (fun acc d=>acc * 10 + d) a < (a + 1) * 10 ^ l.length
 | [],a,_=>by simp
 | d :: l,a,h=>by
  have ih:=wI l (a * 10 + d) fun x hx=>h x (ar _ hx);have hd:=h d (aw ..);rw [iK,aE,Nat.pow_succ];have e:(a * 10 + d + 1) * 10 ^ l.length<=((a + 1) * 10) * 10 ^ l.length:=ec _ (by omega);have e2:(a + 1) * (10 ^ l.length * 10)=((a + 1) * 10) * 10 ^ l.length:=by
   rw [Nat.mul_comm (10 ^ l.length) 10,<- Nat.mul_assoc]
  omega
open NumText in
theorem Aq {w:Str} {z:Int} (l:w.length<=21) (h:dH w=some z):z.natAbs < 10 ^ 21:=by
 unfold dH at h
 split at h
 ·cases hd:digits? 10 (core (tH w)) with
  | none =>
   rw [hd] at h
   cases h
  | some ds =>
   rw [hd] at h;dsimp only at h
   split at h
   ·cases h;have sz:ds.size<=21:=bC (digits_size hd) (bC (core_length _) (bC (seen_length w) l));have sm:∀ d∈ds.toList,d < 10:=by
     unfold digits? at hd
     cases hf:(core (tH w)).foldlM (lP 10) ((#[]:Array Nat),false) with
     | none =>
      rw [hf] at hd;exact absurd hd (by simp)
     | some q =>
      rw [hf] at hd;have h2:(if q.2=true then some q.1 else none)=some ds:=hd;have:=vj _ hf (fun d hd=>absurd hd (by simp))
      split at h2
      ·cases h2;intro d hd;exact this d (Array.mem_def.mpr hd)
      ·cases h2
    have v:=wI ds.toList 0 sm;rw [Array.foldl_toList,bY,ny,Nat.one_mul] at v;have le:10 ^ ds.size<=10 ^ 21:=Nat.pow_le_pow_right (by decide) sz;have fin:(worth (sign ((tH w).dropWhile blank)).1 ds).natAbs=ds.foldl (fun acc d=>acc * 10 + d) 0:=by
     unfold worth
     split <;> simp
    rw [fin];omega
   ·cases h
 ·cases h
theorem log_small {z:Int} (h:z.natAbs < 10 ^ 21):z.natAbs.log2 < 1920:=by
 by_cases c:z.natAbs=0
 ·rw [c];decide
 ·have h1:z.natAbs < 2 ^ 70:=tT h (by decide);have:=(BF c).mpr h1;omega
theorem Ar {w:Str} (l:w.length<=640) (h:∀ c∈w.cps.toList,c < 128):(k8 w).length<=10000:=by
 have:=StrLaws.reprText_len w fun c hc=>tT (h c hc) (by decide);omega
section
variable {P:aS} {w:bN} {K:ai} {mg:Str->Option ag} {base:cI} {f fN fW fI:aj} {fd fdN fdW fdI:cf}
seal L2.PS L2.PSs L2.PE L2.PA L2.PT L2.PW L2.PI L2.PG L2.PGs L2.PC L2.PSC L2.PSsC L2.PEC
def xU:Option Int->V
 | none=>.non
 | some z=>.int z
inductive Hg (vs:List V) (H:Hp) (Q:VK) (_e:XK):Prop where
 | mk (x:Str) (lo hi:Int) (_:vs=[.str x,.int lo,.int hi]) (_:(∀ c∈x.cps.toList,c < 128)) (_:x.length<=1000) (_:∀ H',cB H H'->Q (xU (gO x lo hi)) H'):Hg vs H Q _e
def F0:Sp:=fun vs H Q _e=>Hg vs H Q _e
abbrev nNi:List Str:=["word","least","most","number"]
abbrev pNi:List Str:=["word","least","most"]
theorem scNi:cH nNi pNi (bf iU):=⟨rfl,rfl,rfl,by decide +kernel,rfl,by decide +kernel,by decide +kernel⟩
theorem Ew (D:Df K mg "number_in" iU pNi f fd) (B:Bl mg) (MV:mg "ValueError"=none):dU P w K mg base CX0 1 f fd pNi F0:=by
 refine D.F.okC scNi (fun vs H Q E h=>?_) (fun cdv A outer s H vs Q E hr h=>?_)
 ·obtain ⟨x,lo,hi,rfl,_⟩:=h;rfl
 obtain ⟨x,lo,hi,rfl,asc,xl,q⟩:=h;refine ⟨_,aV (df (aZ tf (cY i8 (by rfl) B.len bX (bI (pv 0) ak)) aq (bD _)) (aI (bE dD)) bO).c
  (aV (Ae (j:=0) (i:=3) scNi.nd rfl (Or.inl rfl) (pv 0) (by rfl) B.int (by rfl) MV rfl (fun _=>aI (bE dD)))
  (aH (df ((jj (aZ rP (fA eW (by rfl) B.str boot_str (bI (pv 3) ak)) (pv 0) (bD _)) (jj (aZ pw (pv 3) (pv 1) (bD _)) (iP (aZ tf (pv 3) (pv 2) (bD _))))).pt) (aI (bE dD)) bO)
  (aI (bE (pv 3)))).c),?_⟩
 have big:=dG;have fin:∀ v,xU (gO x lo hi)=v->Q v H:=fun v e=>e ▸ q H (cB.refl _);refine aB ?_;refine ⟨_,rfl,x,rfl,by omega,_,_,rfl,rfl,_,rfl,?_⟩
 rcases nj 21 x.length with h1 | h1
 ·rw [decide_eq_true (show (21:Int) < (x.length:Int) by omega)];refine cV (fin _ ?_);unfold gO;rw [if_pos h1];rfl
 rw [decide_eq_false (show ¬ (21:Int) < (x.length:Int) by omega)];refine du ?_;dsimp only [dY];refine aB ⟨x,rfl,by omega,Ar (by omega) asc,fun z hz=>?_,fun hz=>?_⟩
 ·dsimp only;have rs:=Aq h1 hz;have ni:gO x lo hi=if ba (toString z)≠x\/z < lo\/hi < z then none else some z:=by
   unfold gO;rw [if_neg (by omega),hz]
  refine aB ?_;refine ⟨_,rfl,z,rfl,log_small rs,_,rfl,rfl,_,rfl,?_⟩;rw [rA]
  by_cases c1:ba (toString z)=x
  ·rw [decide_eq_true c1];refine du ?_;refine ⟨_,rfl,_,rfl,_,_,rfl,rfl,_,rfl,?_⟩
   by_cases c2:z < lo
   ·rw [decide_eq_true c2];exact cV (cV (fin _ (by rw [ni,if_pos (.inr (.inl c2))]; rfl)))
   ·rw [decide_eq_false c2];refine du ⟨_,rfl,_,rfl,_,_,rfl,rfl,_,rfl,?_⟩
    by_cases c3:hi < z
    ·rw [decide_eq_true c3];exact cV (fin _ (by rw [ni,if_pos (.inr (.inr c3))]; rfl))
    ·rw [decide_eq_false c3];refine du ?_;dsimp only [dY];refine eS ⟨_,rfl,fin _ ?_⟩;rw [ni,if_neg]
     ·rfl
     ·rintro (y | y | y)
      ·exact y c1
      ·exact c2 y
      ·exact c3 y
  ·rw [decide_eq_false c1];exact cV (cV (fin _ (by rw [ni,if_pos (.inl c1)]; rfl)))
 ·refine fin _ ?_;unfold gO;rw [if_neg (by omega),hz];rfl
def IZ:Sp:=fun vs H Q _=>∃ x:Str,vs=[.str x]/\(∀ c∈x.cps.toList,c < 128)/\x.length<=1000/\∀ H',cB H H'->Q (xU (gO x (-(10 ^ 15)) (10 ^ 15))) H'
abbrev nWi:List Str:=["word"]
abbrev pWi:List Str:=["word"]
theorem scWi:cH nWi pWi (bf mG):=⟨rfl,rfl,rfl,by decide +kernel,rfl,by decide +kernel,by decide +kernel⟩
theorem Hh (D:Df K mg "worth_in" mG pWi f fd) (DN:Df K mg "number_in" iU pNi fN fdN) (B:Bl mg) (MV:mg "ValueError"=none):dU P w K mg base CX0 2 f fd pWi IZ:=by
 have GN:dU P w K mg base CX0 1 fN fdN pNi F0:=Ew DN B MV;refine D.F.okC scWi (fun vs H Q E h=>?_) (fun cdv A outer s H vs Q E hr h=>?_)
 ·obtain ⟨x,rfl,_⟩:=h;rfl
 obtain ⟨x,rfl,asc,xl,q⟩:=h;have r1:dE 1 _:=hr;refine ⟨_,j4 (rY (dW GN r1 (by rfl) DN.m DN.F.kp DN.b .nil bQ (bI (pv 0) (eJ (AD w9 (cb qc aq aq)) (g9 (cb qc aq aq) ak))))),?_⟩;refine eS ?_;have cp:EY 10 15:=⟨by decide,by decide,by decide⟩;refine ⟨_,rfl,_,_,rfl,rfl,cp,_,rfl,_,_,rfl,rfl,cp,?_⟩;exact ⟨x,-(10 ^ 15),10 ^ 15,rfl,asc,xl,q⟩
theorem Cc (x:Str):(dP x (some 1) none).length<=x.length:=tZ x _ _
def spLf:Sp:=fun vs H Q _=>∃ x:Str,vs=[.str x]/\(∀ c∈x.cps.toList,c < 128)/\x.length<=1000/\∀ H' v,cB H H'->(match leafOf x with | none=>v=.non | some g=>gU H' g v)->Q v H'
abbrev nLf:List Str:=["word","name","worth"]
abbrev pLf:List Str:=["word"]
theorem I0:cH nLf pLf (bf qE):=⟨rfl,rfl,rfl,by decide +kernel,rfl,by decide +kernel,by decide +kernel⟩
theorem Hi (D:Df K mg "leaf_of" qE pLf f fd) (DW:Df K mg "worth_in" mG pWi fW fdW) (DN:Df K mg "number_in" iU pNi fN fdN) (DI:Df K mg "is_name" jI pNm fI fdI) (B:Bl mg) (MV:mg "ValueError"=none) (MA:mg "all"=none):dU P w K mg base CX0 3 f fd pLf spLf:=by
 have GW:dU P w K mg base CX0 2 fW fdW pWi IZ:=Hh DW DN B MV;have GI:cQ P w K mg base CX0 2 fI fdI pNm Cb:=(A8 DI B MA).mono (by omega);refine D.F.okC I0 (fun vs H Q E h=>?_) (fun cdv A outer s H vs Q E hr h=>?_)
 ·obtain ⟨x,rfl,_⟩:=h;rfl
 obtain ⟨x,rfl,asc,xl,q⟩:=h;have r2:dE 2 _:=hr;refine ⟨_,aV (df (aZ d8 (pv 0) aO (bD _)) (aI (bE (fz (cS aO ak)))) bO).c
  (aV (cq (i:=1) I0.nd rfl (Or.inl rfl) (gM xI (pv 0) (ib aq) i7)).c
  (aV (df ((p9 (jC (d9 bz lQ lR sT (pv 0) (cS aO ak))) (oZ (jC (bq GI r2 (by rfl) DI.m DI.F.kp DI.b .nil bQ (bI (pv 1) ak))))).pt) (aI (bE (fz (cS aO (bI (pv 1) ak))))) bO).c
  (aV (df ((p9 (jC (d9 bz lQ lR sT (pv 0) (cS aO ak))) (oZ (jC (bq GI r2 (by rfl) DI.m DI.F.kp DI.b .nil bQ (bI (pv 1) ak))))).pt) (aI (bE (fz (cS aO (bI (pv 1) ak))))) bO).c
  (aV (df ((jj (aZ d8 (pv 0) aO (bD _)) (iP (aZ d8 (pv 0) aO (bD _)))).pt) (aI (bE (fz (cS aO (gT (fA xE (by rfl) B.int boot_int (bI (pv 1) ak)) ak))))) bO).c
  (aV (ig (i:=2) I0.nd rfl (Or.inl rfl) (dW GW r2 (by rfl) DW.m DW.F.kp DW.b .nil bQ (bI (pv 0) ak)))
  (aI (bE (oC (aZ iR (pv 2) dD (bD _)) dD (fz (cS aO (bI (pv 2) ak)))))).c))))),?_⟩
 have big:=dG;have sl:∀ xs:List V,xs.length<=2->xs.length<=ax:=fun xs h=>by omega
 have tup:∀ {G:Hp} {xs:List V} {g:Fo},cB H G->leafOf x=some g->(∀ G' t,G' t=some (.tup xs)->gU G' g (.ref t))->xs.length<=2->xs.length<=ax/\∀ p,G p=none->Q (.ref p) (upd G p (.tup xs)):=fun {G xs g} sG e hg hl=>⟨sl xs hl,fun p hp=>q _ _ (sG.trans (aD hp _)) (by rw [e]; exact hg _ p ao)⟩;refine aB ?_;refine ⟨_,rfl,rfl,_,rfl,?_⟩;rw [rA]
 by_cases c1:x="@"
 ·rw [decide_eq_true c1];refine cV (eS (tup (g:=.now) (cB.refl _) (by unfold leafOf; rw [if_pos c1]) (fun G' t e=>.now e) (by decide)))
 rw [decide_eq_false c1];refine du ?_;dsimp only [dY];refine aB (bT ⟨_,rfl,_,rfl,x,rfl,by omega,aG ?_⟩);dsimp only;have yl:=Cc x;have lf:leafOf x=if sw x "." && eG (dP x (some 1) none) then some (.box (dP x (some 1) none)) else
   if sw x "#" && eG (dP x (some 1) none) then some (.long (dP x (some 1) none)) else
   if x="$0" then some (.got 0) else if x="$1" then some (.got 1) else (gO x (-(10 ^ 15)) (10 ^ 15)).map .num:=by
  conv=>lhs; unfold leafOf
  rw [if_neg c1]
 have y0:x="$0"->dH (dP x (some 1) none)=some 0/\x.length=2:=fun e=>by rw [e]; decide +kernel
 have y1:x="$1"->dH (dP x (some 1) none)=some 1/\x.length=2:=fun e=>by rw [e]; decide +kernel
 generalize dP x (some 1) none=y at yl lf y0 y1 |-
 -- the two names
 have two:∀ {k:Str} {a b:TS} {D:Ends} {G:Hp} {σ:St} {K':ai},σ[0]?=some (some (.str x))->σ[1]?=some (some (.str y))->(∀ G',cB G G'->(sw x k && eG y)=true->a D σ G')->(∀ G',cB G G'->(sw x k && eG y)=false->b D σ G') ->
   vA (HX (tB (tBM K' "str" (fun x vs H Q=>∃ t z,x=V.str t/\vs=[V.str z]/\Q (V.bl (sw t z)) H) (kH 0) (gX (tC (V.str k)) rg))) (tB (vY Cb [] E0 (gX (kH 1) rg)))) a b D σ G:=fun {k a b D G σ K'} h0 h1 ha hb=>by
  refine ⟨_,h0,rfl,x,k,rfl,rfl,_,rfl,?_⟩
  cases e1:sw x k with
  | false =>
   refine du (du (hb G (cB.refl _) ?_));rw [e1];rfl
  | true =>
   refine cV ⟨_,h1,y,rfl,by omega,fun G' s'=>⟨_,rfl,?_⟩⟩
   cases e2:eG y with
   | false=>exact du (hb G' s' (by rw [e1,e2]; rfl))
   | true=>exact cV (ha G' s' (by rw [e1,e2]; rfl))
 refine aB (two rfl rfl (fun G1 s1 e=>?_) (fun G1 s1 n1=>?_))
 ·exact ⟨_,rfl,tup (g:=.box y) s1 (by rw [lf,if_pos e]) (fun G' t e=>.box e) (aF 2)⟩
 dsimp only [dY];rw [if_neg (by rw [n1]; exact bc)] at lf;refine aB (two rfl rfl (fun G2 s2 e=>?_) (fun G2 s2 n2=>?_))
 ·exact ⟨_,rfl,tup (g:=.long y) (s1.trans s2) (by rw [lf,if_pos e]) (fun G' t e=>.long e) (aF 2)⟩
 dsimp only [dY];rw [if_neg (by rw [n2]; exact bc)] at lf;have s02:=s1.trans s2;refine aB ?_;refine ⟨_,rfl,rfl,_,rfl,?_⟩;rw [rA]
 by_cases c2:x="$0"
 ·rw [decide_eq_true c2];refine cV (cV (eS ⟨_,rfl,y,0,rfl,(by have:=(y0 c2).2; omega),(y0 c2).1,tup (g:=.got 0) s02 (by rw [lf,if_pos c2]) (fun G' t e=>.got e) (by decide)⟩))
 rw [decide_eq_false c2];rw [if_neg c2] at lf;refine du ⟨_,rfl,rfl,_,rfl,?_⟩;rw [rA]
 by_cases c3:x="$1"
 ·rw [decide_eq_true c3];refine cV (eS ⟨_,rfl,y,1,rfl,(by have:=(y1 c3).2; omega),(y1 c3).1,tup (g:=.got 1) s02 (by rw [lf,if_pos c3]) (fun G' t e=>.got e) (by decide)⟩)
 rw [decide_eq_false c3];rw [if_neg c3] at lf;refine du ?_;dsimp only [dY];refine aB (bT ⟨_,rfl,x,rfl,asc,xl,fun G3 s3=>aG ?_⟩);dsimp only;have s03:=s02.trans s3;refine eS ⟨_,rfl,rfl,_,rfl,?_⟩
 cases e:gO x (-(10 ^ 15)) (10 ^ 15) with
 | none =>
  rw [e] at lf;refine cV (q _ _ s03 ?_);rw [lf];rfl
 | some z =>
  rw [e] at lf;refine du ⟨_,rfl,tup (g:=.num z) s03 lf (fun G' t e=>.num e) (aF 2)⟩
end
theorem tL (w:Str):∀ D:List (Str×Str),sx w (xx D)=(D.lookup w).isSome
 | []=>rfl
 |(x,y) :: D=>by
  have ih:=tL w D
  by_cases c:w=x
  ·subst c;rw [show (dS w ((w,y) :: D))=some y by simp [dS]];exact xy (m:=y) (by simp [dS])
  ·have e:(w == x)=false:=beq_eq_false_iff_ne.mpr c;rw [show dS w ((x,y) :: D)=dS w D by simp only [dS,e],<- ih];simp [xx,sx,c]
   try (exact fun z=>absurd z.symm c)
theorem vk:∀ {ws:List Str} {k:Nat},iL (ws.drop k)=none->iL ws=none
 | ws,0,h=>h
 | [],k + 1,h=>h
 | w :: ws,k + 1,h=>by
  show (iL ws).bind _=none;rw [vk (show iL (ws.drop k)=none from h)];rfl
def ki (ws:List Str) (cnt:Nat):Option (List Fo):=if 15 * cnt < ws.length then none else
 match iL ws with
 | none=>none
 | some st=>if st.length≠cnt\/∃ g∈st,15 < g.n then none else some st
def fsV (H:Hp):Option (List Fo)->V->Prop
 | none,v=>v=.non
 | some st,v=>∃ p us,v=.ref p/\H p=some (.lst us)/\cK (gU H) st us
theorem mL {α β:Type} {R:α->β->Prop}:∀ {xs xs':List α} {ys ys':List β},cK R xs ys->cK R xs' ys'->cK R (xs++xs') (ys++ys')
 | _,_,_,_,.nil,k=>k
 | _,_,_,_,.cons h t,k=>.cons h (mL t k)
theorem qv {α β:Type} {R:α->β->Prop}:∀ {xs:List α} {x:α} {ys:List β},cK R (xs++[x]) ys->∃ ys' y,ys=ys'++[y]/\cK R xs ys'/\R x y
 | [],x,_,.cons h .nil=>⟨[],_,rfl,.nil,h⟩
 | a :: xs,x,_,.cons h t=>by
  obtain ⟨ys',y,rfl,k1,k2⟩:=qv t;exact ⟨_ :: ys',y,rfl,.cons h k1,k2⟩
theorem fG {α β:Type} {R:α->β->Prop}:∀ {xs:List α} {ys:List β} {i:Nat} {y:β},cK R xs ys->ys[i]?=some y->∃ x,xs[i]?=some x/\R x y
 | _,_,0,_,.cons h _,e=>⟨_,rfl,by cases e; exact h⟩
 | _,_,i + 1,_,.cons _ t,e=>fG (i:=i) t e
 | _,_,i,_,.nil,e=>by cases i <;> cases e
theorem vn {α β:Type} {R:α->β->Prop}:∀ {xs:List α} {ys:List β},cK R xs ys->cK R xs.reverse ys.reverse
 | _,_,.nil=>.nil
 | _,_,.cons h t=>by
  rw [gk,gk];exact mL (vn t) (.cons h .nil)
theorem qw:∀ {ws:List Str} {st:List Fo},iL ws=some st->(st.map Fo.n).sum=ws.length
 | [],st,h=>by
  cases h;rfl
 | w :: ws,st,h=>by
  have h':(iL ws).bind (hJ w)=some st:=h;obtain ⟨s1,h1,h2⟩:=oU.mp h';have ih:=qw h1;unfold hJ at h2
  split at h2
  ·rename_i g e
   cases h2;rw [bu,fX,aE,ih];have:g.n=1:=by
    unfold leafOf at e
    repeat' split at e
    all_goals first
     |(cases e; rfl)
     |(obtain ⟨z,_,rfl⟩:=c8.mp e; rfl)
   omega
  ·split at h2
   ·rename_i _ k a b r e
    cases h2;rw [bu,bu,fX,fX] at ih;rw [bu,fX,aE];show 1 + a.n + b.n + _=_;omega
   ·cases h2
theorem wJ:∀ st:List Fo,st.length<=(st.map Fo.n).sum
 | []=>aF _
 | g :: r=>by
  rw [bu,fX,aE];have:=g.pos;have:=wJ r;omega
theorem F4 {ws:List Str} {st:List Fo} (h:iL ws=some st):∀ g∈st,g.n<=ws.length:=fun g hg=>by
 rw [<- qw h];obtain ⟨a,b,rfl⟩:=List.append_of_mem hg;rw [bA,qx,bu,fX];omega
section
variable {P:aS} {w:bN} {K:ai} {mg:Str->Option ag} {base:cI} {f fL fP fF:aj} {fd fdL fdP fdF:cf} {aK:aj} {tMP:Tok}
seal L2.PS L2.PSs L2.PE L2.PA L2.PT L2.PW L2.PI L2.PG L2.PGs L2.PC L2.PSC L2.PSsC L2.PEC
def WsIn (H:Hp) (l:aj) (ws:List Str):Prop:=H l=some (.lst (ws.map V.str))/\∀ x∈ws,(∀ c∈x.cps.toList,c < 128)/\x.length<=1000
inductive Hj (vs:List V) (H:Hp) (Q:VK) (_e:XK):Prop where
 | mk (l:aj) (ws:List Str) (cnt:Nat) (_:vs=[.ref l,.int cnt]) (_:WsIn H l ws) (_:1<=cnt) (_:cnt<=4) (_:∀ H' v,cB H H'->fsV H' (ki ws cnt) v->Q v H'):Hj vs H Q _e
def I9:Sp:=fun vs H Q _e=>Hj vs H Q _e
abbrev nFi:List Str:=["words","count","found","word","formula","first"]
abbrev pFi:List Str:=["words","count"]
theorem Cd:cH nFi pFi (bf iB):=⟨rfl,rfl,rfl,by decide +kernel,rfl,by decide +kernel,by decide +kernel⟩
abbrev nnFi:List Str:=["words","count","found","word","-","first"]
theorem ndFi:((["formula"]:List Str)++nnFi).Nodup:=by decide +kernel
theorem Hk (D:Df K mg "formulas_in" iB pFi f fd) (DL:Df K mg "leaf_of" qE pLf fL fdL) (GL:dU P w K mg base CX0 3 fL fdL pLf spLf) (DP:Df K mg "parts_in" mD pPi fP fdP) (B:Bl mg) (MR:mg "reversed"=none)
  (hK:mg "KINDS"=some (.ref aK)) (hTK:Tab K aK wF) (hMP:mg "MOST_PARTS"=some (.int 15 tMP)):dU P w K mg base CX0 61 f fd pFi I9:=by
 have GP:cQ P w K mg base CX0 60 fP fdP pPi (FY 60):=Hf DP B 60 (by decide);refine D.F.okC Cd (fun vs H Q E h=>?_) (fun cdv A outer s H vs Q E hr h=>?_)
 ·obtain ⟨l,ws,cnt,rfl,_⟩:=h;rfl
 obtain ⟨l,ws,cnt,rfl,⟨hl,hw⟩,c1,c60,q⟩:=h;have r3:dE 3 _:=hr.mono (by decide);have r18:dE 60 _:=hr;refine ⟨_,aV (df (aZ tf (cY (dN K (by rfl)) (by rfl) B.len bX (bI (pv 0) ak)) (cb q9 (jT (v:=.int 15) (by rfl) hMP ⟨_,rfl⟩) (pv 1)) (bD _)) (aI (bE dD)) bO).c
  (aV (cq (i:=2) Cd.nd rfl (Or.inl rfl) (cZ ak)).c
  (aV (AW cN rfl (DJ (by rfl) MR (bI (pv 0) ak)) (cT (i:=3) Cd.nd rfl (Or.inl rfl)) (aV (ig (i:=4) Cd.nd rfl (Or.inl rfl) (dW GL r3 (by rfl) DL.m DL.F.kp DL.b .nil bQ (bI (pv 3) ak)))
  (aH (df (aZ iR (pv 4) dD (bD _)) (aH (df ((jj (aZ (yO hTK) (pv 3) (jT (v:=.ref aK) (by rfl) hK rfl) (by with_unfolding_all rfl)) (iP (aZ pw (cY (dN K (by rfl)) (by rfl) B.len bX (bI (pv 2) ak)) aq (bD _)))).pt) (aI (bE dD)) bO)
  (aH (cq (i:=5) Cd.nd rfl (Or.inl rfl) (C3 aP yf yg C5 (pv 2)))
  (aI (cq (i:=4) Cd.nd rfl (Or.inl rfl) (fz (eK (bR (Dm hTK) (jT (v:=.ref aK) (by rfl) hK rfl) (pv 3) (fun _ _=>rfl)) (bI (pv 5) (gT (C3 aP yf yg C5 (pv 2)) ak)))))))) bO)
  (aI (dI (d9 aP bh bj dR (pv 2) (bI (pv 4) ak))))).c))
  (aH (df ((jj (aZ rP (cY (dN K (by rfl)) (by rfl) B.len bX (bI (pv 2) ak)) (pv 1) (bD _)) (iP (aZ tf (cY (BR rfl) (by rfl) B.max boot_max (eJ (kE ["formula"] (gE.open (NN:=nnFi) (N:=nFi) (sc:=bf iB) rfl rfl (by decide +kernel) rfl (by decide +kernel) (by decide +kernel) rfl (by decide +kernel)) rfl (eV (pv 2)) (fun _ _ _ _=>cT (i:=0) ndFi rfl (Or.inl rfl)) (fun _ _ _ _=>ic) (fun _ _ _ _=>bq GP r18 (by rfl) DP.m DP.F.kp DP.b .nil bQ (bI (pv 0) ak))) ak)) (jT (v:=.int 15) (by rfl) hMP ⟨_,rfl⟩) (bD _)))).pt) (aI (bE dD)) bO)
  (aI (bE (Ai rfl (by rfl) MR (by rfl) B.list (pv 2))))).c)),?_⟩
 have big:=dG;refine aB ?_;refine ⟨_,rfl,l,_,rfl,.inl (SqL.of hl),_,rfl,_,_,rfl,rfl,.inl ⟨by decide,by decide⟩,_,_,rfl,rfl,_,rfl,?_⟩;rw [aa];have none_:∀ {G:Hp},cB H G->ki ws cnt=none->Q .non G:=fun {G} sG e=>q G .non sG (by rw [e]; rfl)
 rcases nj (15 * cnt) ws.length with c | c
 ·rw [decide_eq_true (show (15:Int) * (cnt:Int) < (ws.length:Int) by omega)];refine cV (none_ (cB.refl _) ?_);unfold ki;rw [if_pos c]
 rw [decide_eq_false (show ¬ (15:Int) * (cnt:Int) < (ws.length:Int) by omega)];refine du ?_;have fi:ki ws cnt=match iL ws with
   | none=>none
   | some st=>if st.length≠cnt\/∃ g∈st,15 < g.n then none else some st:=by
  unfold ki;rw [if_neg (by omega)]
 dsimp only [dY];refine aB (bT ⟨aR _,fun p hp=>aG ?_⟩);dsimp only;have nlp:l≠p:=bw hl hp;refine aB ?_;have wl:(ws.map V.str).length=ws.length:=aa ..;refine ⟨_,rfl,l,ws.map V.str,rfl,SqL.of (aD hp (.lst []) _ _ hl),FD (fun i σ G=>∃ (st:List Fo) (us:List V) (v3 v4 v5:Option V),σ=[some (.ref l),some (.int cnt),some (.ref p),v3,v4,v5]/\G p=some (.lst us)/\cK (gU G) st.reverse us/\iL (ws.drop (ws.length - i))=some st/\cB H G)
  ⟨[],[],none,none,none,rfl,ao,.nil,by rw [zX,uq]; rfl,aD hp _⟩ ?_ ?_ ?_⟩
 ·rintro i σ G hi ⟨st,us,v3,v4,v5,rfl,h1,h2,h3,h4⟩;exact SqL.of (h4 _ _ hl)
 ·rintro i x σ G hx hi ⟨st,us,v3,v4,v5,rfl,h1,h2,h3,h4⟩;rw [wl] at hx hi;obtain ⟨y,hy,rfl⟩:∃ y,ws[ws.length - 1 - i]?=some y/\x=V.str y:=by
   rw [cw] at hx;obtain ⟨y,e1,e2⟩:=c8.mp hx;exact ⟨y,e1,e2.symm⟩
  obtain ⟨ya,yl⟩:=hw y (bS hy);have dr:ws.drop (ws.length - (i + 1))=y :: ws.drop (ws.length - i):=by
   have e:ws.length - (i + 1)=ws.length - 1 - i:=by omega
   have lt:ws.length - 1 - i < ws.length:=by omega
   rw [e,oA lt,show ws.length - 1 - i + 1=ws.length - i by omega];rw [aN lt] at hy;rw [b0 hy]
  have pn:iL (ws.drop (ws.length - (i + 1)))=hJ y st:=by
   rw [dr];show (iL (ws.drop (ws.length - i))).bind (hJ y)=_;rw [h3];rfl
  have ul:=kG h2;rw [fk] at ul;refine aG ?_;dsimp only;refine aB (bT ⟨_,rfl,y,rfl,ya,yl,fun G1 v s1 hv=>aG ?_⟩);dsimp only;have s01:=h4.trans s1;have hp1:=s1 _ _ h1;have nt:∀ {o:HO},cB H (upd G1 p o):=fun {o} b u e=>by
   rw [aX (bw e hp)];exact s01 _ _ e
  have tk:∀ {o:HO} {xs:List V} {t:aj},G1 t=some (.tup xs)->(upd G1 p o) t=some (.tup xs):=fun {o xs t} e=>by
   rw [aX fun z=>by rw [z,hp1] at e; cases e];exact e
  have ul2:us.length<=1000:=by
   have:=qw h3;have l2:=wJ st;rw [kO] at this;omega
  refine aB ⟨_,rfl,rfl,_,rfl,?_⟩
  cases lf:leafOf y with
  | some g =>
   rw [lf] at hv;have pg:iL (ws.drop (ws.length - (i + 1)))=some (g :: st):=by
    rw [pn];unfold hJ;rw [lf]
   obtain ⟨t,xs,rfl,ht,_⟩:=gU.tup hv;rw [decide_eq_false (fun z=>by cases z)];refine du ?_;dsimp only [dY];refine ⟨_,rfl,.inl ⟨rfl,_,SqL.of hp1⟩,_,rfl,p,us,_,rfl,rfl,hp1,by omega,?_⟩;refine ⟨g :: st,us++[.ref t],_,_,_,rfl,ao,?_,pg,nt⟩;rw [gk];exact mL (ip (fun _ _ z=>z.up fun t xs e=>tk (s1 _ _ e)) h2) (.cons (hv.up fun t xs e=>tk e) .nil)
  | none =>
   rw [lf] at hv
   cases hv;rw [decide_eq_true rfl];refine cV ?_;have bad:(wF.lookup y=none\/st.length < 2)->ki ws cnt=none:=fun z=>by
    have e:hJ y st=none:=by
     unfold hJ;rw [lf];dsimp only
     split
     ·rename_i k a b r e1
      rcases z with z | z
      ·rw [z] at e1
       cases e1
      ·rw [aE,aE] at z;omega
     ·rfl
    rw [fi,vk (pn.trans e)]
   refine aB ⟨_,rfl,y,rfl,rfl,_,rfl,?_⟩;rw [tL]
   cases hk:wF.lookup y with
   | none=>exact cV (cV (none_ s01 (bad (.inl hk))))
   | some k =>
    refine du ⟨_,rfl,p,us,rfl,.inl (SqL.of hp1),_,_,rfl,rfl,_,rfl,?_⟩
    rcases nj us.length 2 with c2 | c2
    ·rw [decide_eq_true (show ((us.length:Nat):Int) < 2 by omega)];exact cV (none_ s01 (bad (.inr (by omega))))
    rw [decide_eq_false (show ¬ ((us.length:Nat):Int) < 2 by omega)];refine du ?_;dsimp only [dY];obtain ⟨a,b,r,rfl⟩:∃ a b r,st=a :: b :: r:=by
     match st,ul with
     | [],e=>rw [<- e] at c2; exact absurd c2 (by decide)
     | [_],e=>rw [<- e] at c2; exact absurd c2 (show ¬ 1 ≥ 2 by decide)
     | a :: b :: r,_=>exact ⟨a,b,r,rfl⟩
    rw [gk,gk] at h2;obtain ⟨us1,ua,rfl,h21,fa⟩:=qv h2;obtain ⟨us2,ub,rfl,h22,fb⟩:=qv h21;have pg:iL (ws.drop (ws.length - (i + 1)))=some (.two k y a b :: r):=by
     rw [pn];unfold hJ;rw [lf,hk]
    have last:∀ (zs:List V) (z:V),(zs++[z])[(zs++[z]).length - 1]?=some z:=fun zs z=>by
     rw [ae,kJ,Dk,dJ (aF _),Au];rfl
    refine aB (bT ⟨_,rfl,.inl ⟨rfl,_,SqL.of hp1⟩,p,_,ua,rfl,rfl,hp1,last _ _,aG ?_⟩);dsimp only;rw [A9];have e2:upd G1 p (.lst (us2++[ub])) p=some (.lst (us2++[ub])):=ao;refine bT ⟨_,rfl,y,k,rfl,rfl,hk,_,rfl,_,rfl,.inl ⟨rfl,_,SqL.of e2⟩,p,_,ub,rfl,rfl,e2,last _ _,by show 3<=ax; omega,fun t ht=>aG ?_⟩;dsimp only;rw [A9] at ht |-;have ntp:t≠p:=fun z=>by rw [z,ao] at ht; cases ht
    have tn:G1 t=none:=by
     rw [aX ntp,aX ntp] at ht;exact ht
    have e3:upd (upd (upd G1 p (.lst (us2++[ub]))) p (.lst us2)) t (.tup [.str k,ua,ub]) p=some (.lst us2):=by
     rw [aX ntp.symm,ao]
    refine ⟨_,rfl,.inl ⟨rfl,_,SqL.of e3⟩,_,rfl,p,us2,_,rfl,rfl,e3,?_,?_⟩
    ·rw [ae,ae] at ul2;omega
    have kp:∀ {o:HO} {b:aj} {u:HO},b≠p->G1 b=some u->upd (upd (upd (upd G1 p (.lst (us2++[ub]))) p (.lst us2)) t (.tup [.str k,ua,ub])) p o b=some u:=fun {o b u} nb e=>by
     rw [aX nb,aX (bw e tn),aX nb,aX nb];exact e
    have kt:∀ {o:HO} {xs:List V} {z:aj},G1 z=some (.tup xs)->upd (upd (upd (upd G1 p (.lst (us2++[ub]))) p (.lst us2)) t (.tup [.str k,ua,ub])) p o z=some (.tup xs):=fun {o xs z} e=>kp (fun y=>by rw [y,hp1] at e; cases e) e;refine ⟨.two k y a b :: r,us2++[.ref t],_,_,_,rfl,ao,?_,pg,fun b u e=>kp (bw e hp) (s01 _ _ e)⟩;rw [gk];refine mL (ip (fun _ _ z=>z.up fun t xs e=>kt (s1 _ _ e)) h22) (.cons (.two ?_ (fa.up fun t xs e=>kt (s1 _ _ e)) (fb.up fun t xs e=>kt (s1 _ _ e))) .nil);rw [aX ntp,ao]
 ·rintro σ G ⟨st,us,v3,v4,v5,rfl,h1,h2,h3,h4⟩;rw [wl,Au] at h3;have h3':iL ws=some st:=h3;rw [h3'] at fi;dsimp only at fi;have ul:=kG h2;rw [fk] at ul;refine aB ?_;refine ⟨_,rfl,p,us,rfl,.inl (SqL.of h1),_,rfl,rfl,_,rfl,?_⟩;rw [Ca]
  by_cases c2:us.length=cnt
  rotate_left
  ·rw [decide_eq_false (by omega)];exact cV (cV (none_ h4 (by rw [fi,if_pos (.inl (by omega))])))
  rw [decide_eq_true (by omega)];refine du ?_;dsimp only [qg,tOp,tCB,gX];have pl:=F4 h3';refine vf (a:=p) (xs:=us) (fun R hR=>⟨_,rfl,hR⟩) (SqL.of h1) (fun i ys G'=>ys=(st.reverse.take i).map (fun g=>V.int g.n)/\cB G G') ⟨rfl,cB.refl _⟩ ?_ ?_ ?_
  ·rintro i ys G' hi ⟨rfl,s'⟩;refine ⟨SqL.of (s' _ _ h1),?_⟩;rw [aa,bP];omega
  ·rintro i x ys G' hx ⟨rfl,s'⟩;refine aG ⟨rfl,?_⟩;unfold rT;refine cV ?_;obtain ⟨g,hg,hf⟩:=fG h2 hx;have gm:g∈st:=pz.mp (bS hg);have:=pl g gm;refine ⟨_,rfl,g,x,rfl,hf.same s',by omega,fun G2 s2=>⟨?_,s'.trans s2⟩⟩;rw [Eu,hg,bA];rfl
  ·rintro ys G' ⟨rfl,s'⟩ l2 hl2;rw [show us.length=st.reverse.length by rw [fk]; omega,bZ];have s2:=s'.trans (aD hl2 (.lst (st.reverse.map (fun g=>V.int g.n))));refine ⟨l2,st.reverse.map (fun g=>(g.n:Int)),rfl,SqL.of (by rw [Jx]; exact ao),?_,fun M hM le=>⟨M,15,rfl,rfl,_,rfl,?_⟩⟩
   ·intro z;have z':=congrArg fZ z;rw [aa,fk] at z';have:([]:List Int).length=0:=rfl;omega
   ·obtain ⟨g,hg,rfl⟩:=cO.mp hM;have hg':=pz.mp hg
    by_cases c3:15 < g.n
    ·rw [decide_eq_true (show (15:Int) < (g.n:Int) by omega)];exact cV (none_ (h4.trans s2) (by rw [fi,if_pos (.inr ⟨g,hg',c3⟩)]))
    ·rw [decide_eq_false (show ¬ (15:Int) < (g.n:Int) by omega)];refine du ?_;dsimp only [dY];have fi2:ki ws cnt=some st:=by
      rw [fi,if_neg];rintro (z | ⟨g',m',z⟩)
      ·omega
      ·have:=le (g'.n:Int) (cO.mpr ⟨g',pz.mpr m',rfl⟩);omega
     refine eS ⟨_,rfl,p,us,rfl,SqL.of (s2 _ _ h1),fun l3 hl3=>?_⟩;have s3:=s2.trans (aD hl3 (.lst us.reverse));refine q _ _ (h4.trans s3) ?_;rw [fi2];have pr:=vn h2;rw [List.reverse_reverse] at pr;exact ⟨l3,us.reverse,rfl,ao,ip (fun _ _ z=>z.same s3) pr⟩
end
inductive De where
 | fin
 | three (k x:Str) (f:Fo)
 | send (z:Int) (x:Str) (f1:Fo) (y:Int) (f2 f3:Fo)
 | pull (x y:Str) (ds:List De)
 | iff (f:Fo) (as bs:List De)
structure Mo where
 nm:Str
 bx:List (Str×Int)
 qs:List Str
 dr:List Int
 hr:List (Str×List De)
def cu (d:Nat):Str:=⟨(aJ d ("  ":Str).cps).foldl (·++·) #[]⟩
def dg (L:List Str) (i d:Nat):List Str:=match L[i]? with
 | none=>[""]
 | some l=>if sw l (cu d) then nJ (dP l (some ((2 * d:Nat):Int)) none) " " else [""]
def eA (L:List Str) (i d:Nat) (kind:Str) (cnt:Nat) (names:List Str):Option (List Str):=
 if (dg L i d).length=cnt/\(dg L i d)[0]?=some kind/\((dg L i d)[1]?.any fun w=>eG w && !decide (w∈names))=true then some (dg L i d) else none
structure WOk (ws:List Str):Prop where
 ne:ws≠[]
 many:ws.length<=900
 ok:∀ w∈ws,(∀ c∈w.cps.toList,c < 128)/\w.length<=1000
structure LOk (L:List Str):Prop where
 len:∀ x∈L,x.length<=5000
 many:L.length<=20000
 ws:∀ i d,d<=7->WOk (dg L i d)
def LsI (C:aj) (H:Hp) (s l:aj) (L:List Str) (i c:Nat):Prop:=(∃ dx,H s=some (.ins C dx [("lines",.ref l),("place",.int i),("deed_count",.int c)]))/\H l=some (.lst (L.map V.str))
theorem LsI.same {C:aj} {H H':Hp} {s l:aj} {L:List Str} {i c:Nat} (h:LsI C H s l L i c) (k:cB H H'):LsI C H' s l L i c:=by
 obtain ⟨⟨dx,e⟩,e2⟩:=h;exact ⟨⟨dx,k _ _ e⟩,k _ _ e2⟩
theorem LsI.ne {C:aj} {H:Hp} {s l:aj} {L:List Str} {i c:Nat} (h:LsI C H s l L i c):l≠s:=fun z=>by
 obtain ⟨⟨dx,e⟩,e2⟩:=h;rw [z,e] at e2
 cases e2
structure LT (K:ai) (mg:Str->Option ag) (C:aj):Prop where
 cl:Cls K C
 nL:nX K C "lines"
 nP:nX K C "place"
 nD:nX K C "deed_count"
 m:mg "Lines"=some (.ref C)
structure Mt (K:ai) (C:aj) (x qual:Str) (st:dw) (ps:List Str) (f:aj) (fd:cf):Prop where
 F:Fun K x qual st f fd
 b:Binds K fd ps []
 m:BC K C x f
theorem fu {α:Type} {x:Option α} (h:∀ o,x≠some o):x=none:=by
 cases x with
 | none=>rfl
 | some o=>exact absurd rfl (h o)
theorem ix {s:aj} {H G:Hp} (k:cB H G):But s H G:=fun b o e _=>k b o e
theorem y8 (x:Str) (xs:List Str):inV (.str x) (xs.map V.str)=decide (x∈xs):=by
 unfold inV
 induction xs with
 | nil=>rfl
 | cons y xs ih =>
  rw [bu,jH,ih];have e:eqV (.str y) (.str x)=decide (x=y):=by
   by_cases c:x=y
   ·subst c;rw [decide_eq_true rfl];simp [eqV]
   ·rw [decide_eq_false c];simp [eqV];exact fun z=>c z.symm
  rw [e]
  by_cases c:x=y
  ·subst c;simp
  ·simp [c]
theorem gi (d:Nat):(cu d).length=2 * d:=by
 show ((aJ d ("  ":Str).cps).foldl (·++·) #[]).size=_;rw [uZ];show 0 + d * 2=2 * d;omega
def linesOf (x:Str):List Str:=if x="" then [] else nJ x "\n"
section
variable {P:aS} {w:bN} {K:ai} {mg:Str->Option ag} {base:cI} {f fB fW fI fL C:aj} {fd fdB fdW fdI fdL:cf}
seal L2.PS L2.PSs L2.PE L2.PA L2.PT L2.PW L2.PI L2.PG L2.PGs L2.PC L2.PSC L2.PSsC L2.PEC L2.PAC L2.PPs
def spLo:Sp:=fun vs H Q _=>∃ x:Str,vs=[.str x]/\x.length<=100000/\∀ (l:aj) (H':Hp),H l=none->cB H H'->H' l=some (.lst ((linesOf x).map V.str))->Q (.ref l) H'
abbrev nLo:List Str:=["text"]
abbrev pLo:List Str:=["text"]
theorem scLo:cH nLo pLo (bf pf):=⟨rfl,rfl,rfl,by decide +kernel,rfl,by decide +kernel,by decide +kernel⟩
theorem ok_lo (D:Df K mg "lines_of" pf pLo f fd):cQ P w K mg base CX0 1 f fd pLo spLo:=by
 refine D.F.ok scLo (fun vs H Q E h=>?_) (fun cdv A outer s H vs Q E hr h=>?_)
 ·obtain ⟨x,rfl,_⟩:=h;rfl
 obtain ⟨x,rfl,hl,q⟩:=h;refine ⟨_,aI (bE (oC (uz (pv 0) (fun _=>rfl)) (d9 bz xV xW yN (pv 0) (cS aO ak)) (cZ ak))),?_⟩;have big:100000 < ax:=by decide
 by_cases c:x=""
 ·subst c;refine eS ⟨_,rfl,false,⟨by decide,by decide⟩,du ⟨aR _,fun l hl=>q l _ hl (aD hl _) ?_⟩⟩;rw [ao];rfl
 ·have e:((x.length:Int) != 0)=true:=by
   have:x.length≠0:=fun z=>c (kz (kL z));simp only [bne_iff_ne,ne_eq];omega
  refine eS ⟨_,rfl,true,⟨by omega,e.symm⟩,cV ⟨_,rfl,rfl,_,_,rfl,rfl,by decide,hl,fun l hl=>q l _ hl (aD hl _) ?_⟩⟩;rw [ao];unfold linesOf;rw [if_neg c]
inductive Hl (C:aj) (vs:List V) (H:Hp) (Q:VK) (_e:XK):Prop where
 | mk (s dx:aj) (x:Str) (H0:Hp) (_:vs=[.ref s,.str x]) (_:H s=some (.ins C dx [])) (_:cB H0 H) (_:H0 s=none) (_:x.length<=100000) (_:∀ (l:aj) (H':Hp),cB H0 H'->LsI C H' s l (linesOf x) 0 0->Q .non H'):Hl C vs H Q _e
def spLi (C:aj):Sp:=fun vs H Q _e=>Hl C vs H Q _e
abbrev nLi:List Str:=["self","text"]
abbrev pLi:List Str:=["self","text"]
theorem scLi:cH nLi pLi (bf lK):=⟨rfl,rfl,rfl,by decide +kernel,rfl,by decide +kernel,by decide +kernel⟩
theorem ok_li (M:Mt K C "__init__" "Lines.__init__" lK pLi f fd) (DL:Df K mg "lines_of" pf pLo fL fdL) (T:LT K mg C):cQ P w K mg base CX0 2 f fd pLi (spLi C):=by
 have GL:cQ P w K mg base CX0 1 fL fdL pLo spLo:=ok_lo DL;refine M.F.ok scLi (fun vs H Q E h=>?_) (fun cdv A outer s H vs Q E hr h=>?_)
 ·obtain ⟨s,dx,x,H0,rfl,_⟩:=h;rfl
 obtain ⟨s,dx,x,H0,rfl,hs,s0,ns,xl,q⟩:=h;have r1:dE 1 _:=hr;refine ⟨_,aH (xc (pv 0) (bq GL r1 (by rfl) DL.m DL.F.kp DL.b .nil bQ (bI (pv 1) ak)) rfl)
  (aH (xc (pv 0) aq rfl)
  (aI (xc (pv 0) aq rfl))),?_⟩
 refine aB ⟨_,rfl,x,rfl,xl,fun l G hl sl hll=>?_⟩;have hsG:=sl _ _ hs;refine ⟨_,rfl,s,C,dx,[],rfl,hsG,T.cl,T.nL,by decide,?_⟩;refine aB ⟨_,rfl,s,C,dx,_,rfl,ao,T.cl,T.nP,(show 1 < 1000 by decide),?_⟩;refine ⟨_,rfl,s,C,dx,_,rfl,ao,T.cl,T.nD,(show 2 < 1000 by decide),?_⟩;have nls:l≠s:=fun z=>by rw [z,hs] at hl; cases hl
 refine q l _ (fun b o e=>?_) ⟨⟨dx,?_⟩,?_⟩
 ·have nb:b≠s:=fun z=>by rw [z,ns] at e; cases e
  rw [aX nb,aX nb,aX nb];exact sl _ _ (s0 _ _ e)
 ·rw [ao];rfl
 ·rw [aX nls,aX nls,aX nls];exact hll
inductive Hm (C:aj) (vs:List V) (H:Hp) (Q:VK) (_e:XK):Prop where
 | mk (s l:aj) (L:List Str) (i c:Nat) (_:vs=[.ref s]) (_:LsI C H s l L i c) (_:Q (.bl (decide (L.length<=i))) H):Hm C vs H Q _e
def F5 (C:aj):Sp:=fun vs H Q _e=>Hm C vs H Q _e
abbrev nBe:List Str:=["self"]
abbrev pBe:List Str:=["self"]
theorem scBe:cH nBe pBe (bf gd):=⟨rfl,rfl,rfl,by decide +kernel,rfl,by decide +kernel,by decide +kernel⟩
theorem Hn (M:Mt K C "is_behind" "Lines.is_behind" gd pBe f fd) (T:LT K mg C) (B:Bl mg):cQ P w K mg base CX0 1 f fd pBe (F5 C):=by
 refine M.F.ok scBe (fun vs H Q E h=>?_) (fun cdv A outer s H vs Q E hr h=>?_)
 ·obtain ⟨s,l,L,i,c,rfl,_⟩:=h;rfl
 obtain ⟨s,l,L,i,c,rfl,⟨⟨dx,hs⟩,hl⟩,q⟩:=h;refine ⟨_,aI (bE (rQ Gr (lL K (by rfl) (pv 0) (by rfl)) (cY (dN K (by rfl)) (by rfl) B.len bX (eJ (lL K (by rfl) (pv 0) (by rfl)) ak)) (bD _))),?_⟩;refine eS ⟨_,rfl,s,C,dx,_,_,rfl,hs,T.cl,T.nP,rfl,_,rfl,s,C,dx,_,_,rfl,hs,T.cl,T.nL,rfl,l,_,rfl,.inl (SqL.of hl),_,_,rfl,rfl,?_⟩;rw [aa];show Q (.bl (decide ((L.length:Int)<=(i:Int)))) H;rw [show decide ((L.length:Int)<=(i:Int))=decide (L.length<=i) from by
  by_cases c:L.length<=i
  ·rw [decide_eq_true c,decide_eq_true (by omega)]
  ·rw [decide_eq_false c,decide_eq_false (by omega)]]
 exact q
inductive Ho (C:aj) (vs:List V) (H:Hp) (Q:VK) (_e:XK):Prop where
 | mk (s l:aj) (L:List Str) (i c:Nat) (_:vs=[.ref s]) (_:LsI C H s l L i c) (_:∀ H',LsI C H' s l L (i + 1) c->But s H H'->(∀ b,H b=none->H' b=none)->Q .non H'):Ho C vs H Q _e
def Av (C:aj):Sp:=fun vs H Q _e=>Ho C vs H Q _e
abbrev nPb:List Str:=["self"]
abbrev pPb:List Str:=["self"]
theorem scPb:cH nPb pPb (bf dQ):=⟨rfl,rfl,rfl,by decide +kernel,rfl,by decide +kernel,by decide +kernel⟩
theorem wK (M:Mt K C "pass_by" "Lines.pass_by" dQ pPb f fd) (T:LT K mg C):cQ P w K mg base CX0 1 f fd pPb (Av C):=by
 refine M.F.ok scPb (fun vs H Q E h=>?_) (fun cdv A outer s H vs Q E hr h=>?_)
 ·obtain ⟨s,l,L,i,c,rfl,_⟩:=h;rfl
 obtain ⟨s,l,L,i,c,rfl,ls,q⟩:=h;have nls:=ls.ne;obtain ⟨⟨dx,hs⟩,hl⟩:=ls;refine ⟨_,aI (vX (pv 0) aq CP),?_⟩;refine ⟨_,rfl,s,C,dx,_,_,rfl,hs,T.cl,T.nP,rfl,_,_,rfl,rfl,dx,_,hs,(show 3 < 1000 by decide),?_⟩;refine q _ ⟨⟨dx,?_⟩,?_⟩ (But.upd _ _ _) fun b e=>?_
 ·rw [ao];rfl
 ·rw [aX nls];exact hl
 ·rw [aX fun z=>by rw [z,hs] at e; cases e];exact e
inductive Hq (C:aj) (vs:List V) (H:Hp) (Q:VK) (_e:XK):Prop where
 | mk (s l:aj) (L:List Str) (i c d:Nat) (_:vs=[.ref s,.int d]) (_:LsI C H s l L i c) (_:LOk L) (_:d<=7) (_:∀ p H',H p=none->cB H H'->H' p=some (.lst ((dg L i d).map V.str))->Q (.ref p) H'):Hq C vs H Q _e
def Ex (C:aj):Sp:=fun vs H Q _e=>Hq C vs H Q _e
abbrev nWd:List Str:=["self","depth","blanks"]
abbrev pWd:List Str:=["self","depth"]
theorem scWd:cH nWd pWd (bf gq):=⟨rfl,rfl,rfl,by decide +kernel,rfl,by decide +kernel,by decide +kernel⟩
theorem wL (M:Mt K C "words" "Lines.words" gq pWd f fd) (MB:Mt K C "is_behind" "Lines.is_behind" gd pBe fB fdB) (T:LT K mg C) (B:Bl mg):cQ P w K mg base CX0 2 f fd pWd (Ex C):=by
 have GB:cQ P w K mg base CX0 1 fB fdB pBe (F5 C):=Hn MB T B;refine M.F.ok scWd (fun vs H Q E h=>?_) (fun cdv A outer s H vs Q E hr h=>?_)
 ·obtain ⟨s,l,L,i,c,d,rfl,_⟩:=h;rfl
 obtain ⟨s,l,L,i,c,d,rfl,ls,lok,d7,q⟩:=h;have ls':=ls;obtain ⟨⟨dx,hs⟩,hl⟩:=ls';have r1:dE 1 _:=hr;refine ⟨_,aH (cq (i:=2) scWd.nd rfl (Or.inl rfl) (cb FN aO (pv 1)))
  (aH (df ((jj (jC (jX (pv 0) T.cl MB.m GB r1 MB.b .nil bQ)) (iP (o4 (jC (d9 bz lQ lR sT (bR cU (lL K (by rfl) (pv 0) (by rfl)) (lL K (by rfl) (pv 0) (by rfl)) (fun _ _=>rfl)) (bI (pv 2) ak)))))).pt) (aI (bE (cZ (cS aO ak)))) bO)
  (aI (bE (d9 bz xV xW yN (gM xI (bR cU (lL K (by rfl) (pv 0) (by rfl)) (lL K (by rfl) (pv 0) (by rfl)) (fun _ _=>rfl)) (ib (cY i8 (by rfl) B.len bX (bI (pv 2) ak))) i7) (cS aO ak))))),?_⟩
 have big:=dG;have bigger:5000 < ax:=by decide
 refine aB (bT ⟨_,rfl,"  ",d,rfl,rfl,by decide,by omega,aG ?_⟩);dsimp only;have none_:dg L i d=[("":Str)]->∀ G,cB H G->uw (Im (gX (tC (V.str "")) rg)) {nx:=fun x H'=>Q V.non H',rt:=Q} [some (.ref s),some (.int d),some (.str (cu d))] G:=fun e G sG=>by
  refine eS ⟨by show 1<=ax; omega,fun p hp=>q p _ (fu fun o z=>by rw [sG _ _ z] at hp; cases hp) (sG.trans (aD hp _)) ?_⟩;rw [ao,e];rfl
 refine aB ⟨_,rfl,s,dx,_,rfl,hs,rfl,s,l,L,i,c,rfl,ls,_,rfl,?_⟩
 by_cases c0:L.length<=i
 ·rw [decide_eq_true c0];refine cV (cV (none_ ?_ _ (cB.refl _)));unfold dg;rw [gF c0]
 rw [decide_eq_false c0];have il:i < L.length:=by omega
 have hx:L[i]?=some L[i]:=aN il;have xl:=lok.len L[i] (kS il);have hxv:(L.map V.str)[i]?=some (.str L[i]):=by rw [cw,hx]; rfl
 refine du ⟨_,rfl,s,C,dx,_,_,rfl,hs,T.cl,T.nL,rfl,_,rfl,s,C,dx,_,_,rfl,hs,T.cl,T.nP,rfl,l,_,_,_,rfl,rfl,SqL.of hl,eZ hxv,rfl,_,rfl,L[i],cu d,rfl,rfl,_,rfl,?_⟩;have wd:dg L i d=if sw L[i] (cu d) then nJ (dP L[i] (some ((2 * d:Nat):Int)) none) " " else [("":Str)]:=by
  unfold dg;rw [hx]
 cases cs:sw L[i] (cu d) with
 | false =>
  rw [cs] at wd;exact cV (none_ wd _ (cB.refl _))
 | true =>
  rw [cs] at wd;refine du ?_;dsimp only [dY];have bl:=gi d;refine eS ⟨_,rfl,s,C,dx,_,_,rfl,hs,T.cl,T.nL,rfl,_,rfl,s,C,dx,_,_,rfl,hs,T.cl,T.nP,rfl,l,_,_,_,rfl,rfl,SqL.of hl,eZ hxv,_,rfl,cu d,rfl,by omega,((cu d).length:Int),rfl,L[i],rfl,by omega,?_⟩;rw [bl];refine ⟨rfl,_,_,rfl,rfl,by decide,bC (tZ _ _ _) (by omega),fun p hp=>q p _ hp (aD hp _) ?_⟩;rw [ao,wd];rfl
inductive Hr (C:aj) (vs:List V) (H:Hp) (Q:VK) (_e:XK):Prop where
 | mk (s l nl:aj) (L:List Str) (i c d cnt:Nat) (kind:Str) (names:List Str) (_:vs=[.ref s,.int d,.str kind,.int cnt,.ref nl]) (_:LsI C H s l L i c) (_:LOk L) (_:d<=7) (_:2<=cnt) (_:cnt<=3) (_:H nl=some (.lst (names.map V.str))) (_:(∀ H',eA L i d kind cnt names=none->cB H H'->Q .non H')) (_:∀ ws p H',eA L i d kind cnt names=some ws->H p=none->cB H H'->H' p=some (.lst (ws.map V.str))->Q (.ref p) H'):Hr C vs H Q _e
def Ey (C:aj):Sp:=fun vs H Q _e=>Hr C vs H Q _e
abbrev nNd:List Str:=["self","depth","kind","count","names","words"]
abbrev pNd:List Str:=["self","depth","kind","count","names"]
theorem scNd:cH nNd pNd (bf gr):=⟨rfl,rfl,rfl,by decide +kernel,rfl,by decide +kernel,by decide +kernel⟩
theorem Ba (M:Mt K C "named" "Lines.named" gr pNd f fd) (MW:Mt K C "words" "Lines.words" gq pWd fW fdW) (GW:cQ P w K mg base CX0 2 fW fdW pWd (Ex C)) (DI:Df K mg "is_name" jI pNm fI fdI) (T:LT K mg C) (B:Bl mg) (MA:mg "all"=none):cQ P w K mg base CX0 3 f fd pNd (Ey C):=by
 have GI:cQ P w K mg base CX0 1 fI fdI pNm Cb:=A8 DI B MA;refine M.F.ok scNd (fun vs H Q E h=>?_) (fun cdv A outer s H vs Q E hr h=>?_)
 ·obtain ⟨s,l,nl,L,i,c,d,cnt,kind,names,rfl,_⟩:=h;rfl
 obtain ⟨s,l,nl,L,i,c,d,cnt,kind,names,rfl,ls,lok,d7,c2,c3,hnl,qn,q⟩:=h;have r2:dE 2 _:=hr;have r1:dE 1 _:=r2.mono (by omega);obtain ⟨dx,hs⟩:=ls.1;refine ⟨_,aH (cq (i:=5) scNd.nd rfl (Or.inl rfl) (nA (pv 0) T.cl MW.m GW r2 MW.b .nil bQ (bI (pv 1) ak)))
  (aH (df ((jj (aZ rP (cY (dN K (by rfl)) (by rfl) B.len bX (bI (pv 5) ak)) (pv 3) (bD _)) (jj (aZ rP (bR cU (pv 5) aq (fun _ _=>rfl)) (pv 2) (bD _)) (jj (o4 (jC (bq GI r1 (by rfl) DI.m DI.F.kp DI.b .nil bQ (eK (bR cU (pv 5) aq (fun _ _=>rfl)) ak)))) (iP (aZ sQ (bR cU (pv 5) aq (fun _ _=>rfl)) (pv 4) (by with_unfolding_all rfl)))))).pt) (aI (bE dD)) bO)
  (aI (bE (pv 5)))),?_⟩
 have big:=dG;have wk:=lok.ws i d d7;refine aB (bT ⟨_,rfl,s,dx,_,rfl,hs,rfl,_,rfl,s,l,L,i,c,d,rfl,ls,lok,d7,fun p G hp sG hG=>aG ?_⟩);dsimp only;unfold eA at qn q;generalize dg L i d=ws at hG wk qn q;refine aB ⟨_,rfl,p,_,rfl,.inl (SqL.of hG),_,rfl,rfl,_,rfl,?_⟩;rw [Ca,aa]
 by_cases cl:¬ ws.length=cnt
 ·rw [decide_eq_false (show ¬ (ws.length:Int)=cnt by omega)];exact cV (cV (qn _ (by rw [if_neg fun z=>cl z.1]) sG))
 replace cl:=iF.mp cl
 rw [decide_eq_true (show (ws.length:Int)=cnt by omega)]
 match ws,wk,cl with
 | [],wk,_=>exact absurd rfl wk.ne
 | [_],_,cl=>exact absurd cl (by show ¬ 1=cnt; omega)
 | w0 :: w1 :: r,wk,cl =>
  have o1:=wk.ok w1 (by simp);refine du ⟨_,rfl,p,_,0,_,rfl,rfl,SqL.of hG,eZ (j:=0) rfl,_,rfl,rfl,_,rfl,?_⟩;rw [rA]
  by_cases ck:¬ w0=kind
  ·rw [decide_eq_false ck];exact cV (cV (qn _ (by rw [if_neg fun z=>ck (by simpa using z.2.1)]) sG))
  replace ck:=iF.mp ck
  rw [decide_eq_true ck];refine du ⟨_,rfl,p,_,1,_,rfl,rfl,SqL.of hG,eZ (j:=1) rfl,w1,rfl,o1.2,fun G1 g1=>⟨_,rfl,?_⟩⟩;have hG1:=g1 _ _ hG;have hnl1:=g1 _ _ (sG _ _ hnl)
  cases cn:eG w1 with
  | false=>exact cV (cV (qn _ (by rw [if_neg fun z=>by have:=z.2.2; simp [cn] at this]) (sG.trans g1)))
  | true =>
   refine du ⟨_,rfl,p,_,1,_,rfl,rfl,SqL.of hG1,eZ (j:=1) rfl,_,rfl,nl,_,rfl,.inl (SqL.of hnl1),rfl,by simp [oF],_,rfl,?_⟩;rw [if_neg (by decide:¬ (false=true)),y8]
   by_cases ci:w1∈names
   ·rw [decide_eq_true ci];exact cV (qn _ (by rw [if_neg fun z=>by have:=z.2.2; simp [ci] at this]) (sG.trans g1))
   ·rw [decide_eq_false ci];refine du ?_;dsimp only [dY];exact eS ⟨_,rfl,q _ p _ (by rw [if_pos ⟨cl,by simp [ck],by simp [cn,ci]⟩]) hp (sG.trans g1) hG1⟩
end
theorem qH {α:Type} {K:ai} {ti te:TE} {σ:St} {H:Hp} {Q:VK} {a:aj} {us:List V} (xs:List α) (F:α->Str) (hi:∀ R:VK,R (.ref a) H->ti σ H R) (ha:H a=some (.lst us)) (ln:xs.length=us.length) (l:us.length<=900)
  (hs:∀ (i:Nat) (u:V) (x:α) (G:Hp) (R:VK),us[i]?=some u->xs[i]?=some x->cB H G->(∀ G',cB G G'->R (.str (F x)) G')->te ([some u]++σ) G R)
  (q:∀ (p:aj) (G:Hp),cB H G->G p=none->Q (.ref p) (upd G p (.lst ((xs.map F).map V.str)))):nG 1 (vS K ti) (rN 0) rT te σ H Q:=by
 have big:=dG;refine vf (K:=K) (a:=a) (xs:=us) hi (SqL.of ha) (fun i zs G=>cB H G/\zs=((xs.take i).map F).map V.str) ⟨cB.refl _,rfl⟩ ?_ ?_ ?_
 ·rintro i zs G hi ⟨sg,rfl⟩;refine ⟨SqL.of (sg _ _ ha),?_⟩;rw [aa,aa,bP];omega
 ·rintro i u zs G hu ⟨sg,rfl⟩;have il:i < us.length:=(aQ.mp hu).1;have hx:xs[i]?=some (xs[i]'(by omega)):=aN _;refine aG ⟨rfl,?_⟩;unfold rT;refine cV (hs i u _ G _ hu hx sg fun G' g'=>⟨sg.trans g',?_⟩);rw [cX,hx,bA,bA];rfl
 ·rintro zs G ⟨sg,rfl⟩ p hp;rw [<- ln,bZ];exact q p G sg hp
structure Mv (C:aj) (H H':Hp) (s l:aj) (L:List Str) (i c:Nat):Prop where
 ls:LsI C H' s l L i c
 bt:But s H H'
theorem Mv.same {C:aj} {H H1 H2:Hp} {s l:aj} {L:List Str} {i c:Nat} (m:Mv C H H1 s l L i c) (k:cB H1 H2):Mv C H H2 s l L i c:=⟨m.ls.same k,m.bt.same k⟩
theorem LsI.upd {C:aj} {H:Hp} {s l p:aj} {L:List Str} {i c:Nat} (h:LsI C H s l L i c) {o o':HO} (e:H p=some o) (ns:p≠s) (nl:p≠l):LsI C (L2.upd H p o') s l L i c:=by
 obtain ⟨⟨dx,e1⟩,e2⟩:=h;exact ⟨⟨dx,by rw [aX (eU ns)]; exact e1⟩,by rw [aX (eU nl)]; exact e2⟩
theorem LsI.nes {C:aj} {H:Hp} {s l p:aj} {L:List Str} {i c:Nat} (h:LsI C H s l L i c) (n:H p=none):p≠s/\p≠l:=by
 obtain ⟨⟨dx,e1⟩,e2⟩:=h;exact ⟨(fun z=>by rw [z,e1] at n; cases n),(fun z=>by rw [z,e2] at n; cases n)⟩
theorem LsI.tup {C:aj} {H H':Hp} {s l:aj} {L:List Str} {i c:Nat} (h:LsI C H s l L i c) (b:But s H H') {t:aj} {xs:List V} (e:H t=some (.tup xs)):H' t=some (.tup xs):=b _ _ e fun z=>by
 obtain ⟨⟨dx,e1⟩,_⟩:=h;rw [z,e1] at e
 cases e
def BxI (H:Hp) (q:Str×Int) (v:V):Prop:=∃ t,v=.ref t/\H t=some (.tup [.str q.1,.int q.2])
def iq (L:List Str):Nat->Nat->List (Str×Int)->List (Str×Int)×Nat
 | 0,i,acc=>(acc,i)
 | n + 1,i,acc=>match eA L i 1 "box" 3 (acc.map (·.1)) with
  | some [_,nm,wd]=>(match gO wd (-(10 ^ 15)) (10 ^ 15) with
   | some z=>iq L n (i + 1) (acc++[(nm,z)])
   | none=>(acc,i))
  | _=>(acc,i)
theorem qI {L:List Str} {i d cnt:Nat} {kind:Str} {names ws:List Str} (h:eA L i d kind cnt names=some ws):ws.length=cnt/\ws=dg L i d/\∃ w1,ws[1]?=some w1/\eG w1=true/\w1∉names:=by
 unfold eA at h
 split at h
 ·rename_i c
  cases h;refine ⟨c.1,rfl,?_⟩;have c3:=c.2.2
  cases e:(dg L i d)[1]? with
  | none=>rw [e] at c3; cases c3
  | some w1 =>
   rw [e] at c3;simp at c3;exact ⟨w1,rfl,c3.1,c3.2⟩
 ·cases h
theorem Hs {α:Type} {l:List α} (h:l.length=3):∃ a b c,l=[a,b,c]:=by
 match l,h with
 | [a,b,c],_=>exact ⟨a,b,c,rfl⟩
theorem Bb {α:Type} {l:List α} (h:l.length=2):∃ a b,l=[a,b]:=by
 match l,h with
 | [a,b],_=>exact ⟨a,b,rfl⟩
section
variable {P:aS} {w:bN} {K:ai} {mg:Str->Option ag} {base:cI} {f fN fW fP fNi C:aj} {fd fdN fdW fdP fdNi:cf}
seal L2.PS L2.PSs L2.PE L2.PA L2.PT L2.PW L2.PI L2.PG L2.PGs L2.PC L2.PSC L2.PSsC L2.PEC L2.PAC L2.PPs
inductive Ht (C:aj) (vs:List V) (H:Hp) (Q:VK) (_e:XK):Prop where
 | mk (s l:aj) (L:List Str) (i c:Nat) (_:vs=[.ref s]) (_:LsI C H s l L i c) (_:LOk L) (_:∀ bl us H',H bl=none->Mv C H H' s l L (iq L 6 i []).2 c->H' bl=some (.lst us)->cK (BxI H') (iq L 6 i []).1 us->Q (.ref bl) H'):Ht C vs H Q _e
def spBf (C:aj):Sp:=fun vs H Q _e=>Ht C vs H Q _e
abbrev nBf:List Str:=["lines","boxes","words","worth"]
abbrev pBf:List Str:=["lines"]
theorem F6:cH nBf pBf (bf j8):=⟨rfl,rfl,rfl,by decide +kernel,rfl,by decide +kernel,by decide +kernel⟩
theorem ndBf:((["box"]:List Str)++nBf).Nodup:=by decide +kernel
theorem ok_bf (D:Df K mg "boxes_from" j8 pBf f fd) (MN:Mt K C "named" "Lines.named" gr pNd fN fdN) (GN:cQ P w K mg base CX0 3 fN fdN pNd (Ey C)) (MP:Mt K C "pass_by" "Lines.pass_by" dQ pPb fP fdP) (DW:Df K mg "worth_in" mG pWi fW fdW) (GW:dU P w K mg base CX0 2 fW fdW pWi IZ) (T:LT K mg C) (B:Bl mg):dU P w K mg base CX0 4 f fd pBf (spBf C):=by
 have GP:cQ P w K mg base CX0 1 fP fdP pPb (Av C):=wK MP T;refine D.F.okC F6 (fun vs H Q E h=>?_) (fun cdv A outer s H vs Q E hr h=>?_)
 ·obtain ⟨s,l,L,i,c,rfl,_⟩:=h;rfl
 obtain ⟨s,l,L,i,c,rfl,ls,lok,q⟩:=h;have r3:dE 3 _:=hr;have r2:dE 2 _:=r3.mono (by omega);have r1:dE 1 _:=r3.mono (by omega);refine ⟨_,aV (cq (i:=1) F6.nd rfl (Or.inl rfl) (cZ ak)).c
  (aV (qD cN (aZ pw (cY (dN K (by rfl)) (by rfl) B.len bX (bI (pv 1) ak)) aq (bD _)) (aV (cq (i:=2) F6.nd rfl (Or.inl rfl) (nA (pv 0) T.cl MN.m GN r3 MN.b .nil bQ (cS aq (cS aO (cS aq (eJ (kE ["box"] (gE.open (NN:=nBf) (N:=nBf) (sc:=bf j8) rfl rfl (by decide +kernel) rfl (by decide +kernel) (by decide +kernel) rfl (by decide +kernel)) rfl (eV (pv 1)) (fun _ _ _ _=>cT (i:=0) ndBf rfl (Or.inl rfl)) (fun _ _ _ _=>ic) (fun _ _ _ _=>bR (uk K (by rfl)) (pv 0) aq (fun _ _=>rfl))) ak)))))).c
  (aV (ig (i:=3) F6.nd rfl (Or.inl rfl) (B5 (aZ iR (pv 2) dD (bD _)) (dD).c (dW GW r2 (by rfl) DW.m DW.F.kp DW.b .nil bQ (eK (bR cU (pv 2) aq (fun _ _=>rfl)) ak))))
  (aH (df (aZ iR (pv 3) dD (bD _)) (aI rM) bO)
  (aH (dI (jX (pv 0) T.cl MP.m GP r1 MP.b .nil bQ))
  (aI (dI (d9 aP bh bj dR (pv 1) (vc (fz (eK (bR cU (pv 2) aq (fun _ _=>rfl)) (bI (pv 3) ak))) ak) (hs:=vb)))))).c)))
  (aI (bE (pv 1))).c),?_⟩
 obtain ⟨res,hres⟩:∃ r,iq L 6 i []=r:=⟨_,rfl⟩;rw [hres] at q;have big:=dG;refine aB (bT ⟨aR _,fun bl hbl=>aG ?_⟩);dsimp only;have t0:=aD hbl (.lst []);obtain ⟨nbs,nbl⟩:=ls.nes hbl;refine aB ⟨fun m σ G=>∃ (acc:List (Str×Int)) (us:List V) (j:Nat) (u2 u3:Option V),σ=[some (.ref s),some (.ref bl),u2,u3]/\m=6 - acc.length/\acc.length<=6/\Mv C H G s l L j c/\G bl=some (.lst us)/\cK (BxI G) acc us/\res=iq L (6 - acc.length) j acc,⟨6,[],[],i,none,none,rfl,rfl,by decide,⟨ls.same t0,ix t0⟩,ao,.nil,hres.symm⟩,?_⟩;rintro m σ G ⟨acc,us,j,u2,u3,rfl,rfl,a6,mv,hG,pr,eq⟩;have ul:=kG pr;refine ⟨_,rfl,bl,_,rfl,.inl (SqL.of hG),_,_,rfl,rfl,_,rfl,?_⟩;rw [<- ul];have fin:∀ {G:Hp} {us:List V} {u2 u3:Option V},res=(acc,j)->Mv C H G s l L j c->G bl=some (.lst us)->cK (BxI G) acc us->uw (kH 1) {nx:=fun x H'=>Q V.non H',rt:=Q} [some (.ref s),some (.ref bl),u2,u3] G:=fun e mv hG pr=>eS ⟨_,rfl,q bl _ _ hbl (by rw [e]; exact mv) hG (by rw [e]; exact pr)⟩
 by_cases a5:acc.length < 6
 ·rw [decide_eq_true (show (acc.length:Int) < 6 by omega)];obtain ⟨n,hn⟩:∃ n,6 - acc.length=n + 1:=⟨6 - acc.length - 1,by omega⟩;rw [hn] at eq;rw [iq] at eq;refine cV ⟨fun σ' G'=>∃ m',m' < 6 - acc.length/\_,fun _ _ z=>z,?_⟩;obtain ⟨dx,hs⟩:=mv.ls.1;refine aB (bT ⟨_,rfl,s,dx,_,rfl,hs,rfl,?_⟩);dsimp only [gX,tC];refine qH acc (fun q=>q.1) (a:=bl) (us:=us) (fun R hR=>⟨_,rfl,hR⟩) hG ul (by omega) (fun k u x G' R hu hx sG hR=>?_) fun p1 G1 s1 hp1=>?_
  ·obtain ⟨x',hx',t,rfl,ht⟩:=fG pr hu;rw [hx] at hx'
   cases hx';exact ⟨_,rfl,t,_,0,_,rfl,rfl,SqT.of (sG _ _ ht),rfl,hR _ (cB.refl _)⟩
  have s1':=s1.trans (aD hp1 (.lst ((acc.map fun q=>q.1).map V.str)));refine ⟨s,l,p1,L,j,c,1,3,"box",acc.map (·.1),rfl,mv.ls.same s1',lok,by decide,by decide,by decide,ao,fun G2 en g2=>aG ?_,fun ws p2 G2 en hp2 g2 hws=>aG ?_⟩
  ·rw [en] at eq;have sG:=s1'.trans g2;refine aB (bT ⟨_,rfl,rfl,_,rfl,cV (aG ?_)⟩);refine aB ⟨_,rfl,rfl,_,rfl,cV ?_⟩;exact fin eq (mv.same sG) (sG _ _ hG) (ip (fun _ _ ⟨t,e1,e2⟩=>⟨t,e1,sG _ _ e2⟩) pr)
  ·obtain ⟨wl,wp,_⟩:=qI en;obtain ⟨w0,nm,wd,rfl⟩:=Hs wl;rw [en] at eq;dsimp only at eq;have sG:=s1'.trans g2;have wk:=(lok.ws j 1 (by decide)).ok wd (by rw [<- wp]; simp);refine aB (bT ⟨_,rfl,rfl,_,rfl,du ⟨_,rfl,p2,_,2,_,rfl,rfl,SqL.of hws,rfl,wd,rfl,wk.1,wk.2,fun G3 g3=>aG ?_⟩⟩);have sG3:=sG.trans g3;have mv3:=mv.same sG3;have hG3:=sG3 _ _ hG;have pr3:cK (BxI G3) acc us:=ip (fun _ _ ⟨t,e1,e2⟩=>⟨t,e1,sG3 _ _ e2⟩) pr
   cases en2:gO wd (-(10 ^ 15)) (10 ^ 15) with
   | none =>
    rw [en2] at eq;refine aB ⟨_,rfl,rfl,_,rfl,cV ?_⟩;exact fin eq mv3 hG3 pr3
   | some z =>
    rw [en2] at eq;refine aB ⟨_,rfl,rfl,_,rfl,du ?_⟩;dsimp only [dY];obtain ⟨dx3,hs3⟩:=mv3.ls.1;refine aB ⟨_,rfl,s,dx3,_,rfl,hs3,rfl,s,l,L,j,c,rfl,mv3.ls,fun G4 ls4 b4 n4=>?_⟩;have hG4:=b4 _ _ hG3 nbs;have hws4:=b4 _ _ (g3 _ _ hws) (mv.ls.nes (fu fun o z=>by rw [s1' _ _ z] at hp2; cases hp2)).1;have pr4:cK (BxI G4) acc us:=ip (fun _ _ ⟨t,e1,e2⟩=>⟨t,e1,mv3.ls.tup b4 e2⟩) pr3;refine ⟨_,rfl,.inl ⟨rfl,_,SqL.of hG4⟩,_,rfl,p2,_,1,_,rfl,rfl,SqL.of hws4,rfl,_,rfl,by show 2<=ax; omega,fun t ht=>⟨bl,us,_,rfl,rfl,aD ht _ _ _ hG4,by omega,?_⟩⟩;have u5:=aD ht (.tup [.str nm,.int z]);have ls5:=(ls4.same u5).upd (o':=.lst (us++[.ref t])) (u5 _ _ hG4) nbs nbl;have bt5:But s H (upd (upd G4 t (.tup [.str nm,.int z])) bl (.lst (us++[.ref t]))):=fun b o e n=>by
     rw [aX (bw e hbl)];exact u5 _ _ (b4 _ _ (mv3.bt _ _ e n) n)
    have tk:∀ {t':aj} {xs:List V},(upd G4 t (.tup [.str nm,.int z])) t'=some (.tup xs)->(upd (upd G4 t (.tup [.str nm,.int z])) bl (.lst (us++[.ref t]))) t'=some (.tup xs):=fun {t' xs} e=>by
     rw [aX fun y=>by rw [y,u5 _ _ hG4] at e; cases e];exact e
    refine ⟨5 - acc.length,by omega,acc++[(nm,z)],us++[.ref t],j + 1,_,_,rfl,by rw [ae]; show _=6 - (_ + 1); omega,by rw [ae]; show _ + 1<=6; omega,⟨ls5,bt5⟩,ao,mL (ip (fun _ _ ⟨t',e1,e2⟩=>⟨t',e1,tk (u5 _ _ e2)⟩) pr4) (.cons ⟨t,rfl,tk ao⟩ .nil),?_⟩;rw [eq,ae,show 6 - (acc.length + [(nm,z)].length)=n from by show 6 - (acc.length + 1)=n; omega]
 ·rw [decide_eq_false (show ¬ (acc.length:Int) < 6 by omega)];refine du ?_;refine fin ?_ mv hG pr;rw [eq,show 6 - acc.length=0 by omega];rfl
def jh (L names:List Str):Nat->Nat->List Str->List Str×Nat
 | 0,i,acc=>(acc,i)
 | n + 1,i,acc=>match eA L i 1 "queue" 2 (names++acc) with
  | some [_,nm]=>jh L names n (i + 1) (acc++[nm])
  | _=>(acc,i)
inductive Hu (C:aj) (vs:List V) (H:Hp) (Q:VK) (_e:XK):Prop where
 | mk (s l nl:aj) (L:List Str) (i c:Nat) (names:List Str) (_:vs=[.ref s,.ref nl]) (_:LsI C H s l L i c) (_:LOk L) (_:H nl=some (.lst (names.map V.str))) (_:names.length<=10) (_:∀ ql H',H ql=none->Mv C H H' s l L (jh L names 3 i []).2 c->H' ql=some (.lst ((jh L names 3 i []).1.map V.str))->Q (.ref ql) H'):Hu C vs H Q _e
def spQf (C:aj):Sp:=fun vs H Q _e=>Hu C vs H Q _e
abbrev nQf:List Str:=["lines","names","queues","words"]
abbrev pQf:List Str:=["lines","names"]
theorem Ja:cH nQf pQf (bf kF):=⟨rfl,rfl,rfl,by decide +kernel,rfl,by decide +kernel,by decide +kernel⟩
theorem ok_qf (D:Df K mg "queues_from" kF pQf f fd) (MN:Mt K C "named" "Lines.named" gr pNd fN fdN) (GN:cQ P w K mg base CX0 3 fN fdN pNd (Ey C)) (MP:Mt K C "pass_by" "Lines.pass_by" dQ pPb fP fdP) (T:LT K mg C) (B:Bl mg):cQ P w K mg base CX0 4 f fd pQf (spQf C):=by
 have GP:cQ P w K mg base CX0 1 fP fdP pPb (Av C):=wK MP T;refine D.F.ok Ja (fun vs H Q E h=>?_) (fun cdv A outer s H vs Q E hr h=>?_)
 ·obtain ⟨s,l,nl,L,i,c,names,rfl,_⟩:=h;rfl
 obtain ⟨s,l,nl,L,i,c,names,rfl,ls,lok,hnl,n10,q⟩:=h;have r3:dE 3 _:=hr;have r1:dE 1 _:=r3.mono (by omega);refine ⟨_,aH (cq (i:=2) Ja.nd rfl (Or.inl rfl) (cZ ak))
  (aH (CD cN (aZ pw (cY (dN K (by rfl)) (by rfl) B.len bX (bI (pv 2) ak)) aq (bD _)) (aH (cq (i:=3) Ja.nd rfl (Or.inl rfl) (nA (pv 0) T.cl MN.m GN r3 MN.b .nil bQ (cS aq (cS aO (cS aq (g9 (cb j3 (pv 1) (pv 2)) ak))))))
  (aH (df (aZ iR (pv 3) dD (bD _)) (aI rM) bO)
  (aH (dI (jX (pv 0) T.cl MP.m GP r1 MP.b .nil bQ))
  (aI (dI (d9 aP bh bj dR (pv 2) (eK (bR cU (pv 3) aq (fun _ _=>rfl)) ak))))))))
  (aI (bE (pv 2)))),?_⟩
 obtain ⟨res,hres⟩:∃ r,jh L names 3 i []=r:=⟨_,rfl⟩;rw [hres] at q;have big:=dG;have nns:nl≠s:=fun z=>by
  obtain ⟨⟨dx,e⟩,_⟩:=ls;rw [z,e] at hnl
  cases hnl
 refine aB (bT ⟨aR _,fun bl hbl=>aG ?_⟩);dsimp only;have t0:=aD hbl (.lst []);obtain ⟨nbs,nbl⟩:=ls.nes hbl;refine aB ⟨fun m σ G=>∃ (acc:List Str) (j:Nat) (u3:Option V),σ=[some (.ref s),some (.ref nl),some (.ref bl),u3]/\m=3 - acc.length/\acc.length<=3/\Mv C H G s l L j c/\G bl=some (.lst (acc.map V.str))/\res=jh L names (3 - acc.length) j acc,⟨3,[],i,none,rfl,rfl,by decide,⟨ls.same t0,ix t0⟩,ao,hres.symm⟩,?_⟩;rintro m σ G ⟨acc,j,u3,rfl,rfl,a3,mv,hG,eq⟩;refine ⟨_,rfl,bl,_,rfl,.inl (SqL.of hG),_,_,rfl,rfl,_,rfl,?_⟩;rw [aa];have fin:∀ {G:Hp} {u3:Option V},res=(acc,j)->Mv C H G s l L j c->G bl=some (.lst (acc.map V.str))->uw (kH 2) {nx:=fun x H'=>Q V.non H',rt:=Q} [some (.ref s),some (.ref nl),some (.ref bl),u3] G:=fun e mv hG=>eS ⟨_,rfl,q bl _ hbl (by rw [e]; exact mv) (by rw [e]; exact hG)⟩
 by_cases a2:acc.length < 3
 ·rw [decide_eq_true (show (acc.length:Int) < 3 by omega)];obtain ⟨n,hn⟩:∃ n,3 - acc.length=n + 1:=⟨3 - acc.length - 1,by omega⟩;rw [hn] at eq;rw [jh] at eq;refine cV ⟨fun σ' G'=>∃ m',m' < 3 - acc.length/\_,fun _ _ z=>z,?_⟩;obtain ⟨dx,hs⟩:=mv.ls.1;have hnlG:=mv.bt _ _ hnl nns;refine aB (bT ⟨_,rfl,s,dx,_,rfl,hs,rfl,_,rfl,_,rfl,nl,bl,_,_,rfl,rfl,hnlG,hG,by rw [aa,aa]; omega,fun p1 hp1=>?_⟩);have s1:=aD hp1 (.lst (names.map V.str++acc.map V.str));refine ⟨s,l,p1,L,j,c,1,2,"queue",names++acc,rfl,mv.ls.same s1,lok,by decide,by decide,by decide,by rw [ao,bA],fun G2 en g2=>aG ?_,fun ws p2 G2 en hp2 g2 hws=>aG ?_⟩
  ·rw [en] at eq;have sG:=s1.trans g2;refine aB ⟨_,rfl,rfl,_,rfl,cV ?_⟩;exact fin eq (mv.same sG) (sG _ _ hG)
  ·obtain ⟨wl,wp,_⟩:=qI en;obtain ⟨w0,nm,rfl⟩:=Bb wl;rw [en] at eq;dsimp only at eq;have sG:=s1.trans g2;refine aB ⟨_,rfl,rfl,_,rfl,du ?_⟩;dsimp only [dY];have mv3:=mv.same sG;have hG3:=sG _ _ hG;obtain ⟨dx3,hs3⟩:=mv3.ls.1;refine aB ⟨_,rfl,s,dx3,_,rfl,hs3,rfl,s,l,L,j,c,rfl,mv3.ls,fun G4 ls4 b4 n4=>?_⟩;have hG4:=b4 _ _ hG3 nbs;have hws4:=b4 _ _ hws (mv.ls.nes (fu fun o z=>by rw [s1 _ _ z] at hp2; cases hp2)).1;refine ⟨_,rfl,.inl ⟨rfl,_,SqL.of hG4⟩,_,rfl,p2,_,1,_,rfl,rfl,SqL.of hws4,rfl,bl,_,_,rfl,rfl,hG4,by rw [aa]; omega,?_⟩;refine ⟨2 - acc.length,by omega,acc++[nm],j + 1,_,rfl,by rw [ae]; show _=3 - (_ + 1); omega,by rw [ae]; show _ + 1<=3; omega,⟨ls4.upd hG4 nbs nbl,fun b o e n=>?_⟩,by rw [ao,bA]; rfl,?_⟩
   ·rw [aX (bw e hbl)];exact b4 _ _ (mv3.bt _ _ e n) n
   ·rw [eq,ae,show 3 - (acc.length + [nm].length)=n from by show 3 - (acc.length + 1)=n; omega]
 ·rw [decide_eq_false (show ¬ (acc.length:Int) < 3 by omega)];refine du ?_;refine fin ?_ mv hG;rw [eq,show 3 - acc.length=0 by omega];rfl
end
theorem pj {K:ai} {n:Nat} {ti:TE} {g:TG} {tc:L2.TT} {te:TE} {σ:St} {H:Hp} {Q:VK} {xs:List V} (PP:aj->Hp->Prop) (hi:∀ R:VK,(∀ a H1,PP a H1->R (.ref a) H1)->ti σ H R) (hx:∀ a H1,PP a H1->SqL K H1 a xs) (Pv:aj->Hp->Nat->List V->Hp->Prop) (h0:∀ a H1,PP a H1->Pv a H1 0 [] H1)
  (hl:∀ a H1,PP a H1->∀ i ys G,i<=xs.length->Pv a H1 i ys G->SqL K G a xs/\ys.length < ax)
  (hs:∀ a H1,PP a H1->∀ i x ys G,xs[i]?=some x->Pv a H1 i ys G->g x (aJ n none++σ) G fun σ2 H2=>σ2.drop n=σ/\tc σ2 H2 fun b H3=>if b=true then te σ2 H3 fun y H4=>Pv a H1 (i + 1) (ys++[y]) H4 else Pv a H1 (i + 1) ys H3)
  (hd:∀ a H1,PP a H1->∀ ys G,Pv a H1 xs.length ys G->∀ p,G p=none->Q (.ref p) (upd G p (.lst ys))):nG n (vS K ti) g tc te σ H Q:=
 hi _ fun a H1 p=>⟨a,rfl,⟨xs,hx a H1 p⟩,qC (Pv a H1) (h0 a H1 p) (hl a H1 p) (hs a H1 p) (hd a H1 p)⟩
section
variable {P:aS} {w:bN} {K:ai} {mg:Str->Option ag} {base:cI} {f fN fW fP fNi C:aj} {fd fdN fdW fdP fdNi:cf}
seal L2.PS L2.PSs L2.PE L2.PA L2.PT L2.PW L2.PI L2.PG L2.PGs L2.PC L2.PSC L2.PSsC L2.PEC L2.PAC L2.PPs
def pA (lo hi:Int):List Str->Option (List Int)
 | []=>some []
 | w :: ws=>match gO w lo hi,pA lo hi ws with
  | some z,some zs=>some (z :: zs)
  | _,_=>none
def jN (lo hi:Int) (ws:List Str):List V:=ws.map fun w=>xU (gO w lo hi)
theorem Ez (o:Option Int):oF (xU o)=true:=by cases o <;> rfl
theorem Bc {lo hi:Int}:∀ {ws:List Str},pA lo hi ws=none->inV .non (jN lo hi ws)=true
 | [],h=>by cases h
 | w :: ws,h=>by
  rw [pA] at h;show (eqV (xU _) .non || inV .non (jN lo hi ws))=true
  cases e:gO w lo hi with
  | none=>rfl
  | some z =>
   rw [e] at h
   cases e2:pA lo hi ws with
   | none=>rw [Bc e2,zz]
   | some zs=>rw [e2] at h; cases h
theorem y9 {lo hi:Int}:∀ {ws:List Str} {zs:List Int},pA lo hi ws=some zs->inV .non (jN lo hi ws)=false/\jN lo hi ws=zs.map V.int
 | [],zs,h=>by cases h; exact ⟨rfl,rfl⟩
 | w :: ws,zs,h=>by
  rw [pA] at h
  cases e:gO w lo hi with
  | none=>rw [e] at h; cases h
  | some z =>
   rw [e] at h
   cases e2:pA lo hi ws with
   | none=>rw [e2] at h; cases h
   | some zs' =>
    rw [e2] at h
    cases h;obtain ⟨i1,i2⟩:=y9 e2;refine ⟨?_,?_⟩
    ·show (eqV (xU _) .non || inV .non (jN lo hi ws))=false;rw [e,i1];rfl
    ·show xU _ :: jN lo hi ws=_;rw [e,i2];rfl
theorem wM {lo hi:Int}:∀ ws:List Str,(jN lo hi ws).all oF=true
 | []=>rfl
 | w :: ws=>by
  show (oF (xU _) && (jN lo hi ws).all oF)=true;rw [Ez,wM ws];rfl
theorem sy (xs:List V) (k:Nat):jZ xs (some (k:Int)) none=xs.drop k:=by
 unfold jZ;rw [HT.sIx_none,HT.sIx_nat]
 rcases Nat.le_total k xs.length with h | h
 ·rw [jS h,<- kO,bZ]
 ·rw [Nat.min_eq_right h,uq,List.drop_of_length_le h];exact List.take_nil
def lu (L:List Str) (i:Nat):List Int×Nat:=match dg L i 1 with
 | []=>([],i)
 | w0 :: r=>if w0="draws"/\1<=r.length/\r.length<=20 then (match pA 0 (10 ^ 15) r with | some zs=>(zs,i + 1) | none=>([],i)) else ([],i)
inductive Hv (C:aj) (vs:List V) (H:Hp) (Q:VK) (_e:XK):Prop where
 | mk (s l:aj) (L:List Str) (i c:Nat) (_:vs=[.ref s]) (_:LsI C H s l L i c) (_:LOk L) (_:∀ dl H',H dl=none->Mv C H H' s l L (lu L i).2 c->H' dl=some (.lst ((lu L i).1.map V.int))->Q (.ref dl) H'):Hv C vs H Q _e
def spDf (C:aj):Sp:=fun vs H Q _e=>Hv C vs H Q _e
abbrev nDf:List Str:=["lines","words","draws"]
abbrev pDf:List Str:=["lines"]
theorem Jb:cH nDf pDf (bf j9):=⟨rfl,rfl,rfl,by decide +kernel,rfl,by decide +kernel,by decide +kernel⟩
theorem ndDf:((["word"]:List Str)++nDf).Nodup:=by decide +kernel
theorem ok_df (D:Df K mg "draws_from" j9 pDf f fd) (MW:Mt K C "words" "Lines.words" gq pWd fW fdW) (GW:cQ P w K mg base CX0 2 fW fdW pWd (Ex C)) (MP:Mt K C "pass_by" "Lines.pass_by" dQ pPb fP fdP) (DNi:Df K mg "number_in" iU pNi fNi fdNi) (GNi:dU P w K mg base CX0 1 fNi fdNi pNi F0) (T:LT K mg C) (B:Bl mg):dU P w K mg base CX0 3 f fd pDf (spDf C):=by
 have GP:cQ P w K mg base CX0 1 fP fdP pPb (Av C):=wK MP T;refine D.F.okC Jb (fun vs H Q E h=>?_) (fun cdv A outer s H vs Q E hr h=>?_)
 ·obtain ⟨s,l,L,i,c,rfl,_⟩:=h;rfl
 obtain ⟨s,l,L,i,c,rfl,ls,lok,q⟩:=h;have r2:dE 2 _:=hr;have r1:dE 1 _:=r2.mono (by omega);obtain ⟨dx,hs⟩:=ls.1;refine ⟨_,aV (cq (i:=1) Jb.nd rfl (Or.inl rfl) (nA (pv 0) T.cl MW.m GW r2 MW.b .nil bQ (cS aq ak))).c
  (aV (Ec (i:=2) ["word"] (gE.open (NN:=nDf) (N:=nDf) (sc:=bf j9) rfl rfl (by decide +kernel) rfl (by decide +kernel) (by decide +kernel) rfl (by decide +kernel)) rfl Jb.nd rfl (Or.inl rfl) (eV (gM nC (pv 1) (ib aq) i7)) (fun _ _ _ _=>cT (i:=0) ndDf rfl (Or.inl rfl)) (fun _ _ _ _=>ic) (fun _ _ _ _=>dW GNi r1 (by rfl) DNi.m DNi.F.kp DNi.b .nil bQ (bI (pv 0) (cS aq (g9 (cb qc aq aq) ak)))))
  (aH (df ((jj (aZ rP (bR cU (pv 1) aq (fun _ _=>rfl)) aO (bD _)) (jj (o4 (CK AH AH aq (cY (dN K (by rfl)) (by rfl) B.len bX (bI (pv 2) ak)) aq)) (iP (aZ sQ dD (pv 2) (by with_unfolding_all rfl))))).pt) (aI (bE (cZ ak))) bO)
  (aH (dI (jX (pv 0) T.cl MP.m GP r1 MP.b .nil bQ))
  (aI (bE (pv 2))))).c),?_⟩
 have big:=dG;have wk:=lok.ws i 1 (by decide);refine aB (bT ⟨_,rfl,s,dx,_,rfl,hs,rfl,s,l,L,i,c,1,rfl,ls,lok,by decide,fun p G hp sG hG=>aG ?_⟩);dsimp only;unfold lu at q;generalize dg L i 1=ws at hG wk q
 match ws,wk with
 | [],wk=>exact absurd rfl wk.ne
 | w0 :: r,wk =>
  have rl:r.length<=900:=by have:=wk.many; rw [aE] at this; omega
  have cut:jZ ((w0 :: r).map V.str) (some 1) none=r.map V.str:=sy _ 1;have wl:(r.map V.str).length=r.length:=aa ..;refine aB (bT (pj (K:=K) (xs:=r.map V.str) (fun a H1=>H1 a=some (.lst (r.map V.str))/\cB G H1) (fun R hR=>⟨_,rfl,1,rfl,p,_,rfl,SqL.of hG,fun p1 hp1=>hR p1 _ ⟨by rw [ao,cut],aD hp1 _⟩⟩) (fun a H1 z=>SqL.of z.1) (fun a H1 i zs G2=>G2 a=some (.lst (r.map V.str))/\cB G G2/\zs=jN 0 (10 ^ 15) (r.take i)) (fun a H1 z=>⟨z.1,z.2,rfl⟩) ?_ ?_ ?_))
  ·rintro a H1 ⟨e1,s1⟩ i zs G2 hi ⟨e2,s2,rfl⟩;refine ⟨SqL.of e2,?_⟩;unfold jN;rw [aa,bP];omega
  ·rintro a H1 ⟨e1,s1⟩ i x zs G2 hu ⟨e2,s2,rfl⟩;obtain ⟨y,hy,rfl⟩:∃ y,r[i]?=some y/\x=V.str y:=by
    rw [cw] at hu;obtain ⟨y,e1,e2⟩:=c8.mp hu;exact ⟨y,e1,e2.symm⟩
   obtain ⟨ya,yl⟩:=wk.ok y (ar _ (bS hy));have cp:EY 10 15:=⟨by decide,by decide,by decide⟩;refine aG ⟨rfl,?_⟩;unfold rT;refine cV ⟨_,rfl,_,_,rfl,rfl,cp,y,0,10 ^ 15,rfl,ya,yl,fun G3 g3=>⟨g3 _ _ e2,s2.trans g3,?_⟩⟩;unfold jN;rw [cX,hy,bA];rfl
  rintro a H1 ⟨e1,s1⟩ zs G2 ⟨e2,s2,rfl⟩ dl hdl;rw [wl,bZ];refine aG ?_;dsimp only;have u3:=aD hdl (.lst (jN 0 (10 ^ 15) r));have s3:=s2.trans u3;have sH:=sG.trans s3;have hG3:=s3 _ _ hG;have ndl:H dl=none:=fu fun o z=>by rw [s2 _ _ (sG _ _ z)] at hdl; cases hdl
  have nol:(jN 0 (10 ^ 15) r).length=r.length:=aa ..;have none_:(match (w0 :: r) with
    | []=>(([]:List Int),i)
    | w0 :: r=>if w0="draws"/\1<=r.length/\r.length<=20 then (match pA 0 (10 ^ 15) r with | some zs=>(zs,i + 1) | none=>([],i)) else ([],i))=([],i)->∀ {u1 u2:Option V},uw (Im rg) {nx:=fun x H'=>Q V.non H',rt:=Q} [some (.ref s),u1,u2] (upd G2 dl (.lst (jN 0 (10 ^ 15) r))):=fun e=>by
   intro u1 u2;rw [e] at q;refine eS ⟨aR _,fun p4 hp4=>q p4 _ (fu fun o z=>by rw [sH _ _ z] at hp4; cases hp4) ⟨(ls.same sH).same (aD hp4 _),ix (sH.trans (aD hp4 _))⟩ ao⟩
  dsimp only at none_ q;refine aB ⟨_,rfl,p,_,0,_,rfl,rfl,SqL.of hG3,eZ (j:=0) rfl,rfl,_,rfl,?_⟩;rw [rA]
  by_cases c0:¬ w0="draws"
  ·rw [decide_eq_false c0];exact cV (cV (none_ (if_neg fun z=>c0 z.1)))
  replace c0:=iF.mp c0
  rw [decide_eq_true c0];have hdl3:(upd G2 dl (.lst (jN 0 (10 ^ 15) r))) dl=some (.lst (jN 0 (10 ^ 15) r)):=ao;refine du ⟨_,rfl,dl,_,rfl,.inl (SqL.of hdl3),_,_,rfl,rfl,_,rfl,?_⟩;rw [nol]
  by_cases c1:¬ 1<=r.length
  ·rw [decide_eq_false (show ¬ (1:Int)<=(r.length:Int) by omega)];exact du ⟨_,rfl,cV (cV (none_ (if_neg fun z=>c1 z.2.1)))⟩
  replace c1:=iF.mp c1
  rw [decide_eq_true (show (1:Int)<=(r.length:Int) by omega)];refine cV ⟨_,_,rfl,rfl,_,rfl,?_⟩
  by_cases c2:¬ r.length<=20
  ·rw [decide_eq_false (show ¬ (r.length:Int)<=20 by omega)];exact cV (cV (none_ (if_neg fun z=>c2 z.2.2)))
  replace c2:=iF.mp c2
  rw [decide_eq_true (show (r.length:Int)<=20 by omega)];rw [if_pos ⟨c0,c1,c2⟩] at q none_;refine du ⟨_,rfl,dl,_,rfl,.inl (SqL.of hdl3),rfl,wM r,_,rfl,?_⟩
  cases e:pA 0 (10 ^ 15) r with
  | none =>
   rw [e] at q none_;rw [show (if false=true then !inV .non (jN 0 (10 ^ 15) r) else inV .non (jN 0 (10 ^ 15) r))=true from Bc e];exact cV (none_ rfl)
  | some zs =>
   rw [e] at q;obtain ⟨e1',e2'⟩:=y9 e;rw [show (if false=true then !inV .non (jN 0 (10 ^ 15) r) else inV .non (jN 0 (10 ^ 15) r))=false from e1'];refine du ?_;dsimp only [dY];have ls3:=ls.same sH;obtain ⟨dx3,hs3⟩:=ls3.1;refine aB ⟨_,rfl,s,dx3,_,rfl,hs3,rfl,s,l,L,i,c,rfl,ls3,fun G4 ls4 b4 n4=>?_⟩;dsimp only;refine eS ⟨_,rfl,q dl _ ndl ⟨ls4,(ix sH).trans b4⟩ ?_⟩;rw [<- e2'];exact b4 _ _ hdl3 (ls.nes ndl).1
end
inductive Dh where
 | leaf (d:De)
 | pull (x y:Str)
 | iff (f:Fo)
def wN (ws:List Str):Option Dh:=match ws with
 | _ :: w1 :: w2 :: w3 :: r=>if eG w2=true then (match gO w1 0 5,gO w3 0 9,ki r 3 with
  | some z,some y,some [f1,f2,f3]=>some (.leaf (.send z w2 f1 y f2 f3))
  | _,_,_=>none) else none
 | _=>none
def wO (r:List Str):Option Dh:=match r with
 | [x,y]=>if eG x=true/\eG y=true then some (.pull x y) else none
 | _=>none
def ifW (r:List Str):Option Dh:=match ki r 1 with
 | some [f]=>some (.iff f)
 | _=>none
def rB (w0:Str) (r:List Str):Option Dh:=match ki (r.drop 1) 1,r with
 | some [f],w1 :: _=>if eG w1=true then some (.leaf (.three w0 w1 f)) else none
 | _,_=>none
def iY (ws:List Str):Option Dh:=match ws with
 | []=>none
 | w0 :: r=>if w0="send" then wN (w0 :: r) else if w0="end" then (if r=[] then some (.leaf .fin) else none)
  else if w0="pull" then wO r else if w0="if" then ifW r else if w0∈[("put":Str),"push","draw"] then rB w0 r else none
theorem qJ (w0:Str) (r:List Str):iY (w0 :: r)=if w0="send" then wN (w0 :: r) else if w0="end" then (if r=[] then some (.leaf .fin) else none)
  else if w0="pull" then wO r else if w0="if" then ifW r else if w0∈[("put":Str),"push","draw"] then rB w0 r else none:=rfl
theorem Bd (x y:Str):wO [x,y]=if eG x=true/\eG y=true then some (.pull x y) else none:=rfl
theorem F7 {r:List Str} (h:r.length≠2):wO r=none:=by
 unfold wO
 split
 ·exact absurd rfl h
 ·rfl
theorem ifW_n {r:List Str} (h:ki r 1=none):ifW r=none:=by
 unfold ifW;rw [h]
theorem Hw {r:List Str} {f:Fo} (h:ki r 1=some [f]):ifW r=some (.iff f):=by
 unfold ifW;rw [h]
theorem EA {w0:Str} {r:List Str} (h:ki (r.drop 1) 1=none):rB w0 r=none:=by
 unfold rB;rw [h]
theorem za {w0 w1:Str} {r:List Str} {f:Fo} (h:ki r 1=some [f]):rB w0 (w1 :: r)=if eG w1=true then some (.leaf (.three w0 w1 f)) else none:=by
 unfold rB;rw [show (w1 :: r).drop 1=r from rfl,h]
def LfF (H:Hp) (d:De) (v:V):Prop:=match d with
 | .fin=>∃ t,v=.ref t/\H t=some (.tup [.str "end"])
 | .three k x f=>∃ t u,v=.ref t/\H t=some (.tup [.str k,.str x,u])/\gU H f u
 | .send z x f1 y f2 f3=>∃ t u1 u2 u3,v=.ref t/\H t=some (.tup [.str "send",.int z,.str x,u1,.int y,u2,u3])/\gU H f1 u1/\gU H f2 u2/\gU H f3 u3
 | _=>False
def DhIn (H:Hp) (d:Dh) (v:V):Prop:=match d with
 | .leaf d=>LfF H d v
 | .pull x y=>∃ t,v=.ref t/\H t=some (.tup [.str "pull",.str x,.str y])
 | .iff f=>∃ t u,v=.ref t/\H t=some (.tup [.str "if",u])/\gU H f u
theorem Aw {ws:List Str} {n:Nat} {fs:List Fo} (h:ki ws n=some fs):fs.length=n:=by
 unfold ki at h
 split at h
 ·cases h
 ·split at h
  ·cases h
  ·split at h
   ·cases h
   ·rename_i c
    cases h;exact iF.mp fun z=>c (.inl z)
section
variable {P:aS} {w:bN} {K:ai} {mg:Str->Option ag} {base:cI} {f fN fI fF fS:aj} {fd fdN fdI fdF fdS:cf}
seal L2.PS L2.PSs L2.PE L2.PA L2.PT L2.PW L2.PI L2.PG L2.PGs L2.PC L2.PSC L2.PSsC L2.PEC L2.PAC L2.PPs
def dhV (H:Hp) (d:Option Dh) (v:V):Prop:=match d with
 | none=>v=.non
 | some d=>DhIn H d v
inductive Hx (r:List Str->Option Dh) (vs:List V) (H:Hp) (Q:VK) (_e:XK):Prop where
 | mk (l:aj) (ws:List Str) (_:vs=[.ref l]) (_:H l=some (.lst (ws.map V.str))) (_:WOk ws) (_:∀ v H',cB H H'->dhV H' (r ws) v->Q v H'):Hx r vs H Q _e
def EB (r:List Str->Option Dh):Sp:=fun vs H Q _e=>Hx r vs H Q _e
abbrev nSo:List Str:=["words","to","rank","found"]
abbrev pSo:List Str:=["words"]
theorem F8:cH nSo pSo (bf qF):=⟨rfl,rfl,rfl,by decide +kernel,rfl,by decide +kernel,by decide +kernel⟩
theorem ok_so (D:Df K mg "send_of" qF pSo f fd) (DN:Df K mg "number_in" iU pNi fN fdN) (GN:dU P w K mg base CX0 1 fN fdN pNi F0) (DI:Df K mg "is_name" jI pNm fI fdI) (DF:Df K mg "formulas_in" iB pFi fF fdF) (GF:dU P w K mg base CX0 61 fF fdF pFi I9) (B:Bl mg) (MA:mg "all"=none):dU P w K mg base CX0 62 f fd pSo (EB wN):=by
 have GI:cQ P w K mg base CX0 1 fI fdI pNm Cb:=A8 DI B MA;refine D.F.okC F8 (fun vs H Q E h=>?_) (fun cdv A outer s H vs Q E hr h=>?_)
 ·obtain ⟨l,ws,rfl,_⟩:=h;rfl
 obtain ⟨l,ws,rfl,hl,wk,q⟩:=h;have r61:dE 61 _:=hr;have r1:dE 1 _:=r61.mono (by omega);refine ⟨_,aV (df ((jj (aZ pw (cY (dN K (by rfl)) (by rfl) B.len bX (bI (pv 0) ak)) aq (bD _)) (iP (o4 (jC (bq GI r1 (by rfl) DI.m DI.F.kp DI.b .nil bQ (eK (bR cU (pv 0) aq (fun _ _=>rfl)) ak)))))).pt) (aI (bE dD)) bO).c
  (aV (ig (i:=1) F8.nd rfl (Or.inl rfl) (dW GN r1 (by rfl) DN.m DN.F.kp DN.b .nil bQ (eK (bR cU (pv 0) aq (fun _ _=>rfl)) (cS aq (cS aq ak)))))
  (aV (ig (i:=2) F8.nd rfl (Or.inl rfl) (dW GN r1 (by rfl) DN.m DN.F.kp DN.b .nil bQ (eK (bR cU (pv 0) aq (fun _ _=>rfl)) (cS aq (cS aq ak)))))
  (aV (ig (i:=3) F8.nd rfl (Or.inl rfl) (dW GF r61 (by rfl) DF.m DF.F.kp DF.b .nil bQ (eK (gM nC (pv 0) (ib aq) i7) (cS aq ak))))
  (aH (df ((jj (aZ iR (pv 1) dD (bD _)) (jj (aZ iR (pv 2) dD (bD _)) (iP (aZ iR (pv 3) dD (bD _))))).pt) (aI (bE dD)) bO)
  (aI (bE (fz (cS aO (bI (pv 1) (eK (bR cU (pv 0) aq (fun _ _=>rfl)) (eK (bR cU (pv 3) aq (fun _ _=>rfl)) (bI (pv 2) (eK (bR cU (pv 3) aq (fun _ _=>rfl)) (eK (bR cU (pv 3) aq (fun _ _=>rfl)) ak))))))))))).c))),?_⟩
 have big:=dG;refine aB ⟨_,rfl,l,_,rfl,.inl (SqL.of hl),_,_,rfl,rfl,_,rfl,?_⟩;rw [aa]
 match ws,hl,wk,q with
 | [],_,wk,_=>exact absurd rfl wk.ne
 | [_],_,_,q=>exact cV (cV (q .non _ (cB.refl _) rfl))
 | [_,_],_,_,q=>exact cV (cV (q .non _ (cB.refl _) rfl))
 | [_,_,_],_,_,q=>exact cV (cV (q .non _ (cB.refl _) rfl))
 | w0 :: w1 :: w2 :: w3 :: r,hl,wk,q =>
  rw [decide_eq_false (show ¬ (((w0 :: w1 :: w2 :: w3 :: r).length:Nat):Int) < 4 by simp only [aE]; omega)];have sd:wN (w0 :: w1 :: w2 :: w3 :: r)=if eG w2=true then (match gO w1 0 5,gO w3 0 9,ki r 3 with
   | some z,some y,some [f1,f2,f3]=>some (.leaf (.send z w2 f1 y f2 f3))
   | _,_,_=>none) else none:=rfl
  rw [sd] at q;clear sd;have o1:=wk.ok w1 (by simp);have o2:=wk.ok w2 (by simp);have o3:=wk.ok w3 (by simp);refine du ⟨_,rfl,l,_,2,_,rfl,rfl,SqL.of hl,eZ (j:=2) rfl,w2,rfl,o2.2,fun G1 g1=>⟨_,rfl,?_⟩⟩
  cases cn:eG w2 with
  | false =>
   rw [cn] at q;exact cV (q .non _ g1 rfl)
  | true =>
   rw [cn,if_pos rfl] at q;refine du ?_;dsimp only [dY];have hl1:=g1 _ _ hl;refine aB (bT ⟨_,rfl,l,_,1,_,rfl,rfl,SqL.of hl1,eZ (j:=1) rfl,w1,0,5,rfl,o1.1,o1.2,fun G2 g2=>aG ?_⟩);dsimp only;have hl2:=g2 _ _ hl1;refine aB (bT ⟨_,rfl,l,_,3,_,rfl,rfl,SqL.of hl2,eZ (j:=3) rfl,w3,0,9,rfl,o3.1,o3.2,fun G3 g3=>aG ?_⟩);dsimp only;have hl3:=g3 _ _ hl2;refine aB (bT ⟨_,rfl,4,rfl,l,_,rfl,SqL.of hl3,fun p hp=>?_⟩);have cut:jZ ((w0 :: w1 :: w2 :: w3 :: r).map V.str) (some 4) none=r.map V.str:=sy _ 4;rw [cut];have u4:=aD hp (.lst (r.map V.str));refine ⟨p,r,3,rfl,⟨ao,fun x m=>wk.ok x (by simp [m])⟩,by decide,by decide,fun G5 v g5 hv=>aG ?_⟩;have sG:=(((g1.trans g2).trans g3).trans u4).trans g5;have hl5:=sG _ _ hl;have q':=fun v' H' s' d'=>q v' H' (sG.trans s') d';clear q;dsimp only
   cases e1:gO w1 0 5 with
   | none =>
    rw [e1] at q';exact aB ⟨_,rfl,rfl,_,rfl,cV (cV (q' .non _ (cB.refl _) rfl))⟩
   | some z =>
    refine aB ⟨_,rfl,rfl,_,rfl,du ?_⟩
    cases e2:gO w3 0 9 with
    | none =>
     rw [e1,e2] at q';exact ⟨_,rfl,rfl,_,rfl,cV (cV (q' .non _ (cB.refl _) rfl))⟩
    | some y =>
     refine ⟨_,rfl,rfl,_,rfl,du ?_⟩
     cases e3:ki r 3 with
     | none =>
      rw [e1,e2,e3] at q';rw [e3] at hv;have hv':v=.non:=hv;subst hv';exact ⟨_,rfl,rfl,_,rfl,cV (q' .non _ (cB.refl _) rfl)⟩
     | some fs =>
      obtain ⟨f1,f2,f3,rfl⟩:=Hs (Aw e3);rw [e1,e2,e3] at q';rw [e3] at hv;obtain ⟨fp,us,rfl,hfp,pr⟩:=hv
      cases pr with
      | cons p1 pr=>cases pr with
       | cons p2 pr=>cases pr with
        | cons p3 pr =>
         cases pr;refine ⟨_,rfl,rfl,_,rfl,du ?_⟩;dsimp only [dY];refine eS ⟨_,rfl,_,rfl,l,_,2,_,rfl,rfl,SqL.of hl5,eZ (j:=2) rfl,_,rfl,fp,_,0,_,rfl,rfl,SqL.of hfp,rfl,_,rfl,_,rfl,fp,_,1,_,rfl,rfl,SqL.of hfp,rfl,_,rfl,fp,_,2,_,rfl,rfl,SqL.of hfp,rfl,by show 7<=ax; omega,fun t ht=>?_⟩;exact q' _ _ (aD ht _) ⟨t,_,_,_,rfl,ao,p1.same (aD ht _),p2.same (aD ht _),p3.same (aD ht _)⟩
abbrev nDo:List Str:=["words","kind","found"]
abbrev pDo:List Str:=["words"]
theorem F9:cH nDo pDo (bf oM):=⟨rfl,rfl,rfl,by decide +kernel,rfl,by decide +kernel,by decide +kernel⟩
theorem ok_do (D:Df K mg "deed_of" oM pDo f fd) (DS:Df K mg "send_of" qF pSo fS fdS) (GS:dU P w K mg base CX0 62 fS fdS pSo (EB wN)) (DI:Df K mg "is_name" jI pNm fI fdI) (DF:Df K mg "formulas_in" iB pFi fF fdF) (GF:dU P w K mg base CX0 61 fF fdF pFi I9) (B:Bl mg) (MA:mg "all"=none):dU P w K mg base CX0 63 f fd pDo (EB iY):=by
 have GI:cQ P w K mg base CX0 1 fI fdI pNm Cb:=A8 DI B MA;refine D.F.okC F9 (fun vs H Q E h=>?_) (fun cdv A outer s H vs Q E hr h=>?_)
 ·obtain ⟨l,ws,rfl,_⟩:=h;rfl
 obtain ⟨l,ws,rfl,hl,wk,q⟩:=h;have r62:dE 62 _:=hr;have r61:dE 61 _:=r62.mono (by omega);have r1:dE 1 _:=r61.mono (by omega);refine ⟨_,aV (cq (i:=1) F9.nd rfl (Or.inl rfl) (bR cU (pv 0) aq (fun _ _=>rfl))).c
  (aV (uT (aZ d8 (pv 1) aO (bD _)) (j4 (rY (dW GS r62 (by rfl) DS.m DS.F.kp DS.b .nil bQ (bI (pv 0) ak)))) bO.c)
  (aV (df (aZ d8 (pv 1) aO (bD _)) (aI (bE (oC (aZ d8 (cY (dN K (by rfl)) (by rfl) B.len bX (bI (pv 0) ak)) aq (bD _)) (fz (cS aO ak)) dD))) bO).c
  (aV (df (aZ d8 (pv 1) aO (bD _)) (aI (bE (oC ((p9 (aZ d8 (cY (dN K (by rfl)) (by rfl) B.len bX (bI (pv 0) ak)) aq (bD _)) (p9 (jC (bq GI r1 (by rfl) DI.m DI.F.kp DI.b .nil bQ (eK (bR cU (pv 0) aq (fun _ _=>rfl)) ak))) (oZ (jC (bq GI r1 (by rfl) DI.m DI.F.kp DI.b .nil bQ (eK (bR cU (pv 0) aq (fun _ _=>rfl)) ak)))))).pt) (fA vG (by rfl) B.tuple boot_tuple (bI (pv 0) ak)) dD))) bO).c
  (aV (uT (aZ d8 (pv 1) aO (bD _)) (aV (ig (i:=2) F9.nd rfl (Or.inl rfl) (dW GF r61 (by rfl) DF.m DF.F.kp DF.b .nil bQ (eK (gM nC (pv 0) (ib aq) i7) (cS aq ak))))
  (aI (bE (oC (aZ iR (pv 2) dD (bD _)) dD (fz (cS aO (eK (bR cU (pv 2) aq (fun _ _=>rfl)) ak)))))).c) bO.c)
  (aV (uT (aZ sQ (pv 1) (fz (cS aO (cS aO (cS aO ak)))) (by with_unfolding_all rfl)) (aV (ig (i:=2) F9.nd rfl (Or.inl rfl) (dW GF r61 (by rfl) DF.m DF.F.kp DF.b .nil bQ (eK (gM nC (pv 0) (ib aq) i7) (cS aq ak))))
  (aI (bE (oC ((jj (aZ iR (pv 2) dD (bD _)) (iP (o4 (jC (bq GI r1 (by rfl) DI.m DI.F.kp DI.b .nil bQ (eK (bR cU (pv 0) aq (fun _ _=>rfl)) ak)))))).pt) dD (fz (bI (pv 1) (eK (bR cU (pv 0) aq (fun _ _=>rfl)) (eK (bR cU (pv 2) aq (fun _ _=>rfl)) ak))))))).c) bO.c)
  (aI (bE dD)).c))))),?_⟩
 have big:=dG
 match ws,hl,wk,q with
 | [],_,wk,_=>exact absurd rfl wk.ne
 | w0 :: r,hl,wk,q =>
  rw [qJ] at q;refine aB (bT ⟨_,rfl,l,_,0,_,rfl,rfl,SqL.of hl,eZ (j:=0) rfl,aG ?_⟩);dsimp only;refine aB ⟨_,rfl,rfl,_,rfl,?_⟩;rw [rA]
  by_cases c1:w0="send"
  ·rw [decide_eq_true c1];rw [if_pos c1] at q;exact cV (eS ⟨_,rfl,l,_,rfl,hl,wk,fun v H' s' d'=>q v H' s' d'⟩)
  rw [decide_eq_false c1];rw [if_neg c1] at q;refine du ?_;dsimp only [dY];refine aB ⟨_,rfl,rfl,_,rfl,?_⟩;rw [rA]
  by_cases c2:w0="end"
  ·rw [decide_eq_true c2];rw [if_pos c2] at q;refine cV (eS ⟨_,rfl,l,_,rfl,.inl (SqL.of hl),rfl,_,rfl,?_⟩);rw [Ca,aa]
   by_cases c3:r=[]
   ·subst c3;rw [if_pos rfl] at q;refine cV ⟨by show 1<=ax; omega,fun t ht=>q _ _ (aD ht _) ⟨t,rfl,ao⟩⟩
   ·rw [if_neg c3] at q;have:r.length≠0:=fun z=>c3 (List.eq_nil_of_length_eq_zero z);rw [decide_eq_false (show ¬ (((w0 :: r).length:Nat):Int)=1 by rw [aE]; omega)];exact du (q .non _ (cB.refl _) rfl)
  rw [decide_eq_false c2];rw [if_neg c2] at q;refine du ?_;dsimp only [dY];refine aB ⟨_,rfl,rfl,_,rfl,?_⟩;rw [rA]
  by_cases c3:w0="pull"
  ·rw [decide_eq_true c3];rw [if_pos c3] at q;refine cV (eS ⟨_,rfl,l,_,rfl,.inl (SqL.of hl),rfl,_,rfl,?_⟩);rw [Ca,aa]
   by_cases c4:r.length=2
   ·rw [decide_eq_true (show (((w0 :: r).length:Nat):Int)=3 by rw [aE]; omega)];obtain ⟨x,y,rfl⟩:=Bb c4;have ox:=wk.ok x (by simp);have oy:=wk.ok y (by simp);rw [Bd] at q;refine cV ⟨_,rfl,l,_,1,_,rfl,rfl,SqL.of hl,eZ (j:=1) rfl,x,rfl,ox.2,fun G1 g1=>⟨_,rfl,?_⟩⟩
    cases cx:eG x with
    | false =>
     rw [cx,if_neg fun z=>absurd z.1 (by decide)] at q;exact du (du (q .non _ g1 rfl))
    | true =>
     have hl1:=g1 _ _ hl;refine cV ⟨_,rfl,l,_,2,_,rfl,rfl,SqL.of hl1,eZ (j:=2) rfl,y,rfl,oy.2,fun G2 g2=>⟨_,rfl,?_⟩⟩
     cases cy:eG y with
     | false =>
      rw [cx,cy,if_neg fun z=>absurd z.2 (by decide)] at q;exact du (q .non _ (g1.trans g2) rfl)
     | true =>
      rw [cx,cy,if_pos ⟨rfl,rfl⟩] at q;refine cV ⟨_,rfl,l,_,rfl,.inl ⟨SqL.of (g2 _ _ hl1),fun t ht=>q _ _ ((g1.trans g2).trans (aD ht _)) ⟨t,rfl,?_⟩⟩⟩;rw [ao,c3];rfl
   ·rw [decide_eq_false (show ¬ (((w0 :: r).length:Nat):Int)=3 by rw [aE]; omega)];rw [F7 c4] at q;exact du (du (q .non _ (cB.refl _) rfl))
  rw [decide_eq_false c3];rw [if_neg c3] at q;refine du ?_;dsimp only [dY];refine aB ⟨_,rfl,rfl,_,rfl,?_⟩;rw [rA]
  by_cases c4:w0="if"
  ·rw [decide_eq_true c4];rw [if_pos c4] at q;refine cV (aB (bT ⟨_,rfl,1,rfl,l,_,rfl,SqL.of hl,fun p hp=>?_⟩));have cut:jZ ((w0 :: r).map V.str) (some 1) none=r.map V.str:=sy _ 1;rw [cut];have u1:=aD hp (.lst (r.map V.str));refine ⟨p,r,1,rfl,⟨ao,fun x m=>wk.ok x (by simp [m])⟩,by decide,by decide,fun G2 v g2 hv=>aG ?_⟩;dsimp only;have sG:=u1.trans g2
   cases e:ki r 1 with
   | none =>
    rw [ifW_n e] at q;rw [e] at hv;have hv':v=.non:=hv;subst hv';exact eS ⟨_,rfl,rfl,_,rfl,cV (q .non _ sG rfl)⟩
   | some fs =>
    obtain ⟨f1,rfl⟩:∃ f1,fs=[f1]:=by
     have:=Aw e
     match fs,this with
     | [f1],_=>exact ⟨f1,rfl⟩
    rw [Hw e] at q;rw [e] at hv;obtain ⟨fp,us,rfl,hfp,pr⟩:=hv
    cases pr with
    | cons p1 pr =>
     cases pr;refine eS ⟨_,rfl,rfl,_,rfl,du ⟨_,rfl,fp,_,0,_,rfl,rfl,SqL.of hfp,rfl,by show 2<=ax; omega,fun t ht=>?_⟩⟩;exact q _ _ (sG.trans (aD ht _)) ⟨t,_,rfl,ao,p1.same (aD ht _)⟩
  rw [decide_eq_false c4];rw [if_neg c4] at q;refine du ?_;dsimp only [dY];refine aB ⟨_,rfl,by show 3<=ax; omega,fun t3 ht3=>?_⟩;have u0:=aD ht3 (.tup ([("put":Str),"push","draw"].map V.str));refine ⟨t3,[("put":Str),"push","draw"].map V.str,rfl,.inr (SqT.of ao),rfl,rfl,_,rfl,?_⟩;rw [if_neg (by decide:¬ (false=true)),y8]
  by_cases c5:w0∈[("put":Str),"push","draw"]
  ·rw [decide_eq_true c5];rw [if_pos c5] at q;have hl0:=u0 _ _ hl;refine cV (aB (bT ⟨_,rfl,2,rfl,l,_,rfl,SqL.of hl0,fun p hp=>?_⟩));have cut:jZ ((w0 :: r).map V.str) (some 2) none=(r.drop 1).map V.str:=by
    rw [show jZ ((w0 :: r).map V.str) (some 2) none=((w0 :: r).map V.str).drop 2 from sy _ 2,yh];rfl
   rw [cut];have u1:=aD hp (.lst ((r.drop 1).map V.str));refine ⟨p,r.drop 1,1,rfl,⟨ao,fun x m=>wk.ok x (ar _ (lF m))⟩,by decide,by decide,fun G2 v g2 hv=>aG ?_⟩;dsimp only;have sG:=(u0.trans u1).trans g2
   cases e:ki (r.drop 1) 1 with
   | none =>
    rw [EA e] at q;rw [e] at hv;have hv':v=.non:=hv;subst hv';exact eS ⟨_,rfl,rfl,_,rfl,cV (cV (q .non _ sG rfl))⟩
   | some fs =>
    obtain ⟨f1,rfl⟩:∃ f1,fs=[f1]:=by
     have:=Aw e
     match fs,this with
     | [f1],_=>exact ⟨f1,rfl⟩
    match r,e,hl,wk,q,hv with
    | [],e,_,_,_,_=>exact absurd (show ki [] 1=none from by decide) (by rw [show ki [] 1=some [f1] from e]; intro z; cases z)
    | w1 :: r',e,hl,wk,q,hv =>
     rw [za (show ki r' 1=some [f1] from e)] at q;rw [e] at hv;obtain ⟨fp,us,rfl,hfp,pr⟩:=hv;have o1:=wk.ok w1 (by simp);have hl2:=sG _ _ hl
     cases pr with
     | cons p1 pr =>
      cases pr;refine eS ⟨_,rfl,rfl,_,rfl,du ⟨_,rfl,l,_,1,_,rfl,rfl,SqL.of hl2,eZ (j:=1) rfl,w1,rfl,o1.2,fun G3 g3=>⟨_,rfl,?_⟩⟩⟩
      cases cn:eG w1 with
      | false =>
       rw [cn] at q;exact cV (q .non _ (sG.trans g3) rfl)
      | true =>
       rw [cn,if_pos rfl] at q;refine du ⟨_,rfl,_,rfl,l,_,1,_,rfl,rfl,SqL.of (g3 _ _ hl2),eZ (j:=1) rfl,_,rfl,fp,_,0,_,rfl,rfl,SqL.of (g3 _ _ hfp),rfl,by show 3<=ax; omega,fun t ht=>?_⟩;exact q _ _ ((sG.trans g3).trans (aD ht _)) ⟨t,_,rfl,ao,(p1.same g3).same (aD ht _)⟩
  ·rw [decide_eq_false c5];rw [if_neg c5] at q;refine du ?_;dsimp only [dY];exact eS (q .non _ u0 rfl)
end
inductive Prs {α:Type} (R:α->V->List aj->Prop):List α->List V->List aj->Prop
 | nil:Prs R [] [] []
 | cons {x v a xs vs as}:R x v a->Prs R xs vs as->Prs R (x :: xs) (v :: vs) (a++as)
theorem Prs.app {α:Type} {R:α->V->List aj->Prop} {xs ys:List α} {us vs:List V} {as bs:List aj} (h:Prs R xs us as) (k:Prs R ys vs bs):Prs R (xs++ys) (us++vs) (as++bs):=by
 induction h with
 | nil=>exact k
 | cons h t ih=>rw [bo]; exact .cons h ih
theorem Prs.mono {α:Type} {R S:α->V->List aj->Prop} {xs:List α} {us:List V} {as:List aj} (h:Prs R xs us as) (k:∀ x v a,(∀ b∈a,b∈as)->R x v a->S x v a):Prs S xs us as:=by
 induction h with
 | nil=>exact .nil
 | cons h t ih=>exact .cons (k _ _ _ (fun b m=>dj _ m) h) (ih fun x v a s=>k x v a fun b m=>aT _ (s b m))
theorem Prs.len {α:Type} {R:α->V->List aj->Prop} {xs:List α} {us:List V} {as:List aj} (h:Prs R xs us as):xs.length=us.length:=by
 induction h with
 | nil=>rfl
 | cons h t ih=>rw [aE,aE,ih]
theorem Prs.at {α:Type} {R:α->V->List aj->Prop} {xs:List α} {us:List V} {as:List aj} (h:Prs R xs us as):∀ {i:Nat} {v:V},us[i]?=some v->∃ x a,xs[i]?=some x/\(∀ b∈a,b∈as)/\R x v a:=by
 induction h with
 | nil=>intro i v e; cases i <;> cases e
 | cons h t ih =>
  intro i v e
  cases i with
  | zero=>cases e; exact ⟨_,_,rfl,fun b m=>dj _ m,h⟩
  | succ i =>
   obtain ⟨x,a,e1,e2,e3⟩:=ih (i:=i) e;exact ⟨x,a,e1,fun b m=>aT _ (e2 b m),e3⟩
def Kx (fp:List aj) (H H':Hp):Prop:=(∀ b xs,H b=some (.tup xs)->H' b=some (.tup xs))/\∀ b∈fp,∀ xs,H b=some (.lst xs)->H' b=some (.lst xs)
theorem Kx.of_same {fp:List aj} {H H':Hp} (s:cB H H'):Kx fp H H':=⟨fun b _ e=>s b _ e,fun b _ _ e=>s b _ e⟩
theorem Kx.of_but {fp:List aj} {H H':Hp} {a:aj} {xs:List V} (ha:H a=some (.lst xs)) (s:But a H H') (n:a∉fp):Kx fp H H':=⟨fun b _ e=>s b _ e (fun z=>by rw [z,ha] at e; cases e),fun b m _ e=>s b _ e fun z=>n (z ▸ m)⟩
theorem Kx.sub {fp fq:List aj} {H H':Hp} (k:Kx fp H H') (s:∀ b∈fq,b∈fp):Kx fq H H':=⟨k.1,fun b m=>k.2 b (s b m)⟩
theorem Prs.lists {α:Type} {R:α->V->List aj->Prop} {H:Hp} {xs:List α} {us:List V} {as:List aj} (h:Prs R xs us as) (k:∀ x v a,R x v a->∀ b∈a,∃ xs,H b=some (.lst xs)):∀ b∈as,∃ xs,H b=some (.lst xs):=by
 induction h with
 | nil=>intro b m; cases m
 | cons h t ih =>
  intro b m
  rcases aU.mp m with m | m
  ·exact k _ _ _ h b m
  ·exact ih b m
def rNeS:R2:=fun x y H Q=>∃ (p q:aj) (ws us:List Str),x=.ref p/\y=.ref q/\H p=some (.lst (ws.map V.str))/\H q=some (.lst (us.map V.str))/\Q (.bl (!decide (ws=us))) H
theorem Ga {ws us:List Str} (h:ws.length=us.length):(iz ws.length).all (fun i=>decide (ws[i]?=us[i]?))=decide (ws=us):=by
 by_cases c:ws=us
 ·subst c;rw [decide_eq_true rfl,kQ];intro i _;exact decide_eq_true rfl
 ·rw [decide_eq_false c,DA];intro z;rw [kQ] at z;refine c (DX fun i=>?_)
  by_cases l:i < ws.length
  ·exact of_decide_eq_true (z i (nz.mpr l))
  ·rw [gF (by omega),gF (by omega)]
theorem Jc {X:Cx} (hu:X.A.units + 50 < gp):OpR X (dF .NotEq) rNeS:=by
 intro pins s σ H x y v u Q I rx ry h;obtain ⟨p,q,ws,us,rfl,rfl,h1,h2,k⟩:=h
 cases rx
 cases ry;obtain ⟨as,r1,i1⟩:=fc I.hok h1;obtain ⟨bs,r2,i2⟩:=fc I.hok h2;have l1:=r1.length;have l2:=r2.length;rw [aa] at l1 l2
 by_cases c:ws.length=us.length
 ·have z:=SeqAt.RcNeAt.lists (A:=X.A) (e:=fun i=>decide (ws[i]?=us[i]?)) i1 i2 (by rw [aA,aA]; omega) (by omega) (fun j a b=>by
   have ja:j < as.length:=by simpa using a
   have jb:j < bs.length:=by simpa using b
   obtain ⟨u,eu,ru⟩:=r1.get (aN (l:=ws.map V.str) (i:=j) (by rw [aa]; omega));obtain ⟨v,ev,rv⟩:=r2.get (aN (l:=us.map V.str) (i:=j) (by rw [aa]; omega));rw [List.getElem_map] at ru rv;have e1:as[j]=u:=(aQ.mp eu).2;have e2:bs[j]=v:=(aQ.mp ev).2;have z:=Af (A:=X.A.in1) (s:=s) (.inr ⟨_,_,rfl,rfl,rfl⟩) ru rv;rw [show (decide (ws[j]'(by omega)=us[j]'(by omega)))=decide (ws[j]?=us[j]?) from by
    rw [aN (by omega),aN (by omega)];simp] at z
   simpa [e1,e2] using z)
  rw [aA,<- l1,Ga c] at z;exact z X.prog X.w _ _ ⟨.bl _,H,I,rfl,k⟩
 ·rw [decide_eq_false (fun z=>c (by rw [z]))] at k;refine sE i1 i2 (by
   rw [aA,aA,<- l1,<- l2,bne_iff_ne];exact c) (by omega) X.prog X.w _ _ ⟨.bl true,H,I,rfl,k⟩
structure NT (K:ai) (mg:Str->Option ag) (C D f:aj) (fd:cf):Prop where
 cl:vK K C D f
 F:Fun K "__init__" "NoText.__init__" oj f fd
 b:Binds K fd ["self","line"] []
 m:mg "NoText"=some (.ref C)
mutual
def qy (L:List Str):Nat->Nat->Nat->Nat->Except Nat (Option De×Nat×Nat)
 | 0,_,i,c=>.ok (none,i,c)
 | n + 1,d,i,c=>if 5 < d\/20<=c then .ok (none,i,c) else match iY (dg L i (d + 1)) with
  | none=>.ok (none,i,c)
  | some (.leaf x)=>.ok (some x,i + 1,c + 1)
  | some (.pull x y)=>(match kd L n (d + 1) (i + 1) (c + 1) with
   | .error e=>.error e
   | .ok (ds,i',c')=>.ok (some (.pull x y ds),i',c'))
  | some (.iff f)=>(match kd L n (d + 1) (i + 1) (c + 1) with
   | .error e=>.error e
   | .ok (as,i',c')=>if dg L i' (d + 1)=[("else":Str)] then (match kd L n (d + 1) (i' + 1) c' with
    | .error e=>.error e
    | .ok (bs,i'',c'')=>.ok (some (.iff f as bs),i'',c'')) else .error (i' + 1))
def kd (L:List Str):Nat->Nat->Nat->Nat->Except Nat (List De×Nat×Nat)
 | 0,_,i,c=>.ok ([],i,c)
 | n + 1,d,i,c=>match qy L n d i c with
  | .error e=>.error e
  | .ok (none,i',c')=>.ok ([],i',c')
  | .ok (some x,i',c')=>(match kd L n d i' c' with
   | .error e=>.error e
   | .ok (xs,i'',c'')=>.ok (x :: xs,i'',c''))
end
def iH (L:List Str) (d i c:Nat) (r:Except Nat (Option De×Nat×Nat)):Prop:=∀ n,1 + 2 * (20 - c)<=n->qy L n d i c=r
def ft (L:List Str) (d i c:Nat) (r:Except Nat (List De×Nat×Nat)):Prop:=∀ n,2 + 2 * (20 - c)<=n->kd L n d i c=r
section
variable {L:List Str} {d i c:Nat}
theorem Ax (h:5 < d\/20<=c):iH L d i c (.ok (none,i,c)):=fun n hn=>by
 cases n with
 | zero=>omega
 | succ n=>rw [qy,if_pos h]
theorem Be (h:¬ (5 < d\/20<=c)) (e:iY (dg L i (d + 1))=none):iH L d i c (.ok (none,i,c)):=fun n hn=>by
 cases n with
 | zero=>omega
 | succ n=>rw [qy,if_neg h,e]
theorem ur {x:De} (h:¬ (5 < d\/20<=c)) (e:iY (dg L i (d + 1))=some (.leaf x)):iH L d i c (.ok (some x,i + 1,c + 1)):=fun n hn=>by
 cases n with
 | zero=>omega
 | succ n=>rw [qy,if_neg h,e]
theorem Bf {x y:Str} {ds:List De} {i' c':Nat} (h:¬ (5 < d\/20<=c)) (e:iY (dg L i (d + 1))=some (.pull x y)) (k:ft L (d + 1) (i + 1) (c + 1) (.ok (ds,i',c'))):iH L d i c (.ok (some (.pull x y ds),i',c')):=fun n hn=>by
 cases n with
 | zero=>omega
 | succ n =>
  rw [qy,if_neg h,e];dsimp only;rw [k n (by omega)]
theorem wQ {x y:Str} {r:Nat} (h:¬ (5 < d\/20<=c)) (e:iY (dg L i (d + 1))=some (.pull x y)) (k:ft L (d + 1) (i + 1) (c + 1) (.error r)):iH L d i c (.error r):=fun n hn=>by
 cases n with
 | zero=>omega
 | succ n =>
  rw [qy,if_neg h,e];dsimp only;rw [k n (by omega)]
theorem Bg {f:Fo} {r:Nat} (h:¬ (5 < d\/20<=c)) (e:iY (dg L i (d + 1))=some (.iff f)) (k:ft L (d + 1) (i + 1) (c + 1) (.error r)):iH L d i c (.error r):=fun n hn=>by
 cases n with
 | zero=>omega
 | succ n =>
  rw [qy,if_neg h,e];dsimp only;rw [k n (by omega)]
theorem Bh {f:Fo} {as:List De} {i' c':Nat} (h:¬ (5 < d\/20<=c)) (e:iY (dg L i (d + 1))=some (.iff f)) (k:ft L (d + 1) (i + 1) (c + 1) (.ok (as,i',c'))) (el:dg L i' (d + 1)≠[("else":Str)]):iH L d i c (.error (i' + 1)):=fun n hn=>by
 cases n with
 | zero=>omega
 | succ n =>
  rw [qy,if_neg h,e];dsimp only;rw [k n (by omega)];dsimp only;rw [if_neg el]
theorem zb {f:Fo} {as:List De} {i' c' r:Nat} (h:¬ (5 < d\/20<=c)) (e:iY (dg L i (d + 1))=some (.iff f)) (k:ft L (d + 1) (i + 1) (c + 1) (.ok (as,i',c'))) (cc:c + 1<=c') (el:dg L i' (d + 1)=[("else":Str)]) (k2:ft L (d + 1) (i' + 1) c' (.error r)):iH L d i c (.error r):=fun n hn=>by
 cases n with
 | zero=>omega
 | succ n =>
  rw [qy,if_neg h,e];dsimp only;rw [k n (by omega)];dsimp only;rw [if_pos el,k2 n (by omega)]
theorem Hy {f:Fo} {as bs:List De} {i' c' i2 c2:Nat} (h:¬ (5 < d\/20<=c)) (e:iY (dg L i (d + 1))=some (.iff f)) (k:ft L (d + 1) (i + 1) (c + 1) (.ok (as,i',c'))) (cc:c + 1<=c') (el:dg L i' (d + 1)=[("else":Str)]) (k2:ft L (d + 1) (i' + 1) c' (.ok (bs,i2,c2))):iH L d i c (.ok (some (.iff f as bs),i2,c2)):=fun n hn=>by
 cases n with
 | zero=>omega
 | succ n =>
  rw [qy,if_neg h,e];dsimp only;rw [k n (by omega)];dsimp only;rw [if_pos el,k2 n (by omega)]
theorem EC {i' c':Nat} (k:iH L d i c (.ok (none,i',c'))):ft L d i c (.ok ([],i',c')):=fun n hn=>by
 cases n with
 | zero=>omega
 | succ n=>rw [kd,k n (by omega)]
theorem Jd {r:Nat} (k:iH L d i c (.error r)):ft L d i c (.error r):=fun n hn=>by
 cases n with
 | zero=>omega
 | succ n=>rw [kd,k n (by omega)]
theorem Bi {x:De} {xs:List De} {i' c' i2 c2:Nat} (k:iH L d i c (.ok (some x,i',c'))) (c20:c < 20) (cc:c < c') (k2:ft L d i' c' (.ok (xs,i2,c2))):ft L d i c (.ok (x :: xs,i2,c2)):=fun n hn=>by
 cases n with
 | zero=>omega
 | succ n =>
  rw [kd,k n (by omega)];dsimp only;rw [k2 n (by omega)]
theorem sX {x:De} {i' c' r:Nat} (k:iH L d i c (.ok (some x,i',c'))) (c20:c < 20) (cc:c < c') (k2:ft L d i' c' (.error r)):ft L d i c (.error r):=fun n hn=>by
 cases n with
 | zero=>omega
 | succ n =>
  rw [kd,k n (by omega)];dsimp only;rw [k2 n (by omega)]
end
def DeF (H:Hp):Nat->De->V->List aj->Prop
 | 0,_,_,_=>False
 | n + 1,d,v,fp=>match d with
  | .pull x y ds=>∃ (t l:aj) (vs:List V) (as:List aj),v=.ref t/\H t=some (.tup [.str "pull",.str x,.str y,.ref l])/\H l=some (.lst vs)/\Prs (DeF H n) ds vs as/\fp=l :: as
  | .iff f as bs=>∃ (t l1 l2:aj) (u:V) (v1 v2:List V) (a1 a2:List aj),v=.ref t/\H t=some (.tup [.str "if",u,.ref l1,.ref l2])/\gU H f u/\H l1=some (.lst v1)/\Prs (DeF H n) as v1 a1/\H l2=some (.lst v2)/\Prs (DeF H n) bs v2 a2/\fp=(l1 :: a1)++(l2 :: a2)
  | d=>LfF H d v/\fp=[]
theorem LfF.up {H H':Hp} {d:De} {v:V} (k:∀ t xs,H t=some (.tup xs)->H' t=some (.tup xs)) (h:LfF H d v):LfF H' d v:=by
 cases d with
 | fin=>obtain ⟨t,rfl,e⟩:=h; exact ⟨t,rfl,k _ _ e⟩
 | three a b f=>obtain ⟨t,u,rfl,e,e2⟩:=h; exact ⟨t,u,rfl,k _ _ e,e2.up k⟩
 | send z x f1 y f2 f3=>obtain ⟨t,u1,u2,u3,rfl,e,e1,e2,e3⟩:=h; exact ⟨t,u1,u2,u3,rfl,k _ _ e,e1.up k,e2.up k,e3.up k⟩
 | pull x y ds=>exact h.elim
 | iff f as bs=>exact h.elim
theorem DeF.kx {H H':Hp}:∀ {n:Nat} {d:De} {v:V} {fp:List aj},Kx fp H H'->DeF H n d v fp->DeF H' n d v fp
 | 0,_,_,_,_,h=>h
 | n + 1,d,v,fp,k,h=>by
  cases d with
  | pull x y ds =>
   obtain ⟨t,l,vs,as,rfl,e1,e2,e3,rfl⟩:=h;exact ⟨t,l,vs,as,rfl,k.1 _ _ e1,k.2 _ (by simp) _ e2,e3.mono fun x v a s i=>DeF.kx (k.sub fun b m=>ar _ (s b m)) i,rfl⟩
  | iff f as bs =>
   obtain ⟨t,l1,l2,u,v1,v2,a1,a2,rfl,e1,ef,e2,e3,e4,e5,rfl⟩:=h;exact ⟨t,l1,l2,u,v1,v2,a1,a2,rfl,k.1 _ _ e1,ef.up k.1,k.2 _ (by simp) _ e2,e3.mono fun x v a s i=>DeF.kx (k.sub fun b m=>by simp [s b m]) i,k.2 _ (by simp) _ e4,e5.mono fun x v a s i=>DeF.kx (k.sub fun b m=>by simp [s b m]) i,rfl⟩
  | fin=>exact ⟨h.1.up k.1,h.2⟩
  | three a b f=>exact ⟨h.1.up k.1,h.2⟩
  | send z x f1 y f2 f3=>exact ⟨h.1.up k.1,h.2⟩
theorem DeF.ref {H:Hp}:∀ {n:Nat} {d:De} {v:V} {fp:List aj},DeF H n d v fp->v≠.non
 | 0,_,_,_,h=>h.elim
 | n + 1,d,v,fp,h=>fun z=>by
  subst z
  cases d with
  | pull x y ds=>obtain ⟨t,l,vs,as,z,_⟩:=h; cases z
  | iff f as bs=>obtain ⟨t,l1,l2,u,v1,v2,a1,a2,z,_⟩:=h; cases z
  | fin=>obtain ⟨⟨t,z,_⟩,_⟩:=h; cases z
  | three a b f=>obtain ⟨⟨t,u,z,_⟩,_⟩:=h; cases z
  | send z' x f1 y f2 f3=>obtain ⟨⟨t,u1,u2,u3,z,_⟩,_⟩:=h; cases z
theorem rC {C:aj} {G G':Hp} {s l:aj} {L:List Str} {i c:Nat} {fp:List aj} (ls:LsI C G s l L i c) (b:But s G G') (n:s∉fp):Kx fp G G':=⟨fun t xs e=>ls.tup b e,fun a m xs e=>b _ _ e fun z=>n (z ▸ m)⟩
theorem DeF.lists {H:Hp}:∀ {n:Nat} {d:De} {v:V} {fp:List aj},DeF H n d v fp->∀ b∈fp,∃ xs,H b=some (.lst xs)
 | 0,_,_,_,h=>h.elim
 | n + 1,d,v,fp,h=>by
  intro b m
  cases d with
  | pull x y ds =>
   obtain ⟨t,l,vs,as,rfl,e1,e2,e3,rfl⟩:=h
   rcases au.mp m with rfl | m
   ·exact ⟨_,e2⟩
   ·exact e3.lists (fun _ _ _=>DeF.lists) b m
  | iff f as bs =>
   obtain ⟨t,l1,l2,u,v1,v2,a1,a2,rfl,e1,ef,e2,e3,e4,e5,rfl⟩:=h
   rcases aU.mp m with m | m
   ·rcases au.mp m with rfl | m
    ·exact ⟨_,e2⟩
    ·exact e3.lists (fun _ _ _=>DeF.lists) b m
   ·rcases au.mp m with rfl | m
    ·exact ⟨_,e4⟩
    ·exact e5.lists (fun _ _ _=>DeF.lists) b m
  | fin=>rw [h.2] at m; cases m
  | three a b f=>rw [h.2] at m; cases m
  | send z x f1 y f2 f3=>rw [h.2] at m; cases m
section
variable {P:aS} {w:bN} {K:ai} {mg:Str->Option ag} {base:cI} {f fE fS fO fW fP fIn C CN D':aj} {fd fdE fdS fdO fdW fdP fdIn:cf}
seal L2.PS L2.PSs L2.PE L2.PA L2.PT L2.PW L2.PI L2.PG L2.PGs L2.PC L2.PSC L2.PSsC L2.PEC L2.PAC L2.PPs
theorem scIn:cH ["self","line"] ["self","line"] (bf oj):=⟨rfl,rfl,rfl,by decide +kernel,rfl,by decide +kernel,by decide +kernel⟩
theorem Hz (N:NT K mg CN D' f fd):cQ P w K mg base CX0 1 f fd ["self","line"] (DZ CN):=by
 refine N.F.ok scIn (fun vs H Q E h=>?_) (fun cdv A outer s H vs Q E hr h=>?_)
 ·obtain ⟨e,ob,n,rfl,_⟩:=h;rfl
 obtain ⟨e,ob,n,rfl,h1,h2,h3,h4,k⟩:=h;refine ⟨_,aI (FJ N.cl (pv 0) (pv 1) rfl),?_⟩;exact ⟨_,rfl,_,rfl,e,ob,n,rfl,rfl,h1,h2,h3,h4,fun d hd hde=>k d hd hde⟩
inductive HA (C CN:aj) (k:Nat) (vs:List V) (H:Hp) (Q:VK) (E:XK):Prop where
 | mk (s l:aj) (L:List Str) (i c d:Nat) (_:vs=[.ref s,.int d]) (_:d + k=6) (_:c<=20) (_:LsI C H s l L i c) (_:LOk L) (_:(∀ r H',iH L d i c (.error r)->But s H H'->E (.ref CN) (some r) H')) (_:(∀ v H' od i' c',iH L d i c (.ok (od,i',c'))->c'<=20->Mv C H H' s l L i' c'->(match od with | none=>v=.non/\c<=c' | some x=>c < 20/\c < c'/\∃ fp,DeF H' (k + 1) x v fp/\fp.Nodup/\∀ a∈fp,H a=none)->Q v H')):HA C CN k vs H Q E
def Je (C CN:aj) (k:Nat):Sp:=fun vs H Q E=>HA C CN k vs H Q E
inductive zc (C CN:aj) (k:Nat) (vs:List V) (H:Hp) (Q:VK) (E:XK):Prop where
 | mk (s l:aj) (L:List Str) (i c d:Nat) (_:vs=[.ref s,.int d]) (_:d + k=6) (_:c<=20) (_:LsI C H s l L i c) (_:LOk L) (_:(∀ r H',ft L d i c (.error r)->But s H H'->E (.ref CN) (some r) H')) (_:(∀ dl us fp H' ds i' c',ft L d i c (.ok (ds,i',c'))->c<=c'->c'<=20->Mv C H H' s l L i' c'->H' dl=some (.lst us)->Prs (DeF H' (k + 1)) ds us fp->(dl :: fp).Nodup->(∀ a∈dl :: fp,H a=none)->ds.length<=40->Q (.ref dl) H')):zc C CN k vs H Q E
def vo (C CN:aj) (k:Nat):Sp:=fun vs H Q E=>zc C CN k vs H Q E
abbrev nDs:List Str:=["lines","depth","deeds","deed"]
abbrev pDs:List Str:=["lines","depth"]
theorem ED:cH nDs pDs (bf jg):=⟨rfl,rfl,rfl,by decide +kernel,rfl,by decide +kernel,by decide +kernel⟩
theorem sA {k n:Nat} (D:Df K mg "deeds_from" jg pDs f fd) (DE:Df K mg "deed_from" kM ["lines","depth"] fE fdE) (GE:dU P w K mg base (CXl P w) n fE fdE ["lines","depth"] (Je C CN k)) (B:Bl mg):dU P w K mg base (CXl P w) (n + 1) f fd pDs (vo C CN k):=by
 refine D.F.okLC ED (fun vs H Q E h=>?_) (fun cdv A outer s H vs Q E hr h=>?_)
 ·obtain ⟨s,l,L,i,c,d,rfl,_⟩:=h;rfl
 obtain ⟨s,l,L,i,c,d,rfl,dk,cl20,ls,lok,qe,q⟩:=h;have rk:dE n _:=hr;refine ⟨_,aV (cq (i:=2) ED.nd rfl (Or.inl rfl) (cZ ak)).c
  (aV (ig (i:=3) ED.nd rfl (Or.inl rfl) (dW GE rk (by rfl) DE.m DE.F.kp DE.b .nil (jc.passes fun _ _ _ z=>z) (bI (pv 0) (bI (pv 1) ak))))
  (aV (qD jc.own (aZ AI (pv 3) dD (bD _)) (aV (dI (d9 aP bh bj dR (pv 2) (bI (pv 3) ak))).c
  (j4 (ig (i:=3) ED.nd rfl (Or.inl rfl) (dW GE rk (by rfl) DE.m DE.F.kp DE.b .nil (jc.passes fun _ _ _ z=>z) (bI (pv 0) (bI (pv 1) ak)))))))
  (aI (bE (pv 2))).c)),?_⟩
 have big:=dG;refine aB (bT ⟨aR _,fun dl hdl=>aG ?_⟩);dsimp only;have t0:=aD hdl (.lst []);obtain ⟨nds,ndl⟩:=ls.nes hdl;have hsn:∀ {a:aj},H a=none->a≠s:=fun z=>(ls.nes z).1;have ls0:=ls.same t0;refine aB (bT ⟨_,rfl,_,rfl,s,l,L,i,c,d,rfl,dk,cl20,ls0,lok,fun r H' e b=>qe r H' (Jd e) ((ix t0).trans b),fun v G od i1 c1 de c120 mv hv=>aG ?_⟩);dsimp only;have hdl1:=mv.bt _ _ (ao (H:=H) (a:=dl) (o:=.lst [])) nds;refine aB ⟨fun m σ G=>∃ (acc:List De) (us:List V) (fp:List aj) (j cc j' cc':Nat) (od:Option De) (v:V),σ=[some (.ref s),some (.int d),some (.ref dl),some v]/\m=20 - cc/\acc.length<=cc/\cc'<=20/\cc<=20/\c<=cc/\Mv C H G s l L j' cc'/\G dl=some (.lst us)/\Prs (DeF G (k + 1)) acc us fp/\(dl :: fp).Nodup/\(∀ a∈dl :: fp,H a=none) /\
   iH L d j cc (.ok (od,j',cc'))/\(match od with | none=>v=.non/\cc<=cc' | some x=>cc < 20/\cc < cc'/\∃ fq,DeF G (k + 1) x v fq/\(dl :: (fp++fq)).Nodup/\∀ a∈fq,H a=none) /\
   (∀ ds i2 c2,ft L d j cc (.ok (ds,i2,c2))->ft L d i c (.ok (acc++ds,i2,c2)))/\(∀ r,ft L d j cc (.error r)->ft L d i c (.error r)),
  ⟨20 - c,[],[],[],i,c,i1,c1,od,v,rfl,rfl,aR _,c120,cl20,aF _,⟨mv.ls,(ix t0).trans mv.bt⟩,hdl1,.nil,by simp,fun a m=>by rw [az.mp m]; exact hdl,de,?_,fun _ _ _ z=>z,fun _ z=>z⟩,?_⟩
 ·cases od with
  | none=>exact hv
  | some x =>
   obtain ⟨h1,h2,fq,h3,h4,h5⟩:=hv;refine ⟨h1,h2,fq,h3,?_,fun a m=>fu fun o z=>by have:=h5 a m; rw [t0 _ _ z] at this; cases this⟩;rw [lY,eO];exact ⟨(fun m=>by have:=h5 dl m; rw [ao] at this; cases this),h4⟩
 clear hdl1 mv hv de;rintro m σ G ⟨acc,us,fp,j,cc,j',cc',od,v,rfl,rfl,al,a40,cc20,clc,mv,hG,pr,nd,nw,de,hv,ko,ke⟩;have ul:=pr.len;refine ⟨_,rfl,rfl,_,rfl,?_⟩
 cases od with
 | none =>
  obtain ⟨rfl,ccc⟩:=hv;rw [decide_eq_true rfl];refine du ?_;dsimp only;exact eS ⟨_,rfl,q dl us fp G acc j' cc' (by have:=ko [] j' cc' (EC de); rwa [bW] at this) (by omega) a40 mv hG pr nd nw (by omega)⟩
 | some x =>
  obtain ⟨c20,ccc,fq,hx,ndq,nwq⟩:=hv;rw [decide_eq_false hx.ref];refine cV ⟨fun σ' G'=>∃ m',m' < 20 - cc/\_,fun _ _ z=>z,?_⟩;refine aB ⟨_,rfl,.inl ⟨rfl,_,SqL.of hG⟩,_,rfl,dl,us,_,rfl,rfl,hG,by omega,?_⟩;have nodl:dl∉fp++fq:=(eO.mp ndq).1;have lsG:=mv.ls.upd (o':=.lst (us++[v])) hG nds ndl;have btG:But s H (upd G dl (.lst (us++[v]))):=fun b o e n=>by
   rw [aX (bw e hdl)];exact mv.bt _ _ e n
  have hG1:(upd G dl (.lst (us++[v]))) dl=some (.lst (us++[v])):=ao;have kxG:Kx (fp++fq) G (upd G dl (.lst (us++[v]))):=Kx.of_but hG (But.upd _ _ _) nodl;have pr1:Prs (DeF (upd G dl (.lst (us++[v]))) (k + 1)) (acc++[x]) (us++[v]) (fp++fq):=by
   refine Prs.app (pr.mono fun _ _ _ s i=>i.kx (kxG.sub fun b m=>dj _ (s b m))) ?_;rw [<- bW fq];exact .cons (hx.kx (kxG.sub fun b m=>aT _ m)) .nil
  have nw1:∀ a∈dl :: (fp++fq),H a=none:=fun a m=>by
   rcases au.mp m with rfl | m
   ·exact hdl
   ·rcases aU.mp m with m | m
    ·exact nw a (ar _ m)
    ·exact nwq a m
  generalize upd G dl (.lst (us++[v]))=G1 at lsG btG hG1 pr1;dsimp only;refine bT ⟨_,rfl,_,rfl,s,l,L,j',cc',d,rfl,dk,a40,lsG,lok,fun r H' e b=>qe r H' (ke r (sX de c20 ccc (Jd e))) (btG.trans b),fun v2 G2 od2 j2 c2 de2 c220 mv2 hv2=>aG ?_⟩;have ns:s∉dl :: (fp++fq):=fun m=>hsn (nw1 s m) rfl;have kx2:Kx (dl :: (fp++fq)) G1 G2:=rC lsG mv2.bt ns;refine ⟨20 - cc',by omega,acc++[x],us++[v],fp++fq,j',cc',j2,c2,od2,v2,rfl,rfl,by rw [ae]; show _ + 1<=_; omega,c220,a40,by omega,⟨mv2.ls,btG.trans mv2.bt⟩,mv2.bt _ _ hG1 nds,pr1.mono fun _ _ _ s i=>i.kx (kx2.sub fun b m=>ar _ (s b m)),ndq,nw1,de2,?_,fun ds i2 c2 z=>?_,fun r z=>ke r (sX de c20 ccc z)⟩
  ·cases od2 with
   | none=>exact hv2
   | some x2 =>
    obtain ⟨h1,h2,fq2,h3,h4,h5⟩:=hv2;have in1:∀ a∈dl :: (fp++fq),∃ xs,G1 a=some (.lst xs):=fun a m=>by
     rcases au.mp m with rfl | m
     ·exact ⟨_,hG1⟩
     ·exact pr1.lists (fun _ _ _=>DeF.lists) a m
    refine ⟨h1,h2,fq2,h3,?_,fun a m=>fu fun o z=>?_⟩
    ·rw [<- kU];refine dM.mpr ⟨ndq,h4,fun a ha b hb z=>?_⟩;subst z;obtain ⟨xs,e⟩:=in1 a ha;rw [h5 a hb] at e
     cases e
    ·by_cases as:a=s
     ·subst as;obtain ⟨⟨dx,e⟩,_⟩:=lsG;rw [h5 a m] at e
      cases e
     ·have:=btG _ _ z as;rw [h5 a m] at this
      cases this
  ·have:=ko _ _ _ (Bi de c20 ccc z)
   rwa [bo]
def DhK (G:Hp) (dh:Dh) (v:V) (xs:List V):Prop:=match dh with
 | .leaf x=>LfF G x v/\∃ k0 r,xs=.str k0 :: r/\k0≠"pull"/\k0≠"if"
 | .pull x y=>xs=[.str "pull",.str x,.str y]
 | .iff f=>∃ u,xs=[.str "if",u]/\gU G f u
theorem tM {ws:List Str} {k x:Str} {f:Fo} (h:iY ws=some (.leaf (.three k x f))):k≠"pull"/\k≠"if":=by
 cases ws with
 | nil=>cases h
 | cons w0 r =>
  rw [qJ] at h
  split at h
  ·exfalso;unfold wN at h
   split at h
   ·split at h
    ·split at h
     ·cases h
     ·cases h
    ·cases h
   ·cases h
  split at h
  ·split at h
   ·cases h
   ·cases h
  split at h
  ·exfalso;unfold wO at h
   split at h
   ·split at h
    ·cases h
    ·cases h
   ·cases h
  split at h
  ·exfalso;unfold ifW at h
   split at h
   ·cases h
   ·cases h
  split at h
  ·rename_i c3 c4 c5
   unfold rB at h
   split at h
   ·split at h
    ·cases h;exact ⟨c3,c4⟩
    ·cases h
   ·cases h
  ·cases h
abbrev nDd:List Str:=["lines","depth","deed","ones"]
abbrev pDd:List Str:=["lines","depth"]
theorem Jf:cH nDd pDd (bf kM):=⟨rfl,rfl,rfl,by decide +kernel,rfl,by decide +kernel,by decide +kernel⟩
theorem Bj {k n:Nat} (D:Df K mg "deed_from" kM pDd f fd) (DO:Df K mg "deed_of" oM pDo fO fdO) (GO:dU P w K mg base CX0 63 fO fdO pDo (EB iY)) (DS:Df K mg "deeds_from" jg pDs fS fdS) (GS:dU P w K mg base (CXl P w) n fS fdS pDs (fun vs H Q E=>1<=k/\vo C CN (k - 1) vs H Q E)) (hn:63<=n) (MW:Mt K C "words" "Lines.words" gq pWd fW fdW) (GW:cQ P w K mg base CX0 2 fW fdW pWd (Ex C)) (MP:Mt K C "pass_by" "Lines.pass_by" dQ pPb fP fdP) (N:NT K mg CN D' fIn fdIn) (T:LT K mg C) (B:Bl mg):dU P w K mg base (CXl P w) (n + 1) f fd pDd (Je C CN k):=by
 have GP:cQ P w K mg base CX0 1 fP fdP pPb (Av C):=wK MP T;have GI:cQ P w K mg base CX0 1 fIn fdIn ["self","line"] (DZ CN):=Hz N;refine D.F.okLC Jf (fun vs H Q E h=>?_) (fun cdv A outer s H vs Q E hr h=>?_)
 ·obtain ⟨s,l,L,i,c,d,rfl,_⟩:=h;rfl
 obtain ⟨s,l,L,i,c,d,rfl,dk,cl20,ls,lok,qe,q⟩:=h;have rk:dE n _:=hr;have r63:dE 63 _:=rk.mono hn;have r2:dE 2 _:=r63.mono (by omega);have r1:dE 1 _:=r63.mono (by omega);have h50:=Fn hr;refine ⟨_,aV (df ((jj (aZ tf (pv 1) aq (bD _)) (iP (aZ Gr (lL K (by rfl) (pv 0) (by rfl)) aq (bD _)))).pt) (aI (bE dD)) bO).c
  (aV (ig (i:=2) Jf.nd rfl (Or.inl rfl) (dW GO r63 (by rfl) DO.m DO.F.kp DO.b .nil bQ (gT (nA (pv 0) T.cl MW.m GW r2 MW.b .nil bQ (g9 (cb gx (pv 1) aq) ak)) ak)))
  (aV (df (aZ iR (pv 2) dD (bD _)) (aI (bE dD)) bO).c
  (aV (dI (jX (pv 0) T.cl MP.m GP r1 MP.b .nil bQ)).c
  (aV (vX (pv 0) aq CP).c
  (aV (uT (aZ d8 (bR cM (pv 2) aq (fun _ _=>rfl)) aO (bD _)) (j4 (rY (Ee AN (pv 2) (uj (iu (dW GS rk (by rfl) DS.m DS.F.kp DS.b .nil (jc.passes fun _ _ _ z=>z) (bI (pv 0) (g9 (cb gx (pv 1) aq) ak))) (ak).c))))) bO.c)
  (aV (uT (aZ d8 (bR cM (pv 2) aq (fun _ _=>rfl)) aO (bD _)) (aV (ig (i:=3) Jf.nd rfl (Or.inl rfl) (dW GS rk (by rfl) DS.m DS.F.kp DS.b .nil (jc.passes fun _ _ _ z=>z) (bI (pv 0) (g9 (cb gx (pv 1) aq) ak))))
  (aV (df (aZ (Jc h50) (nA (pv 0) T.cl MW.m GW r2 MW.b .nil bQ (g9 (cb gx (pv 1) aq) ak)) (cZ (cS aO ak)) (bD _)) (aI (wz jc rfl N.cl (by rfl) N.m GI r2 N.b (g9 (cb gx (lL K (by rfl) (pv 0) (by rfl)) aq) ak))) bO).c
  (aV (dI (jX (pv 0) T.cl MP.m GP r1 MP.b .nil bQ)).c
  (j4 (rY (Ee AN (pv 2) (uj (iu ((pv 3).c) (iu (dW GS rk (by rfl) DS.m DS.F.kp DS.b .nil (jc.passes fun _ _ _ z=>z) (bI (pv 0) (g9 (cb gx (pv 1) aq) ak))) (ak).c))))))))) bO.c)
  (aI (bE (pv 2))).c)))))),?_⟩
 have big:=dG;have nls:=ls.ne;obtain ⟨⟨dx,hs⟩,hl⟩:=ls;have ls:LsI C H s l L i c:=⟨⟨dx,hs⟩,hl⟩;refine aB ⟨_,rfl,_,_,rfl,rfl,_,rfl,?_⟩
 by_cases d5:5 < d
 ·rw [decide_eq_true (show (5:Int) < d by omega)];exact cV (cV (q .non _ none i c (Ax (.inl d5)) cl20 ⟨ls,But.refl _ _⟩ ⟨rfl,aF _⟩))
 rw [decide_eq_false (show ¬ (5:Int) < d by omega)];refine du ⟨_,rfl,s,C,dx,_,_,rfl,hs,T.cl,T.nD,rfl,_,_,rfl,rfl,_,rfl,?_⟩
 by_cases c20:20<=c
 ·rw [decide_eq_true (show (20:Int)<=c by omega)];exact cV (q .non _ none i c (Ax (.inr c20)) cl20 ⟨ls,But.refl _ _⟩ ⟨rfl,aF _⟩)
 rw [decide_eq_false (show ¬ (20:Int)<=c by omega)];refine du ?_;dsimp only [dY];have off:¬ (5 < d\/20<=c):=fun z=>z.elim d5 c20;have ed:((d:Int) + 1)=((d + 1:Nat):Int):=by omega
 refine aB (bT ⟨_,rfl,s,dx,_,rfl,hs,rfl,_,rfl,_,_,rfl,rfl,s,l,L,i,c,d + 1,rfl,ls,lok,by omega,fun p G hp sG hG=>⟨p,_,rfl,hG,lok.ws i (d + 1) (by omega),fun v G1 g1 hv=>aG ?_⟩⟩);dsimp only;have sG1:=sG.trans g1;have ls1:=ls.same sG1
 cases ew:iY (dg L i (d + 1)) with
 | none =>
  rw [ew] at hv;have hv':v=.non:=hv;subst hv';exact aB ⟨_,rfl,rfl,_,rfl,cV (q .non _ none i c (Be off ew) cl20 ⟨ls1,ix sG1⟩ ⟨rfl,aF _⟩)⟩
 | some dh =>
  rw [ew] at hv;obtain ⟨t,xs,rfl,ht,hk⟩:∃ t xs,v=.ref t/\G1 t=some (.tup xs)/\DhK G1 dh v xs:=by
   cases dh with
   | leaf x =>
    have hv':LfF G1 x v:=hv
    cases x with
    | fin=>obtain ⟨t,rfl,e⟩:=hv'; exact ⟨t,_,rfl,e,hv,_,_,rfl,by decide,by decide⟩
    | three a b f=>obtain ⟨t,u,rfl,e,e2⟩:=hv'; exact ⟨t,_,rfl,e,hv,_,_,rfl,(tM ew).1,(tM ew).2⟩
    | send z x f1 y f2 f3=>obtain ⟨t,u1,u2,u3,rfl,e,_⟩:=hv'; exact ⟨t,_,rfl,e,hv,_,_,rfl,by decide,by decide⟩
    | pull x y ds=>exact hv'.elim
    | iff f as bs=>exact hv'.elim
   | pull x y=>obtain ⟨t,rfl,e⟩:=hv; exact ⟨t,_,rfl,e,rfl⟩
   | iff f=>obtain ⟨t,u,rfl,e,e2⟩:=hv; exact ⟨t,_,rfl,e,u,rfl,e2⟩
  clear hv;refine aB ⟨_,rfl,rfl,_,rfl,du ?_⟩;dsimp only [dY];obtain ⟨dx1,hs1⟩:=ls1.1;refine aB ⟨_,rfl,s,dx1,_,rfl,hs1,rfl,s,l,L,i,c,rfl,ls1,fun G2 ls2 b2 n2=>?_⟩;dsimp only;have nls2:=ls2.ne;obtain ⟨⟨dx2,hs2⟩,hl2⟩:=ls2;refine aB ⟨_,rfl,s,C,dx2,_,_,rfl,hs2,T.cl,T.nD,rfl,_,_,rfl,rfl,dx2,_,hs2,(show 3 < 1000 by decide),?_⟩;dsimp only;have ls3:LsI C (upd G2 s (.ins C dx2 (lH "deed_count" (.int ((c:Int) + 1)) [("lines",.ref l),("place",.int ((i + 1:Nat):Int)),("deed_count",.int (c:Int))]))) s l L (i + 1) (c + 1):=⟨⟨dx2,by rw [ao]; rfl⟩,by rw [aX nls2]; exact hl2⟩;have b3:But s H (upd G2 s (.ins C dx2 (lH "deed_count" (.int ((c:Int) + 1)) [("lines",.ref l),("place",.int ((i + 1:Nat):Int)),("deed_count",.int (c:Int))]))):=((ix sG1).trans b2).trans (But.upd _ _ _);have b13:But s G1 (upd G2 s (.ins C dx2 (lH "deed_count" (.int ((c:Int) + 1)) [("lines",.ref l),("place",.int ((i + 1:Nat):Int)),("deed_count",.int (c:Int))]))):=b2.trans (But.upd _ _ _);generalize upd G2 s (.ins C dx2 (lH "deed_count" (.int ((c:Int) + 1)) [("lines",.ref l),("place",.int ((i + 1:Nat):Int)),("deed_count",.int (c:Int))]))=G3 at ls3 b3 b13;have tk3:∀ t xs,G1 t=some (.tup xs)->G3 t=some (.tup xs):=fun t xs e=>ls1.tup b13 e;have ht3:=tk3 _ _ ht;have nn:∀ {a:aj},G3 a=none->H a=none:=fun {a} e=>fu fun o z=>by
   by_cases as:a=s
   ·subst as;obtain ⟨⟨_,e'⟩,_⟩:=ls3;rw [e] at e'
    cases e'
   ·rw [b3 _ _ z as] at e
    cases e
  have c1:c + 1<=20:=by omega
  cases dh with
  | leaf x =>
   obtain ⟨lf,k0,r,rfl,n1,n2⟩:=hk;refine aB ⟨_,rfl,t,_,0,_,rfl,rfl,SqT.of ht3,eZ (j:=0) rfl,rfl,_,rfl,?_⟩;rw [rA,decide_eq_false n1];refine du ?_;dsimp only [dY];refine aB ⟨_,rfl,t,_,0,_,rfl,rfl,SqT.of ht3,eZ (j:=0) rfl,rfl,_,rfl,?_⟩;rw [rA,decide_eq_false n2];refine du ?_;dsimp only [dY];refine eS ⟨_,rfl,q _ _ (some x) (i + 1) (c + 1) (ur off ew) c1 ⟨ls3,b3⟩ ⟨by omega,by omega,[],?_,by simp,fun a m=>by cases m⟩⟩;have lf3:=lf.up tk3
   cases x with
   | fin=>exact ⟨lf3,rfl⟩
   | three a b f=>exact ⟨lf3,rfl⟩
   | send z x f1 y f2 f3=>exact ⟨lf3,rfl⟩
   | pull x y ds=>exact lf3.elim
   | iff f as bs=>exact lf3.elim
  | pull x y =>
   have hk':xs=[.str "pull",.str x,.str y]:=hk;subst hk';refine aB ⟨_,rfl,t,_,0,_,rfl,rfl,SqT.of ht3,rfl,rfl,_,rfl,?_⟩;rw [rA,decide_eq_true rfl];refine cV (eS ⟨_,rfl,_,rfl,_,rfl,_,_,rfl,rfl,by omega,s,l,L,i + 1,c + 1,d + 1,rfl,by omega,c1,ls3,lok,fun r H' e b=>qe r H' (wQ off ew e) (b3.trans b),fun dl us fp G4 ds i' c' e cc c20' mv4 hdl pr nd nw l40=>⟨by show 1<=ax; omega,fun t5 ht5=>?_⟩⟩);have u5:=aD ht5 (.tup [.ref dl]);have ht5':=u5 _ _ (ls3.tup mv4.bt ht3);refine ⟨t,t5,_,_,rfl,rfl,SqT.of ht5',SqT.of ao,by simp,by show 3 + 1<=ax; omega,fun z=>(by cases z),fun _ t6 ht6=>?_⟩;have u6:=aD ht6 (.tup ([.str "pull",.str x,.str y]++[.ref dl]));have u:=u5.trans u6;refine q _ _ (some (.pull x y ds)) i' c' (Bf off ew e) c20' ⟨mv4.ls.same u,b3.trans (mv4.bt.same u)⟩ ⟨by omega,by omega,dl :: fp,⟨t6,dl,us,fp,rfl,ao,u _ _ hdl,?_,rfl⟩,nd,fun a m=>nn (nw a m)⟩;have:k - 1 + 1=k:=by omega
   rw [this] at pr;exact pr.mono fun _ _ _ _ i=>i.kx (Kx.of_same u)
  | iff f =>
   obtain ⟨u0,rfl,fo⟩:=hk;refine aB ⟨_,rfl,t,_,0,_,rfl,rfl,SqT.of ht3,rfl,rfl,_,rfl,?_⟩;rw [rA,decide_eq_false (by decide)];refine du ?_;dsimp only [dY];refine aB ⟨_,rfl,t,_,0,_,rfl,rfl,SqT.of ht3,rfl,rfl,_,rfl,?_⟩;rw [rA,decide_eq_true rfl];have kk:k - 1 + 1=k:=by omega
   refine cV (aB (bT ⟨_,rfl,_,rfl,_,_,rfl,rfl,by omega,s,l,L,i + 1,c + 1,d + 1,rfl,by omega,c1,ls3,lok,fun r H' e b=>qe r H' (Bg off ew e) (b3.trans b),fun dl us fp G4 as i' c' e cc c20' mv4 hdl pr nd nw l40=>aG ?_⟩));dsimp only;rw [kk] at pr;have ht4:=ls3.tup mv4.bt ht3;have b4:=b3.trans mv4.bt;obtain ⟨dx4,hs4⟩:=mv4.ls.1;refine aB ⟨_,rfl,s,dx4,_,rfl,hs4,rfl,_,rfl,_,_,rfl,rfl,s,l,L,i',c',d + 1,rfl,mv4.ls,lok,by omega,fun p5 G5 hp5 s5 hG5=>⟨by show 1<=ax; omega,fun p6 hp6=>?_⟩⟩;have u6:=aD hp6 (.lst [.str "else"]);refine ⟨p5,p6,_,[("else":Str)],rfl,rfl,u6 _ _ hG5,ao,_,rfl,?_⟩;have s56:=s5.trans u6;have ls6:=mv4.ls.same s56
   by_cases ce:dg L i' (d + 1)=[("else":Str)]
   ·rw [decide_eq_true ce];refine du ?_;dsimp only [dY];obtain ⟨dx6,hs6⟩:=ls6.1;refine aB ⟨_,rfl,s,dx6,_,rfl,hs6,rfl,s,l,L,i',c',rfl,ls6,fun G7 ls7 b7 n7=>?_⟩;dsimp only;have b47:But s G4 G7:=(ix s56).trans b7;have ns:s∉dl :: fp:=fun m=>by
     have:=nw s m;obtain ⟨⟨_,e'⟩,_⟩:=ls3;rw [this] at e'
     cases e'
    have kx47:Kx (dl :: fp) G4 G7:=rC mv4.ls b47 ns;have hdl7:=kx47.2 dl (by simp) _ hdl;have pr7:=pr.mono fun _ _ _ s' i=>i.kx (kx47.sub fun b m=>ar _ (s' b m));refine eS ⟨_,rfl,_,rfl,_,rfl,_,rfl,_,_,rfl,rfl,by omega,s,l,L,i' + 1,c',d + 1,rfl,by omega,c20',ls7,lok,fun r H' e2 b=>qe r H' (zb off ew e cc ce e2) ((b4.trans b47).trans b),fun dl2 us2 fp2 G8 bs i2 c2 e2 cc2 c220 mv8 hdl2 pr2 nd2 nw2 l40'=>⟨by show 2<=ax; omega,fun t5 ht5=>?_⟩⟩;rw [kk] at pr2;have kx8:Kx (dl :: fp) G7 G8:=rC ls7 mv8.bt ns;have hdl8:=kx8.2 dl (by simp) _ hdl7;have pr8:=pr7.mono fun _ _ _ s' i=>i.kx (kx8.sub fun b m=>ar _ (s' b m));have tk8:∀ t xs,G1 t=some (.tup xs)->G8 t=some (.tup xs):=fun t xs e=>ls7.tup mv8.bt (mv4.ls.tup b47 (ls3.tup mv4.bt (tk3 t xs e)));have u9:=aD ht5 (.tup [.ref dl,.ref dl2]);refine ⟨t,t5,_,_,rfl,rfl,SqT.of (u9 _ _ (tk8 _ _ ht)),SqT.of ao,by simp,by show 2 + 2<=ax; omega,fun z=>(by cases z),fun _ t6 ht6=>?_⟩;have u10:=aD ht6 (.tup ([.str "if",u0]++[.ref dl,.ref dl2]));have u:=u9.trans u10;have bH8:But s H G8:=(b4.trans b47).trans mv8.bt;have in7:∀ a∈dl :: fp,∃ xs,G7 a=some (.lst xs):=fun a m=>by
     rcases au.mp m with rfl | m
     ·exact ⟨_,hdl7⟩
     ·exact pr7.lists (fun _ _ _=>DeF.lists) a m
    refine q _ _ (some (.iff f as bs)) i2 c2 (Hy off ew e cc ce e2) c220 ⟨mv8.ls.same u,bH8.same u⟩ ⟨by omega,by omega,(dl :: fp)++(dl2 :: fp2),⟨t6,dl,dl2,u0,us,us2,fp,fp2,rfl,ao,(fo.up tk8).same u,u _ _ hdl8,pr8.mono fun _ _ _ _ i=>i.kx (Kx.of_same u),u _ _ hdl2,pr2.mono fun _ _ _ _ i=>i.kx (Kx.of_same u),rfl⟩,?_,fun a m=>?_⟩
    ·refine dM.mpr ⟨nd,nd2,fun a ha b hb z=>?_⟩;subst z;obtain ⟨xs,e'⟩:=in7 a ha;rw [nw2 a hb] at e'
     cases e'
    ·rcases aU.mp m with m | m
     ·exact nn (nw a m)
     ·refine fu fun o z=>?_;have:=nw2 a m
      by_cases as':a=s
      ·subst as';obtain ⟨⟨_,e'⟩,_⟩:=ls7;rw [this] at e'
       cases e'
      ·rw [(b4.trans b47) _ _ z as'] at this
       cases this
   ·rw [decide_eq_false ce];refine cV ?_;obtain ⟨dx6,hs6⟩:=ls6.1;refine ⟨_,rfl,s,C,dx6,_,_,rfl,hs6,T.cl,T.nP,rfl,_,_,rfl,rfl,i' + 1,rfl,qe _ _ (Bh off ew e ce) (b4.same s56)⟩
end
def mO (L:List Str):Nat->Nat->List (Str×List De)->Except Nat (List (Str×List De)×Nat)
 | 0,i,acc=>.ok (acc,i)
 | n + 1,i,acc=>match eA L i 1 "on" 2 (acc.map (·.1)) with
  | some [_,nm]=>(match kd L 42 1 (i + 1) 0 with
   | .error e=>.error e
   | .ok (ds,i',_)=>mO L n i' (acc++[(nm,ds)]))
  | _=>.ok (acc,i)
def HrF (H:Hp) (h:Str×List De) (v:V) (fp:List aj):Prop:=∃ (t l:aj) (us:List V) (as:List aj),v=.ref t/\H t=some (.tup [.str h.1,.ref l])/\H l=some (.lst us)/\Prs (DeF H 6) h.2 us as/\fp=l :: as/\h.2.length<=40
theorem HrF.kx {H H':Hp} {h:Str×List De} {v:V} {fp:List aj} (k:Kx fp H H') (i:HrF H h v fp):HrF H' h v fp:=by
 obtain ⟨t,l,us,as,rfl,e1,e2,e3,rfl,e4⟩:=i;exact ⟨t,l,us,as,rfl,k.1 _ _ e1,k.2 _ (by simp) _ e2,e3.mono fun x v a s i=>i.kx (k.sub fun b m=>ar _ (s b m)),rfl,e4⟩
theorem HrF.lists {H:Hp} {h:Str×List De} {v:V} {fp:List aj} (i:HrF H h v fp):∀ b∈fp,∃ xs,H b=some (.lst xs):=by
 obtain ⟨t,l,us,as,rfl,e1,e2,e3,rfl,e4⟩:=i;intro b m
 rcases au.mp m with rfl | m
 ·exact ⟨_,e2⟩
 ·exact e3.lists (fun _ _ _=>DeF.lists) b m
section
variable {P:aS} {w:bN} {K:ai} {mg:Str->Option ag} {base:cI} {f fE fS fO fW fP fN fIn C CN D':aj} {fd fdE fdS fdO fdW fdP fdN fdIn:cf}
seal L2.PS L2.PSs L2.PE L2.PA L2.PT L2.PW L2.PI L2.PG L2.PGs L2.PC L2.PSC L2.PSsC L2.PEC L2.PAC L2.PPs
theorem Bk (DE:Df K mg "deed_from" kM pDd fE fdE) (DS:Df K mg "deeds_from" jg pDs fS fdS) (DO:Df K mg "deed_of" oM pDo fO fdO) (GO:dU P w K mg base CX0 63 fO fdO pDo (EB iY)) (MW:Mt K C "words" "Lines.words" gq pWd fW fdW) (GW:cQ P w K mg base CX0 2 fW fdW pWd (Ex C)) (MP:Mt K C "pass_by" "Lines.pass_by" dQ pPb fP fdP) (N:NT K mg CN D' fIn fdIn) (T:LT K mg C) (B:Bl mg) :
  ∀ k,dU P w K mg base (CXl P w) (64 + 2 * k) fE fdE pDd (Je C CN k)/\dU P w K mg base (CXl P w) (65 + 2 * k) fS fdS pDs (vo C CN k)
 | 0=>by
  have G0:dU P w K mg base (CXl P w) 63 fS fdS pDs (fun vs H Q E=>1<=0/\vo C CN (0 - 1) vs H Q E):=DS.F.okLC ED (fun vs H Q E h=>absurd h.1 (by decide)) (fun cdv A outer s H vs Q E hr h=>absurd h.1 (by decide));have G1:=Bj (k:=0) DE DO GO DS G0 (aF _) MW GW MP N T B;exact ⟨G1,sA DS DE G1 B⟩
 | k + 1=>by
  have ih:=(Bk DE DS DO GO MW GW MP N T B k).2;have G0:dU P w K mg base (CXl P w) (65 + 2 * k) fS fdS pDs (fun vs H Q E=>1<=k + 1/\vo C CN (k + 1 - 1) vs H Q E):=⟨fun vs H Q E h=>ih.len vs H Q E h.2,fun A outer s H args us vs Q E a b c d h=>ih.run A outer s H args us vs Q E a b c d h.2⟩;have G1:=Bj (k:=k + 1) DE DO GO DS G0 (by omega) MW GW MP N T B;rw [show 65 + 2 * k + 1=64 + 2 * (k + 1) by omega] at G1;have G2:=sA DS DE G1 B;rw [show 64 + 2 * (k + 1) + 1=65 + 2 * (k + 1) by omega] at G2;exact ⟨G1,G2⟩
inductive HB (C CN:aj) (vs:List V) (H:Hp) (Q:VK) (E:XK):Prop where
 | mk (s l:aj) (L:List Str) (i c:Nat) (_:vs=[.ref s]) (_:LsI C H s l L i c) (_:LOk L) (_:(∀ r H',mO L 4 i []=.error r->But s H H'->E (.ref CN) (some r) H')) (_:(∀ hl us fp H' hs j c',mO L 4 i []=.ok (hs,j)->Mv C H H' s l L j c'->H' hl=some (.lst us)->Prs (HrF H') hs us fp->(hl :: fp).Nodup->(∀ a∈hl :: fp,H a=none)->hs.length<=4->Q (.ref hl) H')):HB C CN vs H Q E
def spHf (C CN:aj):Sp:=fun vs H Q E=>HB C CN vs H Q E
abbrev nHf:List Str:=["lines","hears","words"]
abbrev pHf:List Str:=["lines"]
theorem Jg:cH nHf pHf (bf ka):=⟨rfl,rfl,rfl,by decide +kernel,rfl,by decide +kernel,by decide +kernel⟩
theorem ndHf:((["heard"]:List Str)++nHf).Nodup:=by decide +kernel
theorem ok_hf (D:Df K mg "hears_from" ka pHf f fd) (MN:Mt K C "named" "Lines.named" gr pNd fN fdN) (GN:cQ P w K mg base CX0 3 fN fdN pNd (Ey C)) (MP:Mt K C "pass_by" "Lines.pass_by" dQ pPb fP fdP) (DS:Df K mg "deeds_from" jg pDs fS fdS) (GS:dU P w K mg base (CXl P w) 75 fS fdS pDs (vo C CN 5)) (T:LT K mg C) (B:Bl mg):dU P w K mg base (CXl P w) 76 f fd pHf (spHf C CN):=by
 have GP:cQ P w K mg base CX0 1 fP fdP pPb (Av C):=wK MP T;refine D.F.okLC Jg (fun vs H Q E h=>?_) (fun cdv A outer s H vs Q E hr h=>?_)
 ·obtain ⟨s,l,L,i,c,rfl,_⟩:=h;rfl
 obtain ⟨s,l,L,i,c,rfl,ls,lok,qe,q⟩:=h;have rk:dE 75 _:=hr;have r3:dE 3 _:=rk.mono (by omega);have r1:dE 1 _:=rk.mono (by omega);refine ⟨_,aV (cq (i:=1) Jg.nd rfl (Or.inl rfl) (cZ ak)).c
  (aV (qD jc.own (aZ pw (cY (dN K (by rfl)) (by rfl) B.len bX (bI (pv 1) ak)) aq (bD _)) (aV (cq (i:=2) Jg.nd rfl (Or.inl rfl) (nA (pv 0) T.cl MN.m GN r3 MN.b .nil bQ (cS aq (cS aO (cS aq (eJ (kE ["heard"] (gE.open (NN:=nHf) (N:=nHf) (sc:=bf ka) rfl rfl (by decide +kernel) rfl (by decide +kernel) (by decide +kernel) rfl (by decide +kernel)) rfl (eV (pv 1)) (fun _ _ _ _=>cT (i:=0) ndHf rfl (Or.inl rfl)) (fun _ _ _ _=>ic) (fun _ _ _ _=>bR (uk K (by rfl)) (pv 0) aq (fun _ _=>rfl))) ak)))))).c
  (aV (df (aZ iR (pv 2) dD (bD _)) (aI rM) bO).c
  (aV (dI (jX (pv 0) T.cl MP.m GP r1 MP.b .nil bQ)).c
  (aV (xc (pv 0) aq rfl).c
  (j4 (yU (Ef aP bh bj dR (pv 1) (iu (uj (iu ((bR cU (pv 2) aq (fun _ _=>rfl)).c) (iu (dW GS rk (by rfl) DS.m DS.F.kp DS.b .nil (jc.passes fun _ _ _ z=>z) (bI (pv 0) (cS aq ak))) (ak).c))) (ak).c) (hs:=vb)))))))))
  (aI (bE (pv 1))).c),?_⟩
 obtain ⟨res,hres⟩:∃ r,mO L 4 i []=r:=⟨_,rfl⟩;rw [hres] at q qe;have big:=dG;refine aB (bT ⟨aR _,fun bl hbl=>aG ?_⟩);dsimp only;have t0:=aD hbl (.lst []);obtain ⟨nbs,nbl⟩:=ls.nes hbl;refine aB ⟨fun m σ G=>∃ (acc:List (Str×List De)) (us:List V) (fp:List aj) (j cc:Nat) (u2:Option V),σ=[some (.ref s),some (.ref bl),u2]/\m=4 - acc.length/\acc.length<=4/\Mv C H G s l L j cc/\G bl=some (.lst us)/\Prs (HrF G) acc us fp/\(bl :: fp).Nodup/\(∀ a∈bl :: fp,H a=none)/\res=mO L (4 - acc.length) j acc,
  ⟨4,[],[],[],i,c,none,rfl,rfl,by decide,⟨ls.same t0,ix t0⟩,ao,.nil,by simp,(fun a m=>by rw [az.mp m]; exact hbl),hres.symm⟩,?_⟩
 rintro m σ G ⟨acc,us,fp,j,cc,u2,rfl,rfl,a4,mv,hG,pr,nd,nw,eq⟩;have ul:=pr.len;refine ⟨_,rfl,bl,_,rfl,.inl (SqL.of hG),_,_,rfl,rfl,_,rfl,?_⟩;rw [<- ul];have hsn:∀ {a:aj},H a=none->a≠s:=fun z=>(ls.nes z).1;have ns:s∉bl :: fp:=fun m=>hsn (nw s m) rfl;have fin:∀ {G:Hp} {u2:Option V},res=.ok (acc,j)->Mv C H G s l L j cc->G bl=some (.lst us)->Prs (HrF G) acc us fp->uw (kH 1) {nx:=fun x H'=>Q V.non H',rt:=Q} [some (.ref s),some (.ref bl),u2] G:=fun e mv hG pr=>eS ⟨_,rfl,q bl us fp _ acc j cc e mv hG pr nd nw a4⟩
 by_cases a3:acc.length < 4
 ·rw [decide_eq_true (show (acc.length:Int) < 4 by omega)];obtain ⟨n,hn⟩:∃ n,4 - acc.length=n + 1:=⟨4 - acc.length - 1,by omega⟩;rw [hn] at eq;rw [mO] at eq;refine cV ⟨fun σ' G'=>∃ m',m' < 4 - acc.length/\_,fun _ _ z=>z,?_⟩;obtain ⟨dx,hs⟩:=mv.ls.1;refine aB (bT ⟨_,rfl,s,dx,_,rfl,hs,rfl,?_⟩);dsimp only [gX,tC];refine qH acc (fun q=>q.1) (a:=bl) (us:=us) (fun R hR=>⟨_,rfl,hR⟩) hG ul (by omega) (fun k u x G' R hu hx sG hR=>?_) fun p1 G1 s1 hp1=>?_
  ·obtain ⟨x',_,hx',_,t,l',_,_,rfl,ht,_⟩:=pr.at hu;rw [hx] at hx'
   cases hx';exact ⟨_,rfl,t,_,0,_,rfl,rfl,SqT.of (sG _ _ ht),rfl,hR _ (cB.refl _)⟩
  have s1':=s1.trans (aD hp1 (.lst ((acc.map fun q=>q.1).map V.str)));refine ⟨s,l,p1,L,j,cc,1,2,"on",acc.map (·.1),rfl,mv.ls.same s1',lok,by decide,by decide,by decide,ao,fun G2 en g2=>aG ?_,fun ws p2 G2 en hp2 g2 hws=>aG ?_⟩
  ·rw [en] at eq;have sG:=s1'.trans g2;refine aB ⟨_,rfl,rfl,_,rfl,cV ?_⟩;exact fin eq (mv.same sG) (sG _ _ hG) (pr.mono fun _ _ _ _ i=>i.kx (Kx.of_same sG))
  ·obtain ⟨wl,wp,_⟩:=qI en;obtain ⟨w0,nm,rfl⟩:=Bb wl;rw [en] at eq;dsimp only at eq;have sG:=s1'.trans g2;have mv2:=mv.same sG;have hG2:=sG _ _ hG;refine aB ⟨_,rfl,rfl,_,rfl,du ?_⟩;dsimp only [dY];obtain ⟨dx3,hs3⟩:=mv2.ls.1;refine aB ⟨_,rfl,s,dx3,_,rfl,hs3,rfl,s,l,L,j,cc,rfl,mv2.ls,fun G4 ls4 b4 n4=>?_⟩;dsimp only;have nls4:=ls4.ne;obtain ⟨⟨dx4,hs4⟩,hl4⟩:=ls4;refine aB ⟨_,rfl,s,C,dx4,_,rfl,hs4,T.cl,T.nD,(show 3 < 1000 by decide),?_⟩;dsimp only;have ls5:LsI C (upd G4 s (.ins C dx4 (lH "deed_count" (.int 0) [("lines",.ref l),("place",.int ((j + 1:Nat):Int)),("deed_count",.int (cc:Int))]))) s l L (j + 1) 0:=⟨⟨dx4,by rw [ao]; rfl⟩,by rw [aX nls4]; exact hl4⟩;have b25:But s G2 (upd G4 s (.ins C dx4 (lH "deed_count" (.int 0) [("lines",.ref l),("place",.int ((j + 1:Nat):Int)),("deed_count",.int (cc:Int))]))):=b4.trans (But.upd _ _ _);generalize upd G4 s (.ins C dx4 (lH "deed_count" (.int 0) [("lines",.ref l),("place",.int ((j + 1:Nat):Int)),("deed_count",.int (cc:Int))]))=G5 at ls5 b25;have bH5:=mv2.bt.trans b25;have hG5:=b25 _ _ hG2 nbs;have np2:p2≠s:=(mv.ls.nes (fu fun o z=>by rw [s1' _ _ z] at hp2; cases hp2)).1;have hws5:=b25 _ _ hws np2;have kx5:Kx (bl :: fp) G2 G5:=rC mv2.ls b25 ns;have pr5:=(pr.mono fun _ _ _ _ i=>HrF.kx (Kx.of_same sG) i).mono fun _ _ _ s' i=>HrF.kx (kx5.sub fun b m=>ar _ (s' b m)) i;refine ⟨_,rfl,.inl ⟨rfl,_,SqL.of hG5⟩,_,rfl,p2,_,1,_,rfl,rfl,SqL.of hws5,rfl,_,rfl,s,l,L,j + 1,0,1,rfl,rfl,aR _,ls5,lok,fun r H' e b=>qe r H' ?_ (bH5.trans b),fun dl vs as G6 ds i' c' e cc0 c20 mv6 hdl prd ndd nwd l40=>⟨by show 2<=ax; omega,fun t ht=>?_⟩⟩
   ·rw [eq,e 42 (by omega)]
   have u7:=aD ht (.tup [.str nm,.ref dl]);have ns5:s∉bl :: fp:=ns;have kx6:Kx (bl :: fp) G5 G6:=rC ls5 mv6.bt ns;have hG6:=kx6.2 bl (by simp) _ hG5;have pr6:=pr5.mono fun _ _ _ s' i=>HrF.kx (kx6.sub fun b m=>ar _ (s' b m)) i;refine ⟨bl,us,_,rfl,rfl,u7 _ _ hG6,by omega,?_⟩;have in5:∀ a∈bl :: fp,∃ xs,G5 a=some (.lst xs):=fun a m=>by
    rcases au.mp m with rfl | m
    ·exact ⟨_,hG5⟩
    ·exact pr5.lists (fun _ _ _=>HrF.lists) a m
   have ndall:((bl :: fp)++(dl :: as)).Nodup:=dM.mpr ⟨nd,ndd,fun a ha b hb z=>by
    subst z;obtain ⟨xs,e'⟩:=in5 a ha;rw [nwd a hb] at e'
    cases e'⟩
   have nwall:∀ a∈dl :: as,H a=none:=fun a m=>fu fun o z=>by
    have:=nwd a m
    by_cases as':a=s
    ·subst as';obtain ⟨⟨_,e'⟩,_⟩:=ls5;rw [this] at e'
     cases e'
    ·rw [bH5 _ _ z as'] at this
     cases this
   have nbx:bl∉fp++(dl :: as):=(eO.mp ndall).1;have kx7:Kx (fp++(dl :: as)) (upd G6 t (.tup [.str nm,.ref dl])) (upd (upd G6 t (.tup [.str nm,.ref dl])) bl (.lst (us++[.ref t]))):=Kx.of_but (u7 _ _ hG6) (But.upd _ _ _) nbx;have hr6:HrF (upd G6 t (.tup [.str nm,.ref dl])) (nm,ds) (.ref t) (dl :: as):=⟨t,dl,vs,as,rfl,ao,u7 _ _ hdl,prd.mono fun _ _ _ _ i=>i.kx (Kx.of_same u7),rfl,l40⟩;refine ⟨3 - acc.length,by omega,acc++[(nm,ds)],us++[.ref t],fp++(dl :: as),i',c',_,rfl,by rw [ae]; show _=4 - (_ + 1); omega,by rw [ae]; show _ + 1<=4; omega,⟨(mv6.ls.same u7).upd (u7 _ _ hG6) nbs nbl,fun b o e n=>?_⟩,ao,?_,ndall,fun a m=>?_,?_⟩
   ·rw [aX (bw e hbl)];exact u7 _ _ (mv6.bt _ _ (bH5 _ _ e n) n)
   ·refine Prs.app (pr6.mono fun _ _ _ s' i=>(HrF.kx (Kx.of_same u7) i).kx (kx7.sub fun b m=>dj _ (s' b m))) ?_;rw [<- bW (dl :: as)];exact .cons (hr6.kx (kx7.sub fun b m=>aT _ m)) .nil
   ·rcases au.mp m with rfl | m
    ·exact hbl
    rcases aU.mp m with m | m
    ·exact nw a (ar _ m)
    ·exact nwall a m
   ·rw [eq,e 42 (by omega),ae,show 4 - (acc.length + [(nm,ds)].length)=n from by show 4 - (acc.length + 1)=n; omega]
 ·rw [decide_eq_false (show ¬ (acc.length:Int) < 4 by omega)];refine du ?_;refine fin ?_ mv hG pr;rw [eq,show 4 - acc.length=0 by omega];rfl
end
def jx (L:List Str) (i:Nat) (nm:Str):Except Nat (Mo×Nat):=match mO L 4 (lu L (jh L ((iq L 6 i []).1.map (·.1)) 3 (iq L 6 i []).2 []).2).2 [] with
 | .error e=>.error e
 | .ok (hs,j)=>.ok (⟨nm,(iq L 6 i []).1,(jh L ((iq L 6 i []).1.map (·.1)) 3 (iq L 6 i []).2 []).1,(lu L (jh L ((iq L 6 i []).1.map (·.1)) 3 (iq L 6 i []).2 []).2).1,hs⟩,j)
def MoF (H:Hp) (M:Mo) (v:V) (fp:List aj):Prop:=∃ (t lb lq ld lh:aj) (bs hs:List V) (fh:List aj),v=.ref t/\H t=some (.tup [.str M.nm,.ref lb,.ref lq,.ref ld,.ref lh])/\H lb=some (.lst bs)/\cK (BxI H) M.bx bs/\H lq=some (.lst (M.qs.map V.str))/\H ld=some (.lst (M.dr.map V.int))/\H lh=some (.lst hs)/\Prs (HrF H) M.hr hs fh/\fp=lb :: lq :: ld :: lh :: fh
theorem BxI.kx {H H':Hp} {q:Str×Int} {v:V} {fp:List aj} (k:Kx fp H H') (i:BxI H q v):BxI H' q v:=by
 obtain ⟨t,rfl,e⟩:=i;exact ⟨t,rfl,k.1 _ _ e⟩
theorem MoF.kx {H H':Hp} {M:Mo} {v:V} {fp:List aj} (k:Kx fp H H') (i:MoF H M v fp):MoF H' M v fp:=by
 obtain ⟨t,lb,lq,ld,lh,bs,hs,fh,rfl,e1,e2,e3,e4,e5,e6,e7,rfl⟩:=i;exact ⟨t,lb,lq,ld,lh,bs,hs,fh,rfl,k.1 _ _ e1,k.2 _ (by simp) _ e2,ip (fun _ _ i=>i.kx k) e3,k.2 _ (by simp) _ e4,k.2 _ (by simp) _ e5,k.2 _ (by simp) _ e6,e7.mono fun x v a s i=>i.kx (k.sub fun b m=>by simp [s b m]),rfl⟩
theorem MoF.lists {H:Hp} {M:Mo} {v:V} {fp:List aj} (i:MoF H M v fp):∀ b∈fp,∃ xs,H b=some (.lst xs):=by
 obtain ⟨t,lb,lq,ld,lh,bs,hs,fh,rfl,e1,e2,e3,e4,e5,e6,e7,rfl⟩:=i;intro b m;simp only [au] at m
 rcases m with rfl | rfl | rfl | rfl | m
 ·exact ⟨_,e2⟩
 ·exact ⟨_,e4⟩
 ·exact ⟨_,e5⟩
 ·exact ⟨_,e6⟩
 ·exact e7.lists (fun _ _ _=>HrF.lists) b m
theorem vp (L:List Str):∀ (n i:Nat) (acc:List (Str×Int)),(iq L n i acc).1.length<=acc.length + n
 | 0,i,acc=>by show acc.length<=_; omega
 | n + 1,i,acc=>by
  rw [iq]
  split
  ·split
   ·refine bC (vp L n _ _) ?_;rw [ae];show acc.length + 1 + n<=_;omega
   ·show acc.length<=_; omega
  ·show acc.length<=_; omega
section
variable {P:aS} {w:bN} {K:ai} {mg:Str->Option ag} {base:cI} {f fB fQ fD fH fM fN fP fL fBe fIn C CN D':aj} {fd fdB fdQ fdD fdH fdM fdN fdP fdL fdBe fdIn:cf}
seal L2.PS L2.PSs L2.PE L2.PA L2.PT L2.PW L2.PI L2.PG L2.PGs L2.PC L2.PSC L2.PSsC L2.PEC L2.PAC L2.PPs
inductive HD (C CN:aj) (vs:List V) (H:Hp) (Q:VK) (E:XK):Prop where
 | mk (s l:aj) (L:List Str) (i c:Nat) (nm:Str) (_:vs=[.ref s,.str nm]) (_:LsI C H s l L i c) (_:LOk L) (_:(∀ r H',jx L i nm=.error r->But s H H'->E (.ref CN) (some r) H')) (_:(∀ v fp H' M j c',jx L i nm=.ok (M,j)->Mv C H H' s l L j c'->MoF H' M v fp->fp.Nodup->(∀ a∈fp,H a=none)->Q v H')):HD C CN vs H Q E
def spMf (C CN:aj):Sp:=fun vs H Q E=>HD C CN vs H Q E
abbrev nMf:List Str:=["lines","name","boxes","queues","draws"]
abbrev pMf:List Str:=["lines","name"]
theorem Gb:cH nMf pMf (bf iV):=⟨rfl,rfl,rfl,by decide +kernel,rfl,by decide +kernel,by decide +kernel⟩
theorem ndMf:((["box"]:List Str)++nMf).Nodup:=by decide +kernel
theorem ok_mf (D:Df K mg "machine_from" iV pMf f fd) (DB:Df K mg "boxes_from" j8 pBf fB fdB) (GB:dU P w K mg base CX0 4 fB fdB pBf (spBf C)) (DQ:Df K mg "queues_from" kF pQf fQ fdQ) (GQ:cQ P w K mg base CX0 4 fQ fdQ pQf (spQf C)) (DD:Df K mg "draws_from" j9 pDf fD fdD) (GD:dU P w K mg base CX0 3 fD fdD pDf (spDf C)) (DH:Df K mg "hears_from" ka pHf fH fdH) (GH:dU P w K mg base (CXl P w) 76 fH fdH pHf (spHf C CN)) (T:LT K mg C) (B:Bl mg):dU P w K mg base (CXl P w) 77 f fd pMf (spMf C CN):=by
 refine D.F.okLC Gb (fun vs H Q E h=>?_) (fun cdv A outer s H vs Q E hr h=>?_)
 ·obtain ⟨s,l,L,i,c,nm,rfl,_⟩:=h;rfl
 obtain ⟨s,l,L,i,c,nm,rfl,ls,lok,qe,q⟩:=h;have rk:dE 76 _:=hr;have r4:dE 4 _:=rk.mono (by omega);have r3:dE 3 _:=rk.mono (by omega);refine ⟨_,aV (ig (i:=2) Gb.nd rfl (Or.inl rfl) (dW GB r4 (by rfl) DB.m DB.F.kp DB.b .nil bQ (bI (pv 0) ak)))
  (aV (cq (i:=3) Gb.nd rfl (Or.inl rfl) (bq GQ r4 (by rfl) DQ.m DQ.F.kp DQ.b .nil bQ (bI (pv 0) (eJ (kE ["box"] (gE.open (NN:=nMf) (N:=nMf) (sc:=bf iV) rfl rfl (by decide +kernel) rfl (by decide +kernel) (by decide +kernel) rfl (by decide +kernel)) rfl (eV (pv 2)) (fun _ _ _ _=>cT (i:=0) ndMf rfl (Or.inl rfl)) (fun _ _ _ _=>ic) (fun _ _ _ _=>bR (uk K (by rfl)) (pv 0) aq (fun _ _=>rfl))) ak)))).c
  (aV (ig (i:=4) Gb.nd rfl (Or.inl rfl) (dW GD r3 (by rfl) DD.m DD.F.kp DD.b .nil bQ (bI (pv 0) ak)))
  (j4 (rY (uj (iu ((pv 1).c) (iu ((pv 2).c) (iu ((pv 3).c) (iu ((pv 4).c) (iu (dW GH rk (by rfl) DH.m DH.F.kp DH.b .nil (jc.passes fun _ _ _ z=>z) (bI (pv 0) ak)) (ak).c)))))))))),?_⟩
 have big:=dG;unfold jx at q qe;have bl6:=vp L 6 i [];have hsn:∀ {a:aj},H a=none->a≠s:=fun z=>(ls.nes z).1;refine aB (bT ⟨_,rfl,s,l,L,i,c,rfl,ls,lok,fun lb bs G1 hlb mv1 hb1 prb=>aG ?_⟩);dsimp only;generalize iq L 6 i []=bx at *;have bl:=kG prb;have nb:=hsn hlb;have nn1:∀ {a:aj},G1 a=none->H a=none:=fun {a} e=>fu fun o z=>by
  by_cases as:a=s
  ·subst as;obtain ⟨⟨_,e'⟩,_⟩:=mv1.ls;rw [e] at e'
   cases e'
  ·rw [mv1.bt _ _ z as] at e
   cases e
 refine aB (bT ⟨_,rfl,?_⟩);refine qH bx.1 (fun q=>q.1) (a:=lb) (us:=bs) (fun R hR=>⟨_,rfl,hR⟩) hb1 bl (by simp at bl6; omega) (fun k u x G' R hu hx sG hR=>?_) fun p1 G2 s2 hp1=>?_
 ·obtain ⟨x',hx',t,rfl,ht⟩:=fG prb hu;rw [hx] at hx'
  cases hx';exact ⟨_,rfl,t,_,0,_,rfl,rfl,SqT.of (sG _ _ ht),rfl,hR _ (cB.refl _)⟩
 have s2':=s2.trans (aD hp1 (.lst ((bx.1.map fun q=>q.1).map V.str)));have mv2:=mv1.same s2';have nn2:∀ {a:aj},(upd G2 p1 (.lst ((bx.1.map fun q=>q.1).map V.str))) a=none->G1 a=none:=fun {a} e=>fu fun o z=>by rw [s2' _ _ z] at e; cases e
 refine ⟨s,l,p1,L,bx.2,c,bx.1.map (·.1),rfl,mv2.ls,lok,ao,by rw [aa]; simp at bl6; omega,fun lq G3 hlq mv3 hq3=>aG ?_⟩;dsimp only;generalize jh L (bx.1.map (·.1)) 3 bx.2 []=qq at *;have nlq:H lq=none:=nn1 (nn2 hlq);have nq:=hsn nlq;refine aB (bT ⟨_,rfl,s,l,L,qq.2,c,rfl,mv3.ls,lok,fun ld G4 hld mv4 hd4=>aG ?_⟩);dsimp only;generalize lu L qq.2=dd at *;have nn3:∀ {a:aj},G3 a=none->(upd G2 p1 (.lst ((bx.1.map fun q=>q.1).map V.str))) a=none:=fun {a} e=>fu fun o z=>by
  by_cases as:a=s
  ·subst as;obtain ⟨⟨_,e'⟩,_⟩:=mv3.ls;rw [e] at e'
   cases e'
  ·rw [mv3.bt _ _ z as] at e
   cases e
 have nn4:∀ {a:aj},G4 a=none->G3 a=none:=fun {a} e=>fu fun o z=>by
  by_cases as:a=s
  ·subst as;obtain ⟨⟨_,e'⟩,_⟩:=mv4.ls;rw [e] at e'
   cases e'
  ·rw [mv4.bt _ _ z as] at e
   cases e
 have nld:H ld=none:=nn1 (nn2 (nn3 hld));have nd':=hsn nld;have bH4:But s H G4:=(mv1.bt.same s2').trans (mv3.bt.trans mv4.bt);have b14:But s G1 G4:=(ix s2').trans (mv3.bt.trans mv4.bt);have hb4:=b14 _ _ hb1 nb;have hq4:=mv4.bt _ _ hq3 nq;have prb4:cK (BxI G4) bx.1 bs:=ip (fun _ _ ⟨t,e1,e2⟩=>⟨t,e1,mv1.ls.tup b14 e2⟩) prb;have nlbq:lb≠lq:=fun z=>by rw [z] at hb1; rw [nn2 hlq] at hb1; cases hb1
 have nlbd:lb≠ld:=fun z=>by rw [z] at hb1; rw [nn2 (nn3 hld)] at hb1; cases hb1
 have nlqd:lq≠ld:=fun z=>by rw [z] at hq3; rw [hld] at hq3; cases hq3
 refine eS ⟨_,rfl,_,rfl,_,rfl,_,rfl,_,rfl,s,l,L,dd.2,c,rfl,mv4.ls,lok,fun r H' e b=>qe r H' (by rw [e]) (bH4.trans b),fun lh hs fh G5 hh j c' e mv5 hh5 prh ndh nwh _=>⟨by show 5<=ax; omega,fun t ht=>?_⟩⟩;have u6:=aD ht (.tup [.str nm,.ref lb,.ref lq,.ref ld,.ref lh]);have hb5:=u6 _ _ (mv5.bt _ _ hb4 nb);have hq5:=u6 _ _ (mv5.bt _ _ hq4 nq);have hd5:=u6 _ _ (mv5.bt _ _ hd4 nd');have prb5:cK (BxI (upd G5 t (.tup [.str nm,.ref lb,.ref lq,.ref ld,.ref lh]))) bx.1 bs:=ip (fun _ _ ⟨t',e1,e2⟩=>⟨t',e1,u6 _ _ (mv4.ls.tup mv5.bt e2)⟩) prb4;have nwH:∀ a∈lh :: fh,H a=none:=fun a m=>nn1 (nn2 (nn3 (nn4 (nwh a m))));have out:∀ {a:aj} {xs:List V},G4 a=some (.lst xs)->a∉lh :: fh:=fun e m=>by rw [nwh _ m] at e; cases e
 refine q (.ref t) (lb :: lq :: ld :: lh :: fh) _ ⟨nm,bx.1,qq.1,dd.1,hh⟩ j c' (by rw [e]) ⟨mv5.ls.same u6,(bH4.trans mv5.bt).same u6⟩ ⟨t,lb,lq,ld,lh,bs,hs,fh,rfl,ao,hb5,prb5,hq5,hd5,u6 _ _ hh5,prh.mono fun _ _ _ _ i=>i.kx (Kx.of_same u6),rfl⟩ ?_ fun a m=>?_
 ·refine eO.mpr ⟨fun m=>?_,eO.mpr ⟨fun m=>?_,eO.mpr ⟨out hd4,ndh⟩⟩⟩
  ·rcases au.mp m with z | m
   ·exact nlbq z
   rcases au.mp m with z | m
   ·exact nlbd z
   ·exact out hb4 m
  ·rcases au.mp m with z | m
   ·exact nlqd z
   ·exact out hq4 m
 ·rcases au.mp m with rfl | m
  ·exact hlb
  rcases au.mp m with rfl | m
  ·exact nlq
  rcases au.mp m with rfl | m
  ·exact nld
  ·exact nwH a m
end
def pk (L:List Str):Nat->Nat->List Mo->Except Nat (List Mo×Nat)
 | 0,i,acc=>.ok (acc,i)
 | n + 1,i,acc=>match eA L i 0 "machine" 2 (acc.map (·.nm)) with
  | some [_,nm]=>(match jx L (i + 1) nm with
   | .error e=>.error e
   | .ok (M,j)=>pk L n j (acc++[M]))
  | _=>.ok (acc,i)
def rdM (L:List Str):Except Nat (List Mo):=match pk L 6 0 [] with
 | .error e=>.error e
 | .ok (ms,j)=>if (ms.isEmpty || decide (j < L.length))=true then .error (j + 1) else .ok ms
section
variable {P:aS} {w:bN} {K:ai} {mg:Str->Option ag} {base:cI} {f fM fN fP fL fBe fIn C CN D':aj} {fd fdM fdN fdP fdL fdBe fdIn:cf}
seal L2.PS L2.PSs L2.PE L2.PA L2.PT L2.PW L2.PI L2.PG L2.PGs L2.PC L2.PSC L2.PSsC L2.PEC L2.PAC L2.PPs
def spRm (CN:aj):Sp:=fun vs H Q E=>∃ x:Str,vs=[.str x]/\x.length<=100000/\LOk (linesOf x) /\
 (∀ r H',rdM (linesOf x)=.error r->cB H H'->E (.ref CN) (some r) H') /\
 (∀ ml us fp H' ms,rdM (linesOf x)=.ok ms->cB H H'->H' ml=some (.lst us)->Prs (MoF H') ms us fp->(ml :: fp).Nodup->(∀ a∈ml :: fp,H a=none)->ms.length<=6->Q (.ref ml) H')
abbrev nRm:List Str:=["text","lines","machines","words"]
abbrev pRm:List Str:=["text"]
theorem Gc:cH nRm pRm (bf j7):=⟨rfl,rfl,rfl,by decide +kernel,rfl,by decide +kernel,by decide +kernel⟩
theorem ndRm:((["machine"]:List Str)++nRm).Nodup:=by decide +kernel
theorem ok_rm (D:Df K mg "read_model" j7 pRm f fd) (ML:Mk K C fL) (GL:cQ P w K mg base CX0 2 fL fdL pLi (spLi C)) (bL:Binds K fdL pLi []) (MN:Mt K C "named" "Lines.named" gr pNd fN fdN) (GN:cQ P w K mg base CX0 3 fN fdN pNd (Ey C)) (MP:Mt K C "pass_by" "Lines.pass_by" dQ pPb fP fdP) (MB:Mt K C "is_behind" "Lines.is_behind" gd pBe fBe fdBe) (DM:Df K mg "machine_from" iV pMf fM fdM) (GM:dU P w K mg base (CXl P w) 77 fM fdM pMf (spMf C CN)) (N:NT K mg CN D' fIn fdIn) (T:LT K mg C) (B:Bl mg):dU P w K mg base (CXl P w) 78 f fd pRm (spRm CN):=by
 have GP:cQ P w K mg base CX0 1 fP fdP pPb (Av C):=wK MP T;have GB:cQ P w K mg base CX0 1 fBe fdBe pBe (F5 C):=Hn MB T B;have GI:cQ P w K mg base CX0 1 fIn fdIn ["self","line"] (DZ CN):=Hz N;refine D.F.okLC Gc (fun vs H Q E h=>?_) (fun cdv A outer s H vs Q E hr h=>?_)
 ·obtain ⟨x,rfl,_⟩:=h;rfl
 obtain ⟨x,rfl,xl,lok,qe,q⟩:=h;have rk:dE 77 _:=hr;have r3:dE 3 _:=rk.mono (by omega);have r2:dE 2 _:=rk.mono (by omega);have r1:dE 1 _:=rk.mono (by omega);refine ⟨_,aV (cq (i:=1) Gc.nd rfl (Or.inl rfl) (E4 ML GL r3 (by rfl) T.m bL .nil bQ (bI (pv 0) ak))).c
  (aV (cq (i:=2) Gc.nd rfl (Or.inl rfl) (cZ ak)).c
  (aV (qD jc.own (aZ pw (cY (dN K (by rfl)) (by rfl) B.len bX (bI (pv 2) ak)) aq (bD _)) (aV (cq (i:=3) Gc.nd rfl (Or.inl rfl) (nA (pv 1) T.cl MN.m GN r3 MN.b .nil bQ (cS aq (cS aO (cS aq (eJ (kE ["machine"] (gE.open (NN:=nRm) (N:=nRm) (sc:=bf j7) rfl rfl (by decide +kernel) rfl (by decide +kernel) (by decide +kernel) rfl (by decide +kernel)) rfl (eV (pv 2)) (fun _ _ _ _=>cT (i:=0) ndRm rfl (Or.inl rfl)) (fun _ _ _ _=>ic) (fun _ _ _ _=>bR (uk K (by rfl)) (pv 0) aq (fun _ _=>rfl))) ak)))))).c
  (aV (df (aZ iR (pv 3) dD (bD _)) (aI rM) bO).c
  (aV (dI (jX (pv 1) T.cl MP.m GP r1 MP.b .nil bQ)).c
  (j4 (yU (Ef aP bh bj dR (pv 2) (iu (dW GM rk (by rfl) DM.m DM.F.kp DM.b .nil (jc.passes fun _ _ _ z=>z) (bI (pv 1) (eK (bR cU (pv 3) aq (fun _ _=>rfl)) ak))) (ak).c))))))))
  (aH (df ((jj (o4 (uz (pv 2) (fun _=>rfl))) (iP (o4 (jC (jX (pv 1) T.cl MB.m GB r1 MB.b .nil bQ))))).pt) (aI (wz jc rfl N.cl (by rfl) N.m GI r2 N.b (g9 (cb gx (lL K (by rfl) (pv 1) (by rfl)) aq) ak))) bO)
  (aI (bE (pv 2)))).c)),?_⟩
 have big:=dG;refine aB (bT ⟨_,rfl,fun s dx hs0 hdx nsd=>⟨s,dx,x,H,rfl,ao,(aD hdx _).trans (aD (by rw [aX (eU nsd)]; exact hs0) _),hs0,xl,fun l G0 s0 ls=>⟨rfl,aG ?_⟩⟩⟩);dsimp only;unfold rdM at q qe;generalize linesOf x=L at lok qe q ls;obtain ⟨res,hres⟩:∃ r,pk L 6 0 []=r:=⟨_,rfl⟩;rw [hres] at q qe;refine aB (bT ⟨aR _,fun bl hbl=>aG ?_⟩);dsimp only;have t0:=aD hbl (.lst []);obtain ⟨nbs,nbl⟩:=ls.nes hbl;have toH:∀ {G:Hp},But s G0 G->cB H G:=fun b a o e=>b _ _ (s0 _ _ e) fun z=>by rw [z,hs0] at e; cases e
 have nH:∀ {a:aj},G0 a=none->H a=none:=fun {a} e=>fu fun o z=>by rw [s0 _ _ z] at e; cases e
 refine aB ⟨fun m σ G=>∃ (acc:List Mo) (us:List V) (fp:List aj) (j cc:Nat) (u3:Option V),σ=[some (.str x),some (.ref s),some (.ref bl),u3]/\m=6 - acc.length/\acc.length<=6/\Mv C G0 G s l L j cc/\G bl=some (.lst us)/\Prs (MoF G) acc us fp/\(bl :: fp).Nodup/\(∀ a∈bl :: fp,G0 a=none)/\res=pk L (6 - acc.length) j acc,
  ⟨6,[],[],[],0,0,none,rfl,rfl,by decide,⟨ls.same t0,ix t0⟩,ao,.nil,by simp,(fun a m=>by rw [az.mp m]; exact hbl),hres.symm⟩,?_⟩
 rintro m σ G ⟨acc,us,fp,j,cc,u3,rfl,rfl,a6,mv,hG,pr,nd,nw,eq⟩;have ul:=pr.len;refine ⟨_,rfl,bl,_,rfl,.inl (SqL.of hG),_,_,rfl,rfl,_,rfl,?_⟩;rw [<- ul];have hsn:∀ {a:aj},G0 a=none->a≠s:=fun z=>(ls.nes z).1;have ns:s∉bl :: fp:=fun m=>hsn (nw s m) rfl;have fin:∀ {G:Hp} {u3:Option V},res=.ok (acc,j)->Mv C G0 G s l L j cc->G bl=some (.lst us)->Prs (MoF G) acc us fp->By (vA (tOr (HY fun σ H1 R=>kH 2 σ H1 fun y H'=>∃ b,Ij K y H' b/\R b H') (HY (tB (CQ C "is_behind" (F5 C) [] E0 (kH 1) rg)))) (xJ CN E (gX (tOp (rI0 fun i j=>V.int (i + j)) (E2 K (kH 1) "place") (tC (V.int 1))) rg)) dY) (uw (kH 2)) {nx:=fun x H'=>Q V.non H',rt:=Q} [some (.str x),some (.ref s),some (.ref bl),u3] G:=fun {G u3} e mv hG pr=>by
  rw [e] at q qe;dsimp only at q qe;obtain ⟨⟨dx1,hs1⟩,hl1⟩:=mv.ls;have fly:(acc.isEmpty || decide (j < L.length))=true->xJ CN E (gX (tOp (rI0 fun i j=>V.int (i + j)) (E2 K (kH 1) "place") (tC (V.int 1))) rg) {nx:=uw (kH 2) {nx:=fun x H'=>Q V.non H',rt:=Q},rt:=Q} [some (.str x),some (.ref s),some (.ref bl),u3] G:=fun c=>⟨_,rfl,s,C,dx1,_,_,rfl,hs1,T.cl,T.nP,rfl,_,_,rfl,rfl,j + 1,rfl,qe _ _ (if_pos c) (toH mv.bt)⟩;refine aB ⟨_,rfl,_,.inl ⟨us,SqL.of hG,rfl⟩,?_⟩;have ue:us.isEmpty=acc.isEmpty:=by
   cases acc with
   | nil=>cases us with
    | nil=>rfl
    | cons u us=>cases ul
   | cons a acc=>cases us with
    | nil=>cases ul
    | cons u us=>rfl
  rw [ue]
  cases ce:acc.isEmpty with
  | true=>exact cV (cV (fly (by rw [ce]; rfl)))
  | false =>
   refine du ⟨_,rfl,s,dx1,_,rfl,hs1,rfl,s,l,L,j,cc,rfl,mv.ls,_,rfl,?_⟩
   by_cases cj:L.length<=j
   ·rw [decide_eq_true cj];refine du ?_;dsimp only [dY];refine eS ⟨_,rfl,q bl us fp _ acc (if_neg (by rw [ce,decide_eq_false (by omega)]; decide)) (toH mv.bt) hG pr nd (fun a m=>nH (nw a m)) a6⟩
   ·rw [decide_eq_false cj];exact cV (fly (by rw [ce,decide_eq_true (by omega)]; rfl))
 by_cases a5:acc.length < 6
 ·rw [decide_eq_true (show (acc.length:Int) < 6 by omega)];obtain ⟨n,hn⟩:∃ n,6 - acc.length=n + 1:=⟨6 - acc.length - 1,by omega⟩;rw [hn] at eq;rw [pk] at eq;refine cV ⟨fun σ' G'=>∃ m',m' < 6 - acc.length/\_,fun _ _ z=>z,?_⟩;obtain ⟨dx1,hs⟩:=mv.ls.1;refine aB (bT ⟨_,rfl,s,dx1,_,rfl,hs,rfl,?_⟩);dsimp only [gX,tC];refine qH acc (fun q=>q.nm) (a:=bl) (us:=us) (fun R hR=>⟨_,rfl,hR⟩) hG ul (by omega) (fun k u x G' R hu hx sG hR=>?_) fun p1 G1 s1 hp1=>?_
  ·obtain ⟨x',_,hx',_,t,_,_,_,_,_,_,_,rfl,ht,_⟩:=pr.at hu;rw [hx] at hx'
   cases hx';exact ⟨_,rfl,t,_,0,_,rfl,rfl,SqT.of (sG _ _ ht),rfl,hR _ (cB.refl _)⟩
  have s1':=s1.trans (aD hp1 (.lst ((acc.map fun q=>q.nm).map V.str)));refine ⟨s,l,p1,L,j,cc,0,2,"machine",acc.map (·.nm),rfl,mv.ls.same s1',lok,by decide,by decide,by decide,ao,fun G2 en g2=>aG ?_,fun ws p2 G2 en hp2 g2 hws=>aG ?_⟩
  ·rw [en] at eq;have sG:=s1'.trans g2;refine aB ⟨_,rfl,rfl,_,rfl,cV ?_⟩;exact fin eq (mv.same sG) (sG _ _ hG) (pr.mono fun _ _ _ _ i=>i.kx (Kx.of_same sG))
  ·obtain ⟨wl,wp,_⟩:=qI en;obtain ⟨w0,nm,rfl⟩:=Bb wl;rw [en] at eq;dsimp only at eq;have sG:=s1'.trans g2;have mv2:=mv.same sG;have hG2:=sG _ _ hG;refine aB ⟨_,rfl,rfl,_,rfl,du ?_⟩;dsimp only [dY];obtain ⟨dx3,hs3⟩:=mv2.ls.1;refine aB ⟨_,rfl,s,dx3,_,rfl,hs3,rfl,s,l,L,j,cc,rfl,mv2.ls,fun G5 ls5 b25 n4=>?_⟩;dsimp only;have bH5:=mv2.bt.trans b25;have hG5:=b25 _ _ hG2 nbs;have np2:p2≠s:=(mv.ls.nes (fu fun o z=>by rw [s1' _ _ z] at hp2; cases hp2)).1;have hws5:=b25 _ _ hws np2;have kx5:Kx (bl :: fp) G2 G5:=rC mv2.ls b25 ns;have pr5:=(pr.mono fun _ _ _ _ i=>MoF.kx (Kx.of_same sG) i).mono fun _ _ _ s' i=>MoF.kx (kx5.sub fun b m=>ar _ (s' b m)) i;refine ⟨_,rfl,.inl ⟨rfl,_,SqL.of hG5⟩,_,rfl,_,rfl,p2,_,1,_,rfl,rfl,SqL.of hws5,rfl,s,l,L,j + 1,cc,nm,rfl,ls5,lok,fun r H' e b=>qe r H' ?_ (toH (bH5.trans b)),fun v as G6 M i' c' e mv6 hM ndd nwd=>?_⟩
   ·rw [eq,e]
   have kx6:Kx (bl :: fp) G5 G6:=rC ls5 mv6.bt ns;have hG6:=kx6.2 bl (by simp) _ hG5;have pr6:=pr5.mono fun _ _ _ s' i=>MoF.kx (kx6.sub fun b m=>ar _ (s' b m)) i;refine ⟨bl,us,_,rfl,rfl,hG6,by omega,?_⟩;have in5:∀ a∈bl :: fp,∃ xs,G5 a=some (.lst xs):=fun a m=>by
    rcases au.mp m with rfl | m
    ·exact ⟨_,hG5⟩
    ·exact pr5.lists (fun _ _ _=>MoF.lists) a m
   have ndall:((bl :: fp)++as).Nodup:=dM.mpr ⟨nd,ndd,fun a ha b hb z=>by
    subst z;obtain ⟨xs,e'⟩:=in5 a ha;rw [nwd a hb] at e'
    cases e'⟩
   have nwall:∀ a∈as,G0 a=none:=fun a m=>fu fun o z=>by
    have:=nwd a m
    by_cases as':a=s
    ·subst as';obtain ⟨⟨_,e'⟩,_⟩:=ls5;rw [this] at e'
     cases e'
    ·rw [bH5 _ _ z as'] at this
     cases this
   have nbx:bl∉fp++as:=(eO.mp ndall).1;have kx7:Kx (fp++as) G6 (upd G6 bl (.lst (us++[v]))):=Kx.of_but hG6 (But.upd _ _ _) nbx;refine ⟨5 - acc.length,by omega,acc++[M],us++[v],fp++as,i',c',_,rfl,by rw [ae]; show _=6 - (_ + 1); omega,by rw [ae]; show _ + 1<=6; omega,⟨mv6.ls.upd hG6 nbs nbl,fun b o e n=>?_⟩,ao,?_,ndall,fun a m=>?_,?_⟩
   ·rw [aX (bw e hbl)];exact mv6.bt _ _ (bH5 _ _ e n) n
   ·refine Prs.app (pr6.mono fun _ _ _ s' i=>i.kx (kx7.sub fun b m=>dj _ (s' b m))) ?_;rw [<- bW as];exact .cons (hM.kx (kx7.sub fun b m=>aT _ m)) .nil
   ·rcases au.mp m with rfl | m
    ·exact hbl
    rcases aU.mp m with m | m
    ·exact nw a (ar _ m)
    ·exact nwall a m
   ·rw [eq,e,ae,show 6 - (acc.length + [M].length)=n from by show 6 - (acc.length + 1)=n; omega]
 ·rw [decide_eq_false (show ¬ (acc.length:Int) < 6 by omega)];refine du ?_;refine fin ?_ mv hG pr;rw [eq,show 6 - acc.length=0 by omega];rfl
end
theorem Ay (x y:Str):sw x y=decide (x.cps.toList.take y.length=y.cps.toList):=by
 have ly:y.cps.toList.length=y.length:=bY;have lx:x.cps.toList.length=x.length:=bY;have e:qS x y 0=decide (x.cps.toList.take y.length=y.cps.toList):=by
  unfold qS;rw [ny]
  by_cases c:x.cps.toList.take y.length=y.cps.toList
  ·rw [decide_eq_true c,beq_iff_eq];apply hV.mp;rw [qT];simpa using c
  ·rw [decide_eq_false c,beq_eq_false_iff_ne];intro z;refine c ?_;have:=congrArg yn z;rw [qT] at this;simpa using this
 unfold sw;rw [e]
 by_cases c:x.cps.toList.take y.length=y.cps.toList
 ·have:=congrArg fZ c;rw [bP,ly,lx] at this;rw [decide_eq_true c,decide_eq_true (by omega)];rfl
 ·rw [decide_eq_false c,jo]
theorem wR (a:Array Nat):∀ (n:Nat) (acc:Array Nat),((aJ n a).foldl (·++·) acc).toList=acc.toList++(aJ n a.toList).flatten
 | 0,acc=>by simp
 | n + 1,acc=>by
  rw [dy,iK,wR a n,A6,dy,iZ,bo]
theorem eR (d:Nat):(cu d).cps.toList=aJ (2 * d) 32:=by
 show ((aJ d ("  ":Str).cps).foldl (·++·) #[]).toList=_;rw [wR];have e:("  ":Str).cps.toList=[32,32]:=by decide
 rw [e];show []++_=_;rw [lY]
 induction d with
 | zero=>rfl
 | succ d ih =>
  rw [dy,iZ,ih,show 2 * (d + 1)=2 * d + 1 + 1 by omega,dy,dy];rfl
def jn (ws:List Str):Str:=bB " " ws
def ln (e:Nat) (ws:List Str):Str:=cu e++jn ws
structure GL (ws:List Str):Prop where
 w0:∃ c cs r,ws=c :: r/\c.cps.toList=cs/\cs≠[]
 ok:∀ w∈ws,32∉w.cps.toList/\(∀ c∈w.cps.toList,c < 128)/\w.length<=17
 many:ws.length<=60
theorem dX (x y:Str):(x++y).cps.toList=x.cps.toList++y.cps.toList:=by
 show (x.cps++y.cps).toList=_;simp
theorem GL.head {ws:List Str} (g:GL ws):∃ a t,(jn ws).cps.toList=a :: t/\a≠32:=by
 obtain ⟨c,cs,r,rfl,hc,ne⟩:=g.w0;have h32:=(g.ok c (by simp)).1;rw [hc] at h32
 cases cs with
 | nil=>exact absurd rfl ne
 | cons a cs =>
  refine ⟨a,?_⟩;have na:a≠32:=fun z=>h32 (by simp [z])
  cases r with
  | nil=>exact ⟨cs,hc,na⟩
  | cons b r =>
   refine ⟨cs++(" "++bB " " (b :: r):Str).cps.toList,?_,na⟩;unfold jn;rw [cR,dX,dX,dX,hc,bo];rfl
theorem gz {L:List Str} {i e:Nat} {ws:List Str} (h:L[i]?=some (ln e ws)) (g:GL ws):dg L i e=ws:=by
 unfold dg;rw [h];dsimp only;have lb:=gi e;have ll:(ln e ws).length=2 * e + (jn ws).length:=by unfold ln; rw [aL,lb]
 have hb:(cu e).cps.toList.length=2 * e:=by rw [eR,cW]
 rw [Ay,decide_eq_true]
 ·rw [if_pos rfl,kT (by omega) (by omega) rfl];have:(⟨(((ln e ws).cps.toList.drop ((2 * e:Nat):Int).toNat).take (((ln e ws).length:Int) - ((2 * e:Nat):Int)).toNat).toArray⟩:Str)=jn ws:=by
   apply kz;show (((ln e ws).cps.toList.drop _).take _).toArray=(jn ws).cps;rw [eI];unfold ln;rw [dX,<- hb,wU,hb,show (((cu e++jn ws).length:Int) - ((2 * e:Nat):Int)).toNat=(jn ws).cps.toList.length from by rw [bY,aL,lb]; show (((2 * e + (jn ws).length:Nat):Int) - ((2 * e:Nat):Int)).toNat=(jn ws).length; omega,bZ,lp]
  rw [this];exact vh (by obtain ⟨c,cs,r,rfl,_⟩:=g.w0; simp) fun w m=>(g.ok w m).1
 ·unfold ln;rw [dX,lb,<- hb,HE]
theorem pq {L:List Str} {i e q:Nat} {ws:List Str} (h:L[i]?=some (ln e ws)) (g:GL ws) (l:e < q):dg L i q=[("":Str)]:=by
 unfold dg;rw [h];dsimp only;rw [Ay,decide_eq_false,if_neg (by decide)];intro z;obtain ⟨a,t,ha,na⟩:=g.head;have lq:=gi q;unfold ln at z;rw [dX,lq,eR,eR,ha] at z;have z2:=congrArg (fun l=>l[2 * e]?) z;rw [yc (by omega),dJ (by rw [cW]; exact aF _),cW,Au,hZ,if_pos (by omega)] at z2;exact na (b0 z2)
def oQ (L:List Str) (j e:Nat):Prop:=L.length<=j\/∃ e' ws,L[j]?=some (ln e' ws)/\GL ws/\e' < e
theorem oQ.words {L:List Str} {j e q:Nat} (h:oQ L j e) (l:e<=q):dg L j q=[("":Str)]:=by
 rcases h with h | ⟨e',ws,h,g,l'⟩
 ·unfold dg;rw [gF h]
 ·exact pq h g (by omega)
theorem oQ.le {L:List Str} {j e q:Nat} (h:oQ L j e) (l:e<=q):oQ L j q:=by
 rcases h with h | ⟨e',ws,h,g,l'⟩
 ·exact .inl h
 ·exact .inr ⟨e',ws,h,g,by omega⟩
theorem ze:iY [("":Str)]=none:=by decide +kernel
abbrev nt (z:Int):Str:=ba (toString z)
def De.hw:De->List Str
 | .fin=>["end"]
 | .three k x f=>k :: x :: f.ws
 | .send z x f1 y f2 f3=>"send" :: nt z :: x :: nt y :: (f1.ws++(f2.ws++f3.ws))
 | .pull x y _=>["pull",x,y]
 | .iff f _ _=>"if" :: f.ws
def lsD:Nat->Nat->De->List Str
 | 0,_,_=>[]
 | n + 1,e,d=>match d with
  | .pull x y ds=>ln e ["pull",x,y] :: (ds.map (lsD n (e + 1))).flatten
  | .iff f as bs=>ln e ("if" :: f.ws) :: ((as.map (lsD n (e + 1))).flatten++ln e ["else"] :: (bs.map (lsD n (e + 1))).flatten)
  | d=>[ln e d.hw]
def oR:Nat->De->Nat
 | 0,_=>0
 | n + 1,d=>match d with
  | .pull _ _ ds=>1 + (ds.map (oR n)).sum
  | .iff _ as bs=>1 + ((as.map (oR n)).sum + (bs.map (oR n)).sum)
  | _=>1
def F15 (f:Fo):Prop:=f.Ok/\f.n<=15
def OkD:Nat->De->Prop
 | 0,_=>False
 | n + 1,d=>match d with
  | .fin=>True
  | .three k x f=>k∈[("put":Str),"push","draw"]/\Nam x/\F15 f
  | .send z x f1 y f2 f3=>(0<=z/\z<=5)/\(0<=y/\y<=9)/\Nam x/\F15 f1/\F15 f2/\F15 f3
  | .pull x y ds=>Nam x/\Nam y/\(∀ d∈ds,OkD n d)/\0 < n
  | .iff f as bs=>F15 f/\(∀ d∈as,OkD n d)/\(∀ d∈bs,OkD n d)/\0 < n
theorem HF {g:Fo} (ok:g.Ok) (l:g.n<=15):ki g.ws 1=some [g]:=by
 have p:=oP ok (rest:=[]) (st:=[]) rfl;rw [bW] at p;unfold ki;rw [if_neg (by rw [g.ws_len]; omega),p];dsimp only;rw [if_neg];rintro (z | ⟨g',m',z⟩)
 ·exact z rfl
 ·rw [az.mp m'] at z;omega
theorem EE {f1 f2 f3:Fo} (h1:F15 f1) (h2:F15 f2) (h3:F15 f3):ki (f1.ws++(f2.ws++f3.ws)) 3=some [f1,f2,f3]:=by
 have p3:=oP h3.1 (rest:=[]) (st:=[]) rfl;rw [bW] at p3;have p2:=oP h2.1 p3;have p1:=oP h1.1 p2;unfold ki;rw [if_neg (by rw [ae,ae,f1.ws_len,f2.ws_len,f3.ws_len]; have:=h1.2; have:=h2.2; have:=h3.2; omega),p1];dsimp only;rw [if_neg];rintro (z | ⟨g',m',z⟩)
 ·exact z rfl
 ·simp only [au,kW,or_false] at m';have:=h1.2;have:=h2.2;have:=h3.2
  rcases m' with rfl | rfl | rfl <;> omega
theorem iy {z:Int} (h:0<=z/\z<=9):Wo z:=by
 unfold Wo;omega
theorem sC {z lo hi:Int} (h:Wo z) (h1:lo<=z) (h2:z<=hi):gO (nt z) lo hi=some z:=by
 obtain ⟨c,cs,e,hc,_,it⟩:=oO h;have ll:=gu h;unfold gO nt;rw [if_neg (by omega),it];show (if _ then none else some z)=_;rw [if_neg];rintro (h3 | h3 | h3)
 ·exact h3 rfl
 ·omega
 ·omega
theorem HG:∀ w∈[("end":Str),"put","push","draw","send","pull","if","else","box","queue","draws","on","machine"],32∉w.cps.toList/\(∀ c∈w.cps.toList,c < 128)/\w.length<=17/\w.cps.toList≠[]:=by decide +kernel
theorem gA {x:Str} (h:Nam x):32∉x.cps.toList/\(∀ c∈x.cps.toList,c < 128)/\x.length<=17:=by
 refine ⟨fun m=>?_,fun c m=>?_,by have:=h.2.1; omega⟩
 all_goals
  have:=h.2.2 _ m;omega
theorem kf {z:Int} (h:Wo z):32∉(nt z).cps.toList/\(∀ c∈(nt z).cps.toList,c < 128)/\(nt z).length<=17:=by
 obtain ⟨c,cs,e,hc,hd,_⟩:=oO h;have e':(nt z).cps.toList=c :: cs:=e;refine ⟨fun m=>?_,fun d m=>?_,gu h⟩
 all_goals
  rw [e'] at m
  rcases au.mp m with y | y
  ·first | omega | (subst y; omega)
  ·have:=hd _ y;omega
theorem jr {w:Str} {r:List Str} (hw:w∈[("end":Str),"put","push","draw","send","pull","if","else","box","queue","draws","on","machine"]) (hr:∀ x∈r,32∉x.cps.toList/\(∀ c∈x.cps.toList,c < 128)/\x.length<=17) (l:r.length<=59):GL (w :: r):=by
 obtain ⟨k1,k2,k3,k4⟩:=HG w hw;refine ⟨⟨w,_,r,rfl,rfl,k4⟩,fun x m=>?_,by rw [aE]; omega⟩
 rcases au.mp m with rfl | m
 ·exact ⟨k1,k2,k3⟩
 ·exact hr x m
theorem OkD.gl {n:Nat} {d:De} (h:OkD (n + 1) d):GL d.hw:=by
 cases d with
 | fin=>exact jr (by decide) (fun x m=>by cases m) (by decide)
 | three k x f =>
  obtain ⟨h1,h2,h3⟩:=h;refine jr (by simp at h1 |-; rcases h1 with h | h | h <;> simp [h]) (fun y m=>?_) ?_
  ·rcases au.mp m with rfl | m
   ·exact gA h2
   ·exact mK h3.1 y m
  ·rw [aE,f.ws_len];have:=h3.2;omega
 | send z x f1 y f2 f3 =>
  obtain ⟨h1,h2,h3,h4,h5,h6⟩:=h;refine jr (by decide) (fun u m=>?_) ?_
  ·rcases au.mp m with rfl | m
   ·exact kf (iy ⟨h1.1,by omega⟩)
   rcases au.mp m with rfl | m
   ·exact gA h3
   rcases au.mp m with rfl | m
   ·exact kf (iy h2)
   rcases aU.mp m with m | m
   ·exact mK h4.1 u m
   rcases aU.mp m with m | m
   ·exact mK h5.1 u m
   ·exact mK h6.1 u m
  ·simp only [aE,ae];rw [f1.ws_len,f2.ws_len,f3.ws_len];have:=h4.2;have:=h5.2;have:=h6.2;omega
 | pull x y ds =>
  obtain ⟨h1,h2,_⟩:=h;refine jr (by decide) (fun u m=>?_) (by show 2<=59; decide)
  rcases au.mp m with rfl | m
  ·exact gA h1
  ·rw [az.mp m];exact gA h2
 | iff f as bs =>
  obtain ⟨h1,_,_⟩:=h;exact jr (by decide) (fun u m=>mK h1.1 u m) (by rw [f.ws_len]; have:=h1.2; omega)
theorem ir:GL [("else":Str)]:=jr (by decide) (fun x m=>by cases m) (by decide)
def Az (d:De):Dh:=match d with
 | .pull x y _=>.pull x y
 | .iff f _ _=>.iff f
 | d=>.leaf d
theorem OkD.head {n:Nat} {d:De} (h:OkD (n + 1) d):iY d.hw=some (Az d):=by
 cases d with
 | fin=>rfl
 | three k x f =>
  obtain ⟨h1,h2,h3⟩:=h;show iY (k :: x :: f.ws)=_;have ne:k≠"send"/\k≠"end"/\k≠"pull"/\k≠"if":=by
   simp at h1
   rcases h1 with rfl | rfl | rfl <;> decide
  rw [qJ,if_neg ne.1,if_neg ne.2.1,if_neg ne.2.2.1,if_neg ne.2.2.2,if_pos h1,za (HF h3.1 h3.2),if_pos (kA h2)];rfl
 | send z x f1 y f2 f3 =>
  obtain ⟨h1,h2,h3,h4,h5,h6⟩:=h;show iY ("send" :: nt z :: x :: nt y :: (f1.ws++(f2.ws++f3.ws)))=_;rw [qJ,if_pos rfl];show (if eG x=true then (match gO (nt z) 0 5,gO (nt y) 0 9,ki (f1.ws++(f2.ws++f3.ws)) 3 with
   | some z,some y,some [f1,f2,f3]=>some (Dh.leaf (.send z x f1 y f2 f3))
   | _,_,_=>none) else none)=_
  rw [if_pos (kA h3),sC (iy ⟨h1.1,by omega⟩) h1.1 h1.2,sC (iy h2) h2.1 h2.2,EE h4 h5 h6];rfl
 | pull x y ds =>
  obtain ⟨h1,h2,_⟩:=h;show iY ["pull",x,y]=_;rw [qJ,if_neg (by decide),if_neg (by decide),if_pos rfl,Bd,if_pos ⟨kA h1,kA h2⟩];rfl
 | iff f as bs =>
  obtain ⟨h1,_,_⟩:=h;show iY ("if" :: f.ws)=_;rw [qJ,if_neg (by decide),if_neg (by decide),if_neg (by decide),if_pos rfl,Hw (HF h1.1 h1.2)];rfl
theorem dO {α:Type} {L:List α} {i:Nat} {a:α} {t:List α} (h:L.drop i=a :: t):L[i]?=some a/\L.drop (i + 1)=t:=by
 constructor
 ·have:=congrArg (fun l=>l[0]?) h;rw [Ct] at this;simpa using this
 ·rw [<- HH,h];rfl
theorem fV {α:Type} {L:List α} {i:Nat} {a t:List α} (h:L.drop i=a++t):L.drop (i + a.length)=t:=by
 rw [<- HH,h,wU]
def LsD (n e:Nat) (ds:List De):List Str:=(ds.map (lsD n e)).flatten
def CnD (n:Nat) (ds:List De):Nat:=(ds.map (oR n)).sum
theorem hU (n e:Nat) (x:De) (ds:List De):LsD n e (x :: ds)=lsD n e x++LsD n e ds:=rfl
theorem jy (n:Nat) (x:De) (ds:List De):CnD n (x :: ds)=oR n x + CnD n ds:=rfl
theorem kN {n e:Nat} {x:De} (ok:OkD n x):∃ t,lsD n e x=ln e x.hw :: t/\GL x.hw/\1<=oR n x:=by
 cases n with
 | zero=>exact absurd ok (fun z=>z)
 | succ n =>
  cases x with
  | fin=>exact ⟨_,rfl,ok.gl,aF _⟩
  | three k x f=>exact ⟨_,rfl,ok.gl,aF _⟩
  | send z x f1 y f2 f3=>exact ⟨_,rfl,ok.gl,aF _⟩
  | pull x y ds=>exact ⟨_,rfl,ok.gl,Gd _ _⟩
  | iff f as bs=>exact ⟨_,rfl,ok.gl,Gd _ _⟩
def OneD (L:List Str) (n d:Nat):Prop:=∀ (x:De) (i c:Nat) (rest:List Str),L.drop i=lsD n (d + 1) x++rest->OkD n x->c + oR n x<=20->oQ L (i + (lsD n (d + 1) x).length) (d + 2)->iH L d i c (.ok (some x,i + (lsD n (d + 1) x).length,c + oR n x))
theorem zf {L:List Str} {n d:Nat} (one:OneD L n d):∀ (ds:List De) (i c:Nat) (rest:List Str),L.drop i=LsD n (d + 1) ds++rest->(∀ x∈ds,OkD n x)->c + CnD n ds<=20->oQ L (i + (LsD n (d + 1) ds).length) (d + 1)->ft L d i c (.ok (ds,i + (LsD n (d + 1) ds).length,c + CnD n ds))
 | [],i,c,rest,h,ok,cc,sh=>by
  refine EC ?_
  by_cases o:5 < d\/20<=c
  ·exact Ax o
  ·refine Be o ?_;have s:oQ L i (d + 1):=sh;rw [s.words (aF _)];exact ze
 | x :: ds,i,c,rest,h,ok,cc,sh=>by
  have okx:=ok x aw;obtain ⟨t,ex,_,c1⟩:=kN (e:=d + 1) okx;rw [hU,bo] at h;rw [hU,ae,<- lG] at sh |-;rw [jy,<- lG] at cc |-;have h2:=fV h;have s2:oQ L (i + (lsD n (d + 1) x).length) (d + 2):=by
   cases ds with
   | nil=>exact oQ.le (e:=d + 1) sh (by omega)
   | cons y ds =>
    obtain ⟨t',ey,gy,_⟩:=kN (e:=d + 1) (ok y (by simp));rw [hU,ey] at h2;exact .inr ⟨d + 1,y.hw,(dO h2).1,gy,by omega⟩
  exact Bi (one x i c _ h okx (by omega) s2) (by omega) (by omega) (zf one ds _ _ rest h2 (fun y m=>ok y (ar _ m)) cc sh)
theorem zi {L:List Str}:∀ (n d:Nat),n + d=6->OneD L n d
 | 0,d,_,x,i,c,rest,h,ok,cc,sh=>absurd ok (fun z=>z)
 | n + 1,d,hn,x,i,c,rest,h,ok,cc,sh=>by
  have ih:=zf (zi (L:=L) n (d + 1) (by omega));obtain ⟨t,ex,g,c1⟩:=kN (e:=d + 1) ok;have no:¬ (5 < d\/20<=c):=by omega
  have e:iY (dg L i (d + 1))=some (Az x):=by
   rw [ex] at h;rw [gz (dO h).1 g];exact ok.head
  cases x with
  | fin=>exact ur no e
  | three k x f=>exact ur no e
  | send z x f1 y f2 f3=>exact ur no e
  | pull x y ds =>
   have h1:=(dO (show L.drop i=ln (d + 1) ["pull",x,y] :: (LsD n (d + 2) ds++rest) from h)).2;have lx:(lsD (n + 1) (d + 1) (.pull x y ds)).length=(LsD n (d + 2) ds).length + 1:=rfl;have cx:oR (n + 1) (.pull x y ds)=1 + CnD n ds:=rfl;rw [lx,show i + ((LsD n (d + 2) ds).length + 1)=i + 1 + (LsD n (d + 2) ds).length by omega] at sh |-;rw [cx,<- lG] at cc |-;exact Bf no e (ih ds (i + 1) (c + 1) rest h1 ok.2.2.1 cc sh)
  | iff f as bs =>
   have h1:=(dO (show L.drop i=ln (d + 1) ("if" :: f.ws) :: ((LsD n (d + 2) as++ln (d + 1) ["else"] :: LsD n (d + 2) bs)++rest) from h)).2;rw [bo] at h1;have h2:=fV h1;obtain ⟨h3,h4⟩:=dO (show L.drop (i + 1 + (LsD n (d + 2) as).length)=ln (d + 1) ["else"] :: (LsD n (d + 2) bs++rest) from h2);have lx:(lsD (n + 1) (d + 1) (.iff f as bs)).length=(LsD n (d + 2) as++ln (d + 1) ["else"] :: LsD n (d + 2) bs).length + 1:=rfl;have cx:oR (n + 1) (.iff f as bs)=1 + (CnD n as + CnD n bs):=rfl;rw [lx,ae,aE,show i + ((LsD n (d + 2) as).length + ((LsD n (d + 2) bs).length + 1) + 1)=i + 1 + (LsD n (d + 2) as).length + 1 + (LsD n (d + 2) bs).length by omega] at sh |-;rw [cx,<- lG,<- lG] at cc |-;exact Hy no e (ih as (i + 1) (c + 1) _ h1 ok.2.1 (by omega) (.inr ⟨d + 1,["else"],h3,ir,by omega⟩)) (by omega) (gz h3 ir) (ih bs _ _ rest h4 ok.2.2.1 cc sh)
theorem oS {L:List Str} {i d:Nat} {kind x:Str} {cnt:Nat} {names r:List Str} (h:dg L i d=kind :: x :: r) (hl:r.length + 2=cnt) (hx:Nam x) (hn:x∉names):eA L i d kind cnt names=some (kind :: x :: r):=by
 unfold eA;rw [h,if_pos];refine ⟨by rw [<- hl]; rfl,rfl,?_⟩;show (eG x && !decide (x∈names))=true;rw [kA hx,decide_eq_false hn];rfl
theorem qK {L:List Str} {i d:Nat} {kind w:Str} {cnt:Nat} {names r:List Str} (h:dg L i d=w :: r) (n:w≠kind):eA L i d kind cnt names=none:=by
 unfold eA;rw [if_neg];rintro ⟨_,z,_⟩;rw [h] at z;exact n (b0 z)
def sY (L:List Str) (i:Nat) (ks:List Str):Prop:=∃ w r,dg L i 1=w :: r/\w∉ks
theorem HI {L:List Str}:∀ (bs:List (Str×Int)) (n i:Nat) (acc:List (Str×Int)) (rest:List Str),L.drop i=bs.map (fun b=>ln 1 ["box",b.1,nt b.2])++rest->bs.length<=n->(∀ b∈bs,Nam b.1/\Wo b.2)->(acc.map (·.1)++bs.map (·.1)).Nodup->(bs.length=n\/sY L (i + bs.length) ["box"])->iq L n i acc=(acc++bs,i + bs.length)
 | [],n,i,acc,rest,h,l,ok,nd,st=>by
  rw [bW]
  cases n with
  | zero=>rfl
  | succ n =>
   rcases st with st | ⟨w,r,hw,nw⟩
   ·exact absurd st (by simp)
   ·show (match eA L i 1 "box" 3 (acc.map (·.1)) with
     | some [_,nm,wd]=>_
     | _=>(acc,i))=_
    rw [show eA L i 1 "box" 3 (acc.map (·.1))=none from qK hw (by simpa using nw)];rfl
 |(x,z) :: bs,0,i,acc,rest,h,l,ok,nd,st=>absurd l (by simp)
 |(x,z) :: bs,n + 1,i,acc,rest,h,l,ok,nd,st=>by
  obtain ⟨h1,h2⟩:=dO h;obtain ⟨hx,hz⟩:=ok (x,z) aw;have g:GL ["box",x,nt z]:=jr (by decide) (fun u m=>by
   rcases au.mp m with rfl | m
   ·exact gA hx
   ·rw [az.mp m]; exact kf hz) (by show 2<=59; decide)
  have hx':x∉acc.map (·.1):=fun m=>(dM.mp nd).2.2 x m x aw rfl;show (match eA L i 1 "box" 3 (acc.map (·.1)) with
     | some [_,nm,wd]=>(match gO wd (-(10 ^ 15)) (10 ^ 15) with
      | some z=>iq L n (i + 1) (acc++[(nm,z)])
      | none=>(acc,i))
     | _=>(acc,i))=_
  rw [show eA L i 1 "box" 3 (acc.map (·.1))=some [("box":Str),x,nt z] from oS (gz h1 g) rfl hx hx'];dsimp only;rw [sC hz hz.1 hz.2];dsimp only;rw [HI bs n (i + 1) (acc++[(x,z)]) rest h2 (by simpa using l) (fun b m=>ok b (ar _ m)) (by simpa using nd) (by rcases st with st | st; exact .inl (by simpa using st); exact .inr (by rw [aE] at st; rw [show i + 1 + bs.length=i + (bs.length + 1) by omega]; exact st))];rw [bo,aE,show i + 1 + bs.length=i + (bs.length + 1) by omega];rfl
theorem HJ {L names:List Str}:∀ (qs:List Str) (n i:Nat) (acc:List Str) (rest:List Str),L.drop i=qs.map (fun q=>ln 1 ["queue",q])++rest->qs.length<=n->(∀ q∈qs,Nam q)->((names++acc)++qs).Nodup->(qs.length=n\/sY L (i + qs.length) ["queue"])->jh L names n i acc=(acc++qs,i + qs.length)
 | [],n,i,acc,rest,h,l,ok,nd,st=>by
  rw [bW]
  cases n with
  | zero=>rfl
  | succ n =>
   rcases st with st | ⟨w,r,hw,nw⟩
   ·exact absurd st (by simp)
   ·show (match eA L i 1 "queue" 2 (names++acc) with
     | some [_,nm]=>_
     | _=>(acc,i))=_
    rw [show eA L i 1 "queue" 2 (names++acc)=none from qK hw (by simpa using nw)];rfl
 | x :: qs,0,i,acc,rest,h,l,ok,nd,st=>absurd l (by simp)
 | x :: qs,n + 1,i,acc,rest,h,l,ok,nd,st=>by
  obtain ⟨h1,h2⟩:=dO h;have hx:=ok x aw;have g:GL ["queue",x]:=jr (by decide) (fun u m=>by
   rw [az.mp m];exact gA hx) (by show 1<=59; decide)
  have hx':x∉names++acc:=fun m=>(dM.mp nd).2.2 x m x aw rfl;show (match eA L i 1 "queue" 2 (names++acc) with
     | some [_,nm]=>jh L names n (i + 1) (acc++[nm])
     | _=>(acc,i))=_
  rw [show eA L i 1 "queue" 2 (names++acc)=some [("queue":Str),x] from oS (gz h1 g) rfl hx hx'];dsimp only;rw [HJ qs n (i + 1) (acc++[x]) rest h2 (by simpa using l) (fun b m=>ok b (ar _ m)) (by simpa using nd) (by rcases st with st | st; exact .inl (by simpa using st); exact .inr (by rw [aE] at st; rw [show i + 1 + qs.length=i + (qs.length + 1) by omega]; exact st))];rw [bo,aE,show i + 1 + qs.length=i + (qs.length + 1) by omega];rfl
theorem Bm:∀ {zs:List Int},(∀ z∈zs,Wo z/\0<=z)->pA 0 (10 ^ 15) (zs.map nt)=some zs
 | [],_=>rfl
 | z :: zs,h=>by
  obtain ⟨h1,h2⟩:=h z aw;show (match gO (nt z) 0 (10 ^ 15),pA 0 (10 ^ 15) (zs.map nt) with
   | some z,some zs=>some (z :: zs)
   | _,_=>none)=_
  rw [sC h1 h2 h1.2,Bm fun y m=>h y (ar _ m)]
theorem rd_dr {L:List Str} {zs:List Int} {i:Nat} (h:L[i]?=some (ln 1 ("draws" :: zs.map nt))) (ne:zs≠[]) (l:zs.length<=20) (ok:∀ z∈zs,Wo z/\0<=z):lu L i=(zs,i + 1):=by
 have g:GL ("draws" :: zs.map nt):=jr (by decide) (fun u m=>by
  obtain ⟨z,mz,rfl⟩:=cO.mp m;exact kf (ok z mz).1) (by rw [aa]; omega)
 unfold lu;rw [gz h g];dsimp only;have l1:=fj.mpr ne;rw [if_pos ⟨rfl,by rw [aa]; omega,by rw [aa]; omega⟩,Bm ok]
theorem Jh {L:List Str} {i:Nat} (h:sY L i ["draws"]):lu L i=([],i):=by
 obtain ⟨w,r,hw,nw⟩:=h;unfold lu;rw [hw];dsimp only;rw [if_neg];rintro ⟨z,_⟩;exact nw (by simp [z])
def lsH (h:Str×List De):List Str:=ln 1 ["on",h.1] :: LsD 5 2 h.2
def OkH (h:Str×List De):Prop:=Nam h.1/\(∀ x∈h.2,OkD 5 x)/\CnD 5 h.2<=20
theorem qZ {x:Str} (h:Nam x):GL [("on":Str),x]:=jr (by decide) (fun u m=>by rw [az.mp m]; exact gA h) (by show 1<=59; decide)
theorem nR {x:Str} (h:Nam x):GL [("machine":Str),x]:=jr (by decide) (fun u m=>by rw [az.mp m]; exact gA h) (by show 1<=59; decide)
theorem HK {L:List Str}:∀ (hs:List (Str×List De)) (n i:Nat) (acc:List (Str×List De)) (rest:List Str),L.drop i=(hs.map lsH).flatten++rest->hs.length<=n->(∀ h∈hs,OkH h)->(acc.map (·.1)++hs.map (·.1)).Nodup->oQ L (i + (hs.map lsH).flatten.length) 1->mO L n i acc=.ok (acc++hs,i + (hs.map lsH).flatten.length)
 | [],n,i,acc,rest,h,l,ok,nd,sh=>by
  rw [bW]
  cases n with
  | zero=>rfl
  | succ n =>
   have s:oQ L i 1:=sh;show (match eA L i 1 "on" 2 (acc.map (·.1)) with
     | some [_,nm]=>_
     | _=>Except.ok (acc,i))=_
   rw [show eA L i 1 "on" 2 (acc.map (·.1))=none from qK (s.words (aF _)) (by decide)];rfl
 |(x,ds) :: hs,0,i,acc,rest,h,l,ok,nd,sh=>absurd l (by simp)
 |(x,ds) :: hs,n + 1,i,acc,rest,h,l,ok,nd,sh=>by
  obtain ⟨hx,hd,hc⟩:=ok (x,ds) aw;have hf:(((x,ds) :: hs).map lsH).flatten=ln 1 ["on",x] :: (LsD 5 2 ds++(hs.map lsH).flatten):=rfl;rw [hf] at h sh |-;obtain ⟨h1,h2⟩:=dO (show L.drop i=ln 1 ["on",x] :: ((LsD 5 2 ds++(hs.map lsH).flatten)++rest) from h);rw [bo] at h2;have h3:=fV h2;rw [aE,ae,show i + ((LsD 5 2 ds).length + (hs.map lsH).flatten.length + 1)=i + 1 + (LsD 5 2 ds).length + (hs.map lsH).flatten.length by omega] at sh |-;have hx':x∉acc.map (·.1):=fun m=>(dM.mp nd).2.2 x m x aw rfl;have s2:oQ L (i + 1 + (LsD 5 2 ds).length) 2:=by
   cases hs with
   | nil=>exact oQ.le (e:=1) sh (by omega)
   | cons y hs=>exact .inr ⟨1,["on",y.1],(dO h3).1,qZ (ok y (by simp)).1,by omega⟩
  have k:kd L 42 1 (i + 1) 0=.ok (ds,i + 1 + (LsD 5 2 ds).length,0 + CnD 5 ds):=zf (zi 5 1 rfl) ds (i + 1) 0 _ h2 hd (by rw [ny]; exact hc) s2 42 (by omega);show (match eA L i 1 "on" 2 (acc.map (·.1)) with
     | some [_,nm]=>(match kd L 42 1 (i + 1) 0 with
      | .error e=>Except.error e
      | .ok (ds,i',_)=>mO L n i' (acc++[(nm,ds)]))
     | _=>Except.ok (acc,i))=_
  rw [show eA L i 1 "on" 2 (acc.map (·.1))=some [("on":Str),x] from oS (gz h1 (qZ hx)) rfl hx hx'];dsimp only;rw [k];dsimp only;rw [HK hs n _ (acc++[(x,ds)]) rest h3 (by simpa using l) (fun b m=>ok b (ar _ m)) (by simpa using nd) sh,bo];rfl
theorem uu {L:List Str} {j:Nat} {w:Str} {r ks:List Str} (h:L[j]?=some (ln 1 (w :: r))) (g:GL (w :: r)) (n:w∉ks):sY L j ks:=⟨w,r,gz h g,n⟩
theorem Bn {L:List Str} {j:Nat} {ks:List Str} (h:oQ L j 1) (n:("":Str)∉ks):sY L j ks:=⟨"",[],h.words (aF _),n⟩
theorem sY.sub {L:List Str} {j:Nat} {ks us:List Str} (h:sY L j ks) (s:∀ x∈us,x∈ks):sY L j us:=by
 obtain ⟨w,r,e,n⟩:=h;exact ⟨w,r,e,fun m=>n (s w m)⟩
def bxL (bs:List (Str×Int)):List Str:=bs.map (fun b=>ln 1 ["box",b.1,nt b.2])
def qsL (qs:List Str):List Str:=qs.map (fun q=>ln 1 ["queue",q])
def drL (zs:List Int):List Str:=if zs=[] then [] else [ln 1 ("draws" :: zs.map nt)]
def lB (M:Mo):List Str:=bxL M.bx++(qsL M.qs++(drL M.dr++(M.hr.map lsH).flatten))
def lsM (M:Mo):List Str:=ln 0 ["machine",M.nm] :: lB M
structure OkM (M:Mo):Prop where
 nm:Nam M.nm
 b6:M.bx.length<=6
 q3:M.qs.length<=3
 d20:M.dr.length<=20
 h4:M.hr.length<=4
 bx:∀ b∈M.bx,Nam b.1/\Wo b.2
 qs:∀ q∈M.qs,Nam q
 dr:∀ z∈M.dr,Wo z/\0<=z
 hr:∀ h∈M.hr,OkH h
 nd:(M.bx.map (·.1)++M.qs).Nodup
 ndh:(M.hr.map (·.1)).Nodup
theorem zj {L:List Str} {M:Mo} {i:Nat} {T:List Str} (h:L.drop i=bxL M.bx++(qsL M.qs++(drL M.dr++T))) (ok:OkM M) (n3:sY L (i + M.bx.length + M.qs.length + (drL M.dr).length) ["box","queue","draws"]):iq L 6 i []=(M.bx,i + M.bx.length)/\jh L (M.bx.map (·.1)) 3 (i + M.bx.length) []=(M.qs,i + M.bx.length + M.qs.length)/\lu L (i + M.bx.length + M.qs.length)=(M.dr,i + M.bx.length + M.qs.length + (drL M.dr).length)/\L.drop (i + M.bx.length + M.qs.length + (drL M.dr).length)=T:=by
 have h1:=fV h;have h2:=fV h1;have h3:=fV h2;have lb:(bxL M.bx).length=M.bx.length:=aa ..;have lq:(qsL M.qs).length=M.qs.length:=aa ..;rw [lb] at h1 h2 h3;rw [lq] at h2 h3;have n2:sY L (i + M.bx.length + M.qs.length) ["box","queue"]/\lu L (i + M.bx.length + M.qs.length)=(M.dr,i + M.bx.length + M.qs.length + (drL M.dr).length):=by
  by_cases e:M.dr=[]
  ·have d0:drL M.dr=[]:=by unfold drL; rw [if_pos e]
   rw [d0] at n3 |-;rw [e];exact ⟨n3.sub (by simp),Jh (n3.sub (by simp))⟩
  ·have d1:drL M.dr=[ln 1 ("draws" :: M.dr.map nt)]:=by unfold drL; rw [if_neg e]
   rw [d1] at h2 |-;have a:=(dO h2).1;have g:GL (("draws":Str) :: M.dr.map nt):=jr (by decide) (fun u m=>by
    obtain ⟨z,mz,rfl⟩:=cO.mp m;exact kf (ok.dr z mz).1) (by rw [aa]; have:=ok.d20; omega)
   exact ⟨uu a g (by decide),rd_dr a e ok.d20 ok.dr⟩
 have n1:sY L (i + M.bx.length) ["box"]:=by
  cases e:M.qs with
  | nil =>
   have:=n2.1;rw [e] at this;exact this.sub (by simp)
  | cons y qs =>
   rw [e] at h1;exact uu (dO h1).1 (jr (by decide) (fun u m=>by rw [az.mp m]; exact gA (ok.qs y (by rw [e]; exact aw))) (by show 1<=59; decide)) (by decide)
 exact ⟨HI M.bx 6 i [] _ h ok.b6 ok.bx (dM.mp ok.nd).1 (.inr n1),HJ M.qs 3 _ [] _ h1 ok.q3 ok.qs (by rw [bW]; exact ok.nd) (.inr (n2.1.sub (by simp))),n2.2,h3⟩
theorem Ji (M:Mo) (i:Nat):i + (lB M).length=i + M.bx.length + M.qs.length + (drL M.dr).length + (M.hr.map lsH).flatten.length:=by
 have lb:(bxL M.bx).length=M.bx.length:=aa ..;have lq:(qsL M.qs).length=M.qs.length:=aa ..;unfold lB;rw [ae,ae,ae,lb,lq];omega
theorem HL {L:List Str} {M:Mo} {i:Nat} {rest:List Str} (h:L.drop i=lB M++rest) (ok:OkM M) (sh:oQ L (i + (lB M).length) 1):jx L i M.nm=.ok (M,i + (lB M).length):=by
 unfold lB at h;rw [bo,bo,bo] at h;rw [Ji] at sh |-;have h3:=fV (fV (fV h));rw [show (bxL M.bx).length=M.bx.length from aa ..,show (qsL M.qs).length=M.qs.length from aa ..] at h3;have n3:sY L (i + M.bx.length + M.qs.length + (drL M.dr).length) ["box","queue","draws"]:=by
  cases e:M.hr with
  | nil =>
   rw [e] at sh;exact Bn sh (by decide)
  | cons y hs =>
   rw [e] at h3;exact uu (dO h3).1 (qZ (ok.hr y (by rw [e]; exact aw)).1) (by decide)
 obtain ⟨B,Q,Dr,h3⟩:=zj h ok n3;unfold jx;rw [B];dsimp only;rw [Q];dsimp only;rw [Dr];dsimp only;rw [HK M.hr 4 _ [] rest h3 ok.h4 ok.hr ok.ndh sh];rfl
theorem HM {L:List Str}:∀ (ms:List Mo) (n i:Nat) (acc:List Mo),L.drop i=(ms.map lsM).flatten->ms.length<=n->(∀ M∈ms,OkM M)->(acc.map (·.nm)++ms.map (·.nm)).Nodup->pk L n i acc=.ok (acc++ms,i + (ms.map lsM).flatten.length)
 | [],n,i,acc,h,l,ok,nd=>by
  rw [bW]
  cases n with
  | zero=>rfl
  | succ n =>
   have s:oQ L i 0:=.inl (Bo.mp h);show (match eA L i 0 "machine" 2 (acc.map (·.nm)) with
     | some [_,nm]=>_
     | _=>Except.ok (acc,i))=_
   rw [show eA L i 0 "machine" 2 (acc.map (·.nm))=none from qK (s.words (aF _)) (by decide)];rfl
 | M :: ms,0,i,acc,h,l,ok,nd=>absurd l (by simp)
 | M :: ms,n + 1,i,acc,h,l,ok,nd=>by
  have okM:=ok M aw;have hf:((M :: ms).map lsM).flatten=ln 0 ["machine",M.nm] :: (lB M++(ms.map lsM).flatten):=rfl;rw [hf] at h |-;obtain ⟨h1,h2⟩:=dO h;have h3:=fV h2;have hx':M.nm∉acc.map (·.nm):=fun m=>(dM.mp nd).2.2 M.nm m M.nm aw rfl;have s2:oQ L (i + 1 + (lB M).length) 1:=by
   cases ms with
   | nil=>exact .inl (Bo.mp h3)
   | cons y ms=>exact .inr ⟨0,["machine",y.nm],(dO h3).1,nR (ok y (by simp)).nm,by omega⟩
  show (match eA L i 0 "machine" 2 (acc.map (·.nm)) with
     | some [_,nm]=>(match jx L (i + 1) nm with
      | .error e=>Except.error e
      | .ok (M,j)=>pk L n j (acc++[M]))
     | _=>Except.ok (acc,i))=_
  rw [show eA L i 0 "machine" 2 (acc.map (·.nm))=some [("machine":Str),M.nm] from oS (gz h1 (nR okM.nm)) rfl okM.nm hx'];dsimp only;rw [HL h2 okM s2];dsimp only;rw [HM ms n _ (acc++[M]) h3 (by simpa using l) (fun b m=>ok b (ar _ m)) (by simpa using nd),bo,aE,ae];rw [show i + ((lB M).length + (ms.map lsM).flatten.length + 1)=i + 1 + (lB M).length + (ms.map lsM).flatten.length by omega];rfl
theorem rd_ok {ms:List Mo} (ne:ms≠[]) (l:ms.length<=6) (ok:∀ M∈ms,OkM M) (nd:(ms.map (·.nm)).Nodup):rdM (ms.map lsM).flatten=.ok ms:=by
 unfold rdM;rw [HM ms 6 0 [] rfl l ok nd];dsimp only;rw [if_neg,lY];rw [lY,ny,decide_eq_false (dz _),ye]
 cases ms with
 | nil=>exact absurd rfl ne
 | cons a b=>exact fun z=>nomatch z
def Hds (first:Int) (ss:List Str) (i:Nat):Prop:=ss.map (fun x=>x.cps.toList.head?)=(iz i).map fun j:Nat=>atI abc.cps.toList ((first + 3 * (0 + (j:Int))) % 26)
theorem Hds.snoc {first:Int} {ss:List Str} {i c:Nat} {y:Str} (h:Hds first ss i) (hc:atI abc.cps.toList ((first + 3 * (0 + (i:Int))) % 26)=some c):Hds first (ss++[⟨#[c]⟩++y]) (i + 1):=by
 unfold Hds at h |-;rw [List.range_succ,bA,bA,h];show _++[((⟨#[c]⟩++y:Str).cps.toList.head?)]=_++[atI abc.cps.toList ((first + 3 * (0 + (i:Int))) % 26)];rw [hc,dX];rfl
theorem Ge:∀ f:Fin 26,((iz 9).map fun j:Nat=>atI abc.cps.toList (((f.val:Int) + 3 * (0 + (j:Int))) % 26)).Nodup:=by decide +kernel
theorem Hds.nodup {first:Int} {ss:List Str} {i:Nat} (h:Hds first ss i) (f0:0<=first) (f1:first < 26) (i9:i<=9):ss.Nodup:=by
 obtain ⟨f,rfl⟩:∃ f:Nat,first=f:=⟨first.toNat,by omega⟩;refine List.Pairwise.of_map (S:=(·≠·)) (fun x:Str=>x.cps.toList.head?) (fun a b n e=>n (congrArg (fun x:Str=>x.cps.toList.head?) e)) ?_;unfold Hds at h;rw [h];refine e9 (List.Sublist.map _ ?_) (Ge ⟨f,by omega⟩);have e:iz i=(iz 9).take i:=by
  rw [List.take_range,jS i9]
 rw [e];exact iS ..
section
variable {P:aS} {w:bN} {K:ai} {mg:Str->Option ag} {base:cI} {f fT fW:aj} {fd fdT fdW:cf}
seal L2.PS L2.PSs L2.PE L2.PA L2.PT L2.PW L2.PI L2.PG L2.PGs L2.PC
inductive wV (vs:List V) (H:Hp) (Q:VK) (_e:XK):Prop where
 | mk (p:aj) (n:Int) (_:vs=[.ref p,.int n]) (_:ff H p) (_:0<=n) (_:n<=9) (_:∀ (l:aj) (ss:List Str) (H':Hp),H l=none->H' l=some (.lst (ss.map V.str))->(ss.length:Int)=n->(∀ x∈ss,Nam x)->ss.Nodup->ff H' p->But p H H'->Q (.ref l) H'):wV vs H Q _e
def vq:Sp:=fun vs H Q _e=>wV vs H Q _e
theorem wW (D:Df K mg "_law_names" jJ pN f fd) (DT:Df K mg "_law_take" fC pT fT fdT) (B:Bl mg):cQ P w K mg base CX0 2 f fd pN vq:=by
 have GT:cQ P w K mg base CX0 1 fT fdT pT oo:=nO DT B;refine D.F.ok scN (fun vs H Q E h=>?_) (fun cdv A outer s H vs Q E r1 h=>?_)
 ·obtain ⟨p,n,rfl,_⟩:=h;rfl
 obtain ⟨p,n,rfl,hp,hn0,hn9,q⟩:=h;refine ⟨_,aH (cq (i:=2) scN.nd rfl (Or.inr rfl) aO)
  (aH (cq (i:=3) scN.nd rfl (Or.inl rfl) (bq GT r1 (by rfl) DT.m DT.F.kp DT.b .nil bQ (bI (pv 0) (cS aq ak))))
  (aH (cq (i:=4) scN.nd rfl (Or.inl rfl) (cZ ak))
  (aH (jt cN rfl (lV (by rfl) B.range (bI (pv 1) ak)) (cT (i:=5) scN.nd rfl (Or.inl rfl)) (aH (cq (i:=6) scN.nd rfl (Or.inl rfl) (bq GT r1 (by rfl) DT.m DT.F.kp DT.b .nil bQ (bI (pv 0) (cS aq ak))))
  (aH (uc (i:=7) ["_law_j"] (gE.open (NN:=nN) (N:=nN) (sc:=bf jJ) rfl rfl (by decide +kernel) rfl (by decide +kernel) (by decide +kernel) rfl (by decide +kernel)) rfl scN.nd rfl (Or.inl rfl) (lV (by rfl) B.range (bI (pv 6) ak)) (fun _ _ _ _=>cT (i:=0) ndN rfl (Or.inl rfl)) (fun _ _ _ _=>ic) (fun _ _ _ _=>bR C0 (pv 3) (bq GT r1 (by rfl) DT.m DT.F.kp DT.b .nil bQ (bI (pv 1) (cS aq ak))) (fun _ _=>rfl)))
  (aI (dI (d9 aP bh bj dR (pv 4) (g9 (cb cD (bR C0 (pv 2) (cb qb (cb gx (pv 3) (cb q9 aq (pv 5))) aq) (fun _ _=>rfl)) (d9 bz cF cG ie aO (bI (pv 7) ak))) ak)))))))
  (aI (bE (pv 4)))))),?_⟩
 have big:=dG;refine aB (bT ?_);refine aG ?_;dsimp only;refine aB (bT ?_);refine ⟨_,rfl,p,26,rfl,hp,by decide,by decide,fun first H1 f0 f1 hp1 b1=>?_⟩;refine aG ?_;dsimp only;refine aB (bT ?_);refine ⟨aR _,fun l hl=>?_⟩;have s3:=aD hl (.lst []);have nl:l≠p:=om hp1 hl;have hlH:H l=none:=by
  cases e:H l with
  | none=>rfl
  | some o =>
   rw [b1 l o e nl] at hl
   cases hl
 refine aG ?_;dsimp only;refine aB ?_;refine ⟨_,rfl,n,rfl,by omega,by omega,qz (n:=n.toNat) (fun i σ G=>∃ (ss:List Str) (v6 v7 v8:Option V),σ=[some (.ref p),some (.int n),some (.str abc),some (.int first),some (.ref l),v6,v7,v8]/\i<=n.toNat/\G l=some (.lst (ss.map V.str))/\ss.length=i/\(∀ x∈ss,Nam x)/\Hds first ss i/\ff G p/\But p H G)
  ⟨[],none,none,none,rfl,aR _,ao,rfl,(fun x e=>by cases e),rfl,hp1.same s3,b1.same s3⟩ ?_ ?_⟩
 ·rintro i σ G hi ⟨ss,v6,v7,v8,rfl,hi2,hG,hss,gn,hd,pu,bt⟩;refine aB (bT ?_);refine ⟨_,rfl,p,6,rfl,pu,by decide,by decide,fun m G1 m0 m1 pu1 bt1=>?_⟩;refine aG ?_;dsimp only;have hG1:=bt1 _ _ hG nl;obtain ⟨k,rfl⟩:∃ k:Nat,m=(k:Int):=⟨m.toNat,by omega⟩;refine aB (bT ?_);refine wC (fun m G'=>m=k/\G'=G1) (fun R hR=>⟨_,rfl,hR k G1 ⟨rfl,rfl⟩⟩) (fun m G' h=>by omega) (fun m G' i ys G2=>∃ ts:List Str,ys=ts.map V.str/\ts.length=i/\(∀ x∈ts,x.length<=1/\Ltr x)/\ff G2 p/\But p G1 G2) ?_ ?_ ?_ ?_
  ·rintro m G' ⟨rfl,rfl⟩;exact ⟨[],rfl,rfl,(fun x e=>by cases e),pu1,But.refl _ _⟩
  ·rintro m G' ⟨rfl,rfl⟩ i ys G2 hi ⟨ts,rfl,hts,_⟩;rw [aa];omega
  ·rintro m G' ⟨rfl,rfl⟩ j ys G2 hj ⟨ts,rfl,hts,lts,pu2,bt2⟩;refine aG ⟨rfl,?_⟩;unfold rT;refine cV ?_;refine ⟨_,rfl,_,rfl,p,26,rfl,pu2,by decide,by decide,fun r G3 r0 r1' pu3 bt3=>?_⟩;obtain ⟨c,hc⟩:=Eh r0 r1';refine ⟨abc,_,c,rfl,rfl,wB,hc,ts++[⟨#[c]⟩],by rw [bA]; rfl,by rw [ae]; show _=j + 1; rw [hts]; rfl,fun x hx=>?_,pu3,bt2.trans bt3⟩
   rcases aU.mp hx with z | z
   ·exact lts x z
   ·rw [az.mp z];exact ⟨aF 1,A5 (Ej hc)⟩
  ·rintro m G' ⟨rfl,rfl⟩ ys G2 ⟨ts,rfl,hts,lts,pu2,bt2⟩ lt hlt;refine aG ?_;dsimp only;have st:=aD hlt (.lst (ts.map V.str));have hG2:=st _ _ (bt2 _ _ hG1 nl);have pu3:=pu2.same st;have z1:=Eh (iM (first + 3 * (0 + (i:Int))) (show (26:Int)≠0 by decide)) (gG (first + 3 * (0 + (i:Int))) (by decide));obtain ⟨c,hc⟩:=z1;have js:jsz "" ts<=5:=by
    have:=sW (z:="") fun x hx=>(lts x hx).1;have e0:("":Str).length=0:=by decide
    rw [e0,hts] at this;omega
   have jl:=iX "" ts;refine ⟨_,rfl,.inl ⟨rfl,_,SqL.of hG2⟩,_,rfl,_,rfl,_,rfl,_,_,rfl,rfl,.inl ⟨by decide,by decide⟩,_,_,rfl,rfl,_,_,rfl,rfl,(by show (0:Int) < 26; decide),abc,_,c,rfl,rfl,wB,hc,rfl,_,rfl,_,lt,ts,rfl,rfl,.inl (SqL.of ao),by omega,_,_,rfl,rfl,?_,l,_,_,rfl,rfl,hG2,(by rw [aa]; omega),?_⟩
   ·show 1 + (bB "" ts).length<=ax;omega
   ·refine ⟨ss++[⟨#[c]⟩++bB "" ts],_,_,_,rfl,by omega,by rw [bA]; exact ao,by rw [ae,hss]; rfl,fun x hx=>?_,hd.snoc hc,sV pu3 nl,?_⟩
    ·rcases aU.mp hx with z | z
     ·exact gn x z
     ·rw [az.mp z];refine ⟨?_,?_,xR (A5 (Ej hc)) (yY fun x hx=>(lts x hx).2)⟩
      ·rw [aL];show 1<=1 + _;omega
      ·rw [aL];show 1 + _<=6;omega
    ·intro b o e n;have nb:b≠l:=bw e hlH;rw [aX nb];exact st _ _ (bt2 _ _ (bt1 _ _ (bt _ _ e n) n) n)
 ·rintro σ G ⟨ss,v6,v7,v8,rfl,hi2,hG,hss,gn,hd,pu,bt⟩;refine ⟨_,rfl,?_⟩;exact q l ss G hlH hG (by omega) gn (hd.nodup f0 f1 (by omega)) pu bt
end
end My
namespace My.Dr
open PySem L2
abbrev Rw:=Nat×(Str->List Str)
def rowsC (rs:List Rw):Nat:=(rs.map (·.1)).sum
def rowsL (rs:List Rw) (b:Str):List Str:=rs.flatMap fun r=>r.2 b
inductive LfD (H:Hp):V->Str->Prop where
 | fin {t}:H t=some (.tup [.str "end"])->LfD H (.ref t) "end"
 | three {t k x v s}:H t=some (.tup [.str k,.str x,v])->(k="put"\/k="push"\/k="draw")->Nam x->FI H 15 v s->LfD H (.ref t) (bB " " [k,x,s])
 | send {t z x v1 y v2 v3 s1 s2 s3}:H t=some (.tup [.str "send",.int z,.str x,v1,.int y,v2,v3])->(0<=z/\z<=5)->(0<=y/\y<=9)->Nam x->FI H 15 v1 s1->FI H 15 v2 s2->FI H 15 v3 s3 ->
  LfD H (.ref t) (bB " " ["send",ba (toString z),x,ba (toString y),s1,s2,s3])
def DI (H:Hp):Nat->V->Rw->Prop
 | 0,_,_=>False
 | n + 1,v,r=>(∃ s,LfD H v s/\r=(1,fun b=>[b++s])) \/
  (∃ t l x y vs rs,0 < n/\v=.ref t/\H t=some (.tup [.str "pull",.str x,.str y,.ref l])/\Nam x/\Nam y/\H l=some (.lst vs)/\cK (fun r v=>DI H n v r) rs vs /\
   r=(1 + rowsC rs,fun b=>(b++bB " " ["pull",x,y]) :: rowsL rs (b++"  "))) \/
  (∃ t l1 l2 f s vs1 vs2 rs1 rs2,0 < n/\v=.ref t/\H t=some (.tup [.str "if",f,.ref l1,.ref l2])/\FI H 15 f s/\H l1=some (.lst vs1)/\H l2=some (.lst vs2)/\cK (fun r v=>DI H n v r) rs1 vs1/\cK (fun r v=>DI H n v r) rs2 vs2 /\
   r=(1 + rowsC rs1 + rowsC rs2,fun b=>(b++("if "++s)) :: (rowsL rs1 (b++"  ")++(b++"else") :: rowsL rs2 (b++"  "))))
def Tk (H H':Hp):Prop:=∀ t xs,H t=some (.tup xs)->H' t=some (.tup xs)
theorem Tk.trans {H H1 H2:Hp} (a:Tk H H1) (b:Tk H1 H2):Tk H H2:=fun t xs e=>b _ _ (a _ _ e)
def Nl (H H1 G:Hp):Prop:=∀ a xs,H a=none->H1 a=some (.lst xs)->G a=some (.lst xs)
def OwD (H H1:Hp) (n:Nat) (v:V) (r:Rw):Prop:=∀ G,Tk H1 G->Nl H H1 G->DI G n v r
def OwS (H H1:Hp) (n:Nat) (vs:List V) (rs:List Rw):Prop:=∀ G,Tk H1 G->Nl H H1 G->cK (fun r v=>DI G n v r) rs vs
theorem LfD.up {H H':Hp} {v:V} {s:Str} (h:LfD H v s) (k:Tk H H'):LfD H' v s:=by
 cases h with
 | fin a=>exact .fin (k _ _ a)
 | three a b c d=>exact .three (k _ _ a) b c (d.up k)
 | send a b c d e1 e2 e3=>exact .send (k _ _ a) b c d (e1.up k) (e2.up k) (e3.up k)
def Bt2 (p q:aj) (H H':Hp):Prop:=∀ b o,H b=some o->b≠p->b≠q->H' b=some o
theorem Bt2.of {p q:aj} {H H':Hp} (h:But p H H'):Bt2 p q H H':=fun b o e n _=>h b o e n
theorem Bt2.trans {p q:aj} {H H1 H2:Hp} (a:Bt2 p q H H1) (b:Bt2 p q H1 H2):Bt2 p q H H2:=fun c o e n m=>b c o (a c o e n m) n m
theorem Bt2.same {p q:aj} {H H1 H2:Hp} (a:Bt2 p q H H1) (b:cB H1 H2):Bt2 p q H H2:=fun c o e n m=>b c o (a c o e n m)
structure Two (H:Hp) (p q:aj) (z:Int):Prop where
 pu:ff H p
 le:H q=some (.lst [.int z])
theorem Two.ne {H:Hp} {p q:aj} {z:Int} (h:Two H p q z):q≠p:=by
 obtain ⟨⟨x,y,e⟩,e2⟩:=h;exact Cw e2 e (fun w=>by cases w)
theorem Two.tk {H H':Hp} {p q:aj} {z:Int} (h:Two H p q z) (b:Bt2 p q H H'):Tk H H':=fun t xs e=>b _ _ e (fun w=>by
  obtain ⟨⟨x,y,e3⟩,e2⟩:=h;rw [<- w,e] at e3
  cases e3) (fun w=>by
  have e2:=h.le;rw [<- w,e] at e2
  cases e2)
theorem Two.but {H H':Hp} {p q:aj} {z:Int} (h:Two H p q z) (b:But p H H') (pu:ff H' p):Two H' p q z:=⟨pu,b _ _ h.le h.ne⟩
theorem Two.same {H H':Hp} {p q:aj} {z:Int} (h:Two H p q z) (b:cB H H'):Two H' p q z:=⟨h.pu.same b,b _ _ h.le⟩
theorem Two.nm {H H':Hp} {p q l:aj} {z:Int} (h:Two H p q z) (nm:vN H l) (b:Bt2 p q H H'):vN H' l:=by
 obtain ⟨ns,e,r⟩:=nm;refine ⟨ns,b _ _ e (um h.pu e) (fun w=>?_),r⟩;have e2:=h.le;rw [<- w,e] at e2
 cases ns with
 | nil=>cases e2
 | cons a s=>cases e2
theorem Two.dm {H H':Hp} {p q:aj} {z':Int} (b:Bt2 p q H H') (h:Two H' p q z') {a:aj} (n:H' a=none):H a=none:=by
 cases e:H a with
 | none=>rfl
 | some o =>
  obtain ⟨⟨x,y,e3⟩,e2⟩:=h
  by_cases c:a=p
  ·rw [c,e3] at n
   cases n
  by_cases c2:a=q
  ·rw [c2,e2] at n
   cases n
  rw [b a o e c c2] at n
  cases n
theorem Two.nn {H:Hp} {p q a:aj} {z:Int} (h:Two H p q z) (n:H a=none):a≠p/\a≠q:=by
 obtain ⟨⟨x,y,e3⟩,e2⟩:=h;exact ⟨(bw e3 n).symm,(bw e2 n).symm⟩
theorem Nl.back {H H1 H2 G:Hp} {p q:aj} {z:Int} (tw:Two H p q z) (b:Bt2 p q H1 H2) (nl:Nl H H2 G):Nl H H1 G:=fun a xs ha e=>nl a xs ha (b a _ e (tw.nn ha).1 (tw.nn ha).2)
theorem Nl.pull {H G1 H1 G:Hp} {p q:aj} {z:Int} (b:Bt2 p q H G1) (tw:Two G1 p q z) (nl:Nl H H1 G):Nl G1 H1 G:=fun a xs ha e=>nl a xs (Two.dm b tw ha) e
theorem psnoc {α β:Type} {R:α->β->Prop} {rs:List α} {vs:List β} {r:α} {v:β} (h:cK R rs vs) (e:R r v):cK R (rs++[r]) (vs++[v]):=by
 induction h with
 | nil=>exact .cons e .nil
 | cons a _ ih=>exact .cons a ih
section
variable {P:aS} {w:bN} {K:ai} {mg:Str->Option ag} {base:cI} {f fT fW fF fE fS:aj} {fd fdT fdW fdF fdE fdS:cf}
seal L2.PS L2.PSs L2.PE L2.PA L2.PT L2.PW L2.PI L2.PG L2.PGs L2.PC
abbrev nE:List Str:=["_law_purse_here","_law_names_here","_law_left","_law_deep","_law_sort","_law_name","_law_one","_law_ones","_law_rank","_law_two"]
abbrev pE:List Str:=["_law_purse_here","_law_names_here","_law_left","_law_deep"]
theorem scE:cH nE pE (bf mH):=⟨rfl,rfl,rfl,by decide +kernel,rfl,by decide +kernel,by decide +kernel⟩
abbrev nS:List Str:=["_law_purse_here","_law_names_here","_law_left","_law_deep","_law_found","_law_k"]
abbrev pS:List Str:=["_law_purse_here","_law_names_here","_law_left","_law_deep"]
theorem scS:cH nS pS (bf jK):=⟨rfl,rfl,rfl,by decide +kernel,rfl,by decide +kernel,by decide +kernel⟩
theorem pick_i {p l q:aj} {z:Int} {i j:Nat} {σ:St} {G:Hp} {E':XK} {R:VK} (hp:σ[i]?=some (some (.ref p))) (hl:σ[j]?=some (some (.ref l))) (tw:Two G p q z) (nm:vN G l)
  (h:∀ (x:Str) (G1:Hp),Nam x->Two G1 p q z->vN G1 l->Bt2 p q G G1->R (.str x) G1):tOp (rIxL K) (kH j) (vY oo [] E' (gX (kH i) (gX (tCB (GX K) (gX (kH j) rg)) rg))) σ G R:=by
 obtain ⟨ns,e,n0,n9,n6⟩:=nm;refine ⟨_,hl,_,hp,_,hl,l,_,rfl,.inl (SqL.of e),p,_,rfl,tw.pu,by rw [aa]; omega,by rw [aa]; omega,fun r G1 r0 r1 pu b=>?_⟩;rw [aa] at r1;obtain ⟨x,hx,mx⟩:=sk r0 r1;have e1:=b _ _ e (um tw.pu e);exact ⟨l,_,_,_,rfl,rfl,SqL.of e1,hx,h x G1 (n6 x mx) (tw.but b pu) ⟨ns,e1,n0,n9,n6⟩ (.of b)⟩
inductive spDeI (n:Nat) (vs:List V) (H:Hp) (Q:VK) (_e:XK):Prop where
 | mk (p l q:aj) (d z:Int) (_:vs=[.ref p,.ref l,.ref q,.int d]) (_:Two H p q z) (_:vN H l) (_:0 < z) (_:5 < d + n) (_:d<=5) (_:∀ (v:V) (r:Rw) (H':Hp) (z':Int),OwD H H' n v r->Two H' p q z'->(r.1:Int) + z'<=z->0<=z'->Bt2 p q H H'->Q v H'):spDeI n vs H Q _e
def spDe (n:Nat):Sp:=fun vs H Q _e=>spDeI n vs H Q _e
inductive zc (n:Nat) (vs:List V) (H:Hp) (Q:VK) (_e:XK):Prop where
 | mk (p l q:aj) (d z:Int) (_:vs=[.ref p,.ref l,.ref q,.int d]) (_:Two H p q z) (_:vN H l) (_:0<=z) (_:5 < d + n) (_:d<=5) (_:∀ (m:aj) (vs:List V) (rs:List Rw) (H':Hp) (z':Int),H m=none->H' m=some (.lst vs)->OwS H H' n vs rs->Two H' p q z'->(rowsC rs:Int) + z'<=z->0<=z'->Bt2 p q H H'->Q (.ref m) H'):zc n vs H Q _e
def vo (n:Nat):Sp:=fun vs H Q _e=>zc n vs H Q _e
theorem de_step {n:Nat} (D:Df K mg "_law_deed" mH pE f fd) (DT:Df K mg "_law_take" fC pT fT fdT) (DW:Df K mg "_law_worth" ia pW fW fdW) (DF:Df K mg "_law_formula" iC pFo fF fdF) (DS:Df K mg "_law_deeds" jK pS fS fdS) (B:Bl mg) (GS:cQ P w K mg base CX0 (2 * n + 19) fS fdS pS (vo n)):cQ P w K mg base CX0 (2 * n + 20) f fd pE (spDe (n + 1)):=by
 have GT:cQ P w K mg base CX0 1 fT fdT pT oo:=nO DT B;have GF:cQ P w K mg base CX0 17 fF fdF pFo (FV 15):=Hd DF DT DW B 15 (by decide);refine D.F.ok scE (fun vs H Q E h=>?_) (fun cdv A outer s H vs Q E hr h=>?_)
 ·obtain ⟨p,l,q,d,z,rfl,_⟩:=h;rfl
 obtain ⟨p,l,q,d,z,rfl,tw,nm,z0,dn,d5,k⟩:=h;have r1:dE 1 _:=hr.mono (by omega);have r17:dE 17 _:=hr.mono (by omega);refine ⟨_,aH (cq (i:=4) scE.nd rfl (Or.inl rfl) (bq GT r1 (by rfl) DT.m DT.F.kp DT.b .nil bQ (bI (pv 0) (cS aq ak))))
  (aH (CB (cb qa (bR cU (pv 2) aq (fun _ _=>rfl)) aq) (CA (pv 2) aq yv))
  (aH (cq (i:=5) scE.nd rfl (Or.inl rfl) (bR cU (pv 1) (bq GT r1 (by rfl) DT.m DT.F.kp DT.b .nil bQ (bI (pv 0) (gT (cY (dN K (by rfl)) (by rfl) B.len bX (bI (pv 1) ak)) ak))) (fun _ _=>rfl)))
  (aH (df (aZ d8 (pv 4) aq (bD _)) (aI (bE (fz (cS aO ak)))) bO)
  (aH (df ((p9 (aZ d8 (pv 4) aq (bD _)) (oZ (aZ pw (pv 3) aq (bD _)))).pt) (aI (bE (fz (cS aO (bI (pv 5) (eK (bR cU (pv 1) (bq GT r1 (by rfl) DT.m DT.F.kp DT.b .nil bQ (bI (pv 0) (gT (cY (dN K (by rfl)) (by rfl) B.len bX (bI (pv 1) ak)) ak))) (fun _ _=>rfl)) (gT (bq GS hr (by rfl) DS.m DS.F.kp DS.b .nil bQ (bI (pv 0) (bI (pv 1) (bI (pv 2) (g9 (cb gx (pv 3) aq) ak))))) ak))))))) bO)
  (aH (cq (i:=6) scE.nd rfl (Or.inl rfl) (bq GF r17 (by rfl) DF.m DF.F.kp DF.b .nil bQ (bI (pv 0) (bI (pv 1) (eK (bR cU (cZ (cS aq (cS aq (cS aq (cS aq ak))))) (bq GT r1 (by rfl) DT.m DT.F.kp DT.b .nil bQ (bI (pv 0) (cS aq ak))) (fun _ _=>rfl)) ak)))))
  (aH (df ((p9 (aZ d8 (pv 4) aq (bD _)) (oZ (aZ pw (pv 3) aq (bD _)))).pt) (aH (cq (i:=7) scE.nd rfl (Or.inl rfl) (bq GS hr (by rfl) DS.m DS.F.kp DS.b .nil bQ (bI (pv 0) (bI (pv 1) (bI (pv 2) (g9 (cb gx (pv 3) aq) ak))))))
  (aI (bE (fz (cS aO (bI (pv 6) (bI (pv 7) (gT (bq GS hr (by rfl) DS.m DS.F.kp DS.b .nil bQ (bI (pv 0) (bI (pv 1) (bI (pv 2) (g9 (cb gx (pv 3) aq) ak))))) ak)))))))) bO)
  (aH (df (aZ tf (pv 4) aq (bD _)) (aH (cq (i:=8) scE.nd rfl (Or.inl rfl) (bq GT r1 (by rfl) DT.m DT.F.kp DT.b .nil bQ (bI (pv 0) (cS aq ak))))
  (aH (cq (i:=9) scE.nd rfl (Or.inl rfl) (bq GF r17 (by rfl) DF.m DF.F.kp DF.b .nil bQ (bI (pv 0) (bI (pv 1) (cS aq ak)))))
  (aI (bE (fz (cS aO (gT (bq GT r1 (by rfl) DT.m DT.F.kp DT.b .nil bQ (bI (pv 0) (cS aq ak))) (bI (pv 5) (bI (pv 6) (bI (pv 8) (bI (pv 9) (gT (bq GF r17 (by rfl) DF.m DF.F.kp DF.b .nil bQ (bI (pv 0) (bI (pv 1) (cS aq ak)))) ak)))))))))))) bO)
  (aI (bE (fz (eK (bR cU (cZ (cS aO (cS aO (cS aO ak)))) (pv 4) (fun _ _=>rfl)) (bI (pv 5) (bI (pv 6) ak))))))))))))),?_⟩
 have big:=dG;have fin:∀ {G:Hp} {xs:List V} {r:Rw} {z':Int},Bt2 p q H G->Two G p q z'->(r.1:Int) + z'<=z->0<=z'->(∀ G' t,Tk G G'->Nl H G G'->G' t=some (.tup xs)->DI G' (n + 1) (.ref t) r)->xs.length<=7->xs.length<=ax/\∀ t,G t=none->Q (.ref t) (upd G t (.tup xs)):=fun {G xs r z'} b tw1 hz hz0 hD hl=>⟨by omega,fun t ht=>by
  have sm:=aD ht (.tup xs);exact k (.ref t) r _ z' (fun G' tk nl=>hD G' t (fun a ys e=>tk _ _ (sm _ _ e)) (fun a ys ha e=>nl a ys ha (sm _ _ e)) (tk t xs ao)) (tw1.same sm) hz hz0 (b.same sm)⟩
 refine aB (bT ?_);refine ⟨_,rfl,p,8,rfl,tw.pu,by decide,by decide,fun so G1 so0 so1 pu1 b1=>?_⟩;refine aG ?_;dsimp only;have tw1:=tw.but b1 pu1;refine aB (bT ?_);refine ⟨_,rfl,q,_,_,_,rfl,rfl,SqL.of tw1.le,rfl,_,_,rfl,rfl,_,rfl,q,_,_,_,rfl,rfl,tw1.le,rfl,?_⟩;have tw2:Two (upd G1 q (.lst ([V.int z].set (Gf 0) (V.int (z - 1))))) p q (z - 1):=⟨by
  obtain ⟨x,y,e⟩:=tw1.pu;exact ⟨x,y,by rw [aX tw1.ne.symm]; exact e⟩,ao⟩
 have b2:Bt2 p q H (upd G1 q (.lst ([V.int z].set (Gf 0) (V.int (z - 1))))):=fun b o e np nq=>by
  rw [aX nq];exact b1 b o e np
 have nm2:=tw.nm nm b2;dsimp only;generalize upd G1 q (.lst ([V.int z].set (Gf 0) (V.int (z - 1))))=G2 at tw2 b2 nm2 |-;refine aB (bT ?_);refine pick_i (i:=0) (j:=1) rfl rfl tw2 nm2 (fun x G3 lx tw3 nm3 b3=>aG ?_);dsimp only;have b03:=b2.trans b3;refine aB ?_;refine ph (vd rfl) (fun _=>?_) (fun _=>?_)
 ·exact fin (r:=(1,fun b=>[b++"end"])) b03 tw3 (by show (1:Int) + (z - 1)<=z; omega) (by omega) (fun G' t _ _ e=>.inl ⟨_,.fin e,rfl⟩) (by show 1<=7; decide)
 refine aB ?_;refine ph (Det.and (vd rfl) fun _=>xP rfl) (fun c=>?_) (fun _=>?_)
 ·have d4:d < 5:=of_decide_eq_true (dA _ _ ▸ c).2;refine ⟨_,rfl,pick_i (i:=0) (j:=1) rfl rfl tw3 nm3 (fun y G4 ly tw4 nm4 b4=>?_)⟩;have b04:=b03.trans b4;refine ⟨_,rfl,_,rfl,_,rfl,_,rfl,_,_,rfl,rfl,p,l,q,d + 1,z - 1,rfl,tw4,nm4,by omega,by omega,by omega,fun m vs rs G5 z5 hm hm5 ow tw5 hz hz0 b5=>?_⟩;refine fin (r:=(1 + rowsC rs,fun b=>(b++bB " " ["pull",x,y]) :: rowsL rs (b++"  "))) (b04.trans b5) tw5 (by show ((1 + rowsC rs:Nat):Int) + z5<=z; omega) hz0 (fun G' t tk nl e=>.inr (.inl ⟨t,m,x,y,vs,rs,by omega,rfl,e,lx,ly,?_,?_,rfl⟩)) (by show 4<=7; decide)
  ·exact nl m vs (Two.dm b04 tw4 hm) hm5
  ·exact ow G' tk (nl.pull b04 tw4)
 refine c7 ?_;dsimp only;refine aB (bT ?_);refine ⟨_,rfl,_,rfl,⟨by show 4<=ax; omega,fun l4 hl4=>?_⟩⟩;have s4:=aD hl4 (.lst [V.int 15,V.int 5,V.int 3,V.int 1]);have tw4:=tw3.same s4;refine ⟨_,rfl,p,4,rfl,tw4.pu,by decide,by decide,fun r5 G5 r50 r51 pu5 b5=>?_⟩;obtain ⟨mo,hmo,mo1,mo2⟩:∃ mo:Nat,atI [V.int 15,V.int 5,V.int 3,V.int 1] r5=some (.int mo)/\0 < mo/\mo<=15:=by
  have:r5=0\/r5=1\/r5=2\/r5=3:=by omega
  rcases this with rfl | rfl | rfl | rfl
  ·exact ⟨15,rfl,by decide,by decide⟩
  ·exact ⟨5,rfl,by decide,by decide⟩
  ·exact ⟨3,rfl,by decide,by decide⟩
  ·exact ⟨1,rfl,by decide,by decide⟩
 have tw5:=tw4.but b5 pu5;have b05:Bt2 p q H G5:=(b03.same s4).trans (.of b5);refine ⟨l4,_,_,_,rfl,rfl,SqL.of (b5 _ _ ao (om tw3.pu hl4)),hmo,p,l,mo,rfl,tw5.pu,tw.nm nm b05,mo1,mo2,fun v1 s1 G6 F1 pu6 b6=>aG ?_⟩;dsimp only;have F1:=F1.le mo2;have tw6:=tw5.but b6 pu6;have b06:=b05.trans (.of b6);have nm6:=tw.nm nm b06;refine aB ?_;refine ph (Det.and (vd rfl) fun _=>xP rfl) (fun c=>?_) (fun _=>?_)
 ·have d4:d < 5:=of_decide_eq_true (dA _ _ ▸ c).2;refine aB (bT ?_);refine ⟨_,rfl,_,rfl,_,rfl,_,rfl,_,_,rfl,rfl,p,l,q,d + 1,z - 1,rfl,tw6,nm6,by omega,by omega,by omega,fun m7 vs7 rs7 G7 z7 hm7 hm77 ow7 tw7 hz7 hz70 b7=>aG ?_⟩;dsimp only;have b07:=b06.trans b7;refine ⟨_,rfl,_,rfl,_,rfl,_,rfl,_,rfl,_,rfl,_,_,rfl,rfl,p,l,q,d + 1,z7,rfl,tw7,tw.nm nm b07,hz70,by omega,by omega,fun m8 vs8 rs8 G8 z8 hm8 hm88 ow8 tw8 hz8 hz80 b8=>?_⟩;have b08:=b07.trans b8;refine fin (r:=(1 + rowsC rs7 + rowsC rs8,fun b=>(b++("if "++s1)) :: (rowsL rs7 (b++"  ")++(b++"else") :: rowsL rs8 (b++"  ")))) b08 tw8 (by show ((1 + rowsC rs7 + rowsC rs8:Nat):Int) + z8<=z; omega) hz80 (fun G' t tk nl e=>.inr (.inr ⟨t,m7,m8,v1,s1,vs7,vs8,rs7,rs8,by omega,rfl,e,?_,?_,?_,?_,?_,rfl⟩)) (by show 4<=7; decide)
  ·exact F1.up (((tw6.tk b7).trans (tw7.tk b8)).trans tk)
  ·exact nl m7 vs7 (Two.dm b06 tw6 hm7) (b8 _ _ hm77 (tw6.nn hm7).1 (tw6.nn hm7).2)
  ·exact nl m8 vs8 (Two.dm b07 tw7 hm8) hm88
  ·exact ow7 G' ((tw7.tk b8).trans tk) ((nl.pull b06 tw6).back tw6 b8)
  ·exact ow8 G' tk (nl.pull b07 tw7)
 refine aB ?_;refine ph (IX rfl) (fun _=>?_) (fun c=>?_)
 ·refine aB (bT ?_);refine ⟨_,rfl,p,10,rfl,tw6.pu,by decide,by decide,fun rk G7 rk0 rk1 pu7 b7=>aG ?_⟩;dsimp only;have tw7:=tw6.but b7 pu7;have b07:=b06.trans (.of b7);refine aB (bT ?_);refine ⟨_,rfl,_,rfl,p,l,3,rfl,tw7.pu,tw.nm nm b07,by decide,by decide,fun v2 s2 G8 F2 pu8 b8=>aG ?_⟩;dsimp only;have tw8:=tw7.but b8 pu8;have b08:=b07.trans (.of b8);refine ⟨_,rfl,p,6,rfl,tw8.pu,by decide,by decide,fun to G9 to0 to1 pu9 b9=>?_⟩;have tw9:=tw8.but b9 pu9;have b09:=b08.trans (.of b9);refine ⟨_,rfl,_,rfl,_,rfl,_,rfl,_,rfl,_,rfl,p,l,3,rfl,tw9.pu,tw.nm nm b09,by decide,by decide,fun v3 s3 G10 F3 pu10 b10=>?_⟩;have tw10:=tw9.but b10 pu10;refine fin (r:=(1,fun b=>[b++bB " " ["send",ba (toString to),x,ba (toString rk),s1,s2,s3]])) (b09.trans (.of b10)) tw10 (by show (1:Int) + (z - 1)<=z; omega) (by omega) (fun G' t tk nl e=>.inl ⟨_,.send e ⟨to0,by omega⟩ ⟨rk0,by omega⟩ lx (F1.up ?_) ((F2.le (by decide)).up ?_) ((F3.le (by decide)).up tk),rfl⟩) (by show 7<=7; decide)
  ·exact Tk.trans (Tk.trans (Tk.trans (Tk.trans (mJ tw6.pu b7) (mJ tw7.pu b8)) (mJ tw8.pu b9)) (mJ tw9.pu b10)) tk
  ·exact Tk.trans (Tk.trans (mJ tw8.pu b9) (mJ tw9.pu b10)) tk
 have so2:so<=2:=by
  have:=of_decide_eq_false c;omega
 refine c7 ?_;dsimp only;refine ⟨by show 3<=ax; omega,fun l7 hl7=>?_⟩;have s7:=aD hl7 (.lst [V.str "put",V.str "push",V.str "draw"]);obtain ⟨kk,hkk,kk3⟩:∃ kk:Str,atI [V.str "put",V.str "push",V.str "draw"] so=some (.str kk)/\(kk="put"\/kk="push"\/kk="draw"):=by
  have:so=0\/so=1\/so=2:=by omega
  rcases this with rfl | rfl | rfl
  ·exact ⟨_,rfl,.inl rfl⟩
  ·exact ⟨_,rfl,.inr (.inl rfl)⟩
  ·exact ⟨_,rfl,.inr (.inr rfl)⟩
 refine ⟨_,rfl,l7,_,_,_,rfl,rfl,SqL.of ao,hkk,_,rfl,_,rfl,?_⟩;exact fin (r:=(1,fun b=>[b++bB " " [kk,x,s1]])) (b06.same s7) (tw6.same s7) (by show (1:Int) + (z - 1)<=z; omega) (by omega) (fun G' t tk nl e=>.inl ⟨_,.three e kk3 lx (F1.up fun a ys e=>tk _ _ (s7 _ _ e)),rfl⟩) (by show 3<=7; decide)
theorem sA {n:Nat} (D:Df K mg "_law_deeds" jK pS f fd) (DT:Df K mg "_law_take" fC pT fT fdT) (DE:Df K mg "_law_deed" mH pE fE fdE) (B:Bl mg) (GE:cQ P w K mg base CX0 (2 * n + 18) fE fdE pE (spDe n)):cQ P w K mg base CX0 (2 * n + 19) f fd pS (vo n):=by
 have GT:cQ P w K mg base CX0 1 fT fdT pT oo:=nO DT B;refine D.F.ok scS (fun vs H Q E h=>?_) (fun cdv A outer s H vs Q E hr h=>?_)
 ·obtain ⟨p,l,q,d,z,rfl,_⟩:=h;rfl
 obtain ⟨p,l,q,d,z,rfl,tw,nm,z0,dn,d5,k⟩:=h;have r1:dE 1 _:=hr.mono (by omega);refine ⟨_,aH (cq (i:=4) scS.nd rfl (Or.inl rfl) (cZ ak))
  (aH (jt cN rfl (lV (by rfl) B.range (eK (bR cU (cZ (cS aq (cS aq (cS aq (cS aq (cS aq ak)))))) (bq GT r1 (by rfl) DT.m DT.F.kp DT.b .nil bQ (bI (pv 0) (cS aq ak))) (fun _ _=>rfl)) ak)) (cT (i:=5) scS.nd rfl (Or.inl rfl)) (aI (df (aZ tf (bR cU (pv 2) aq (fun _ _=>rfl)) aq (bD _)) (aI (dI (d9 aP bh bj dR (pv 4) (gT (bq GE hr (by rfl) DE.m DE.F.kp DE.b .nil bQ (bI (pv 0) (bI (pv 1) (bI (pv 2) (bI (pv 3) ak))))) ak)))) bO)))
  (aI (bE (pv 4)))),?_⟩
 have big:=dG;refine aB (bT ?_);refine ⟨aR _,fun m hm=>aG ?_⟩;dsimp only;have sm:=aD hm (.lst []);have tw1:=tw.same sm;have hm1:upd H m (.lst []) m=some (.lst []):=ao;have dm1:∀ a,upd H m (.lst []) a=none->H a=none:=fun a e=>by
  cases h:H a with
  | none=>rfl
  | some o=>rw [sm _ _ h] at e; cases e
 have hH1:∀ a o,upd H m (.lst []) a=some o->a≠m->H a=some o:=fun a o e n=>by
  rw [aX n] at e;exact e
 generalize upd H m (.lst [])=H1 at sm tw1 hm1 dm1 hH1 |-;refine aB ?_;refine ⟨by show 5<=ax; omega,fun l2 hl2=>?_⟩;have s2:=aD hl2 (.lst [V.int 1,V.int 2,V.int 0,V.int 3,V.int 6]);refine ⟨_,rfl,p,5,rfl,(tw1.same s2).pu,by decide,by decide,fun r3 G3 r30 r31 pu3 b3=>?_⟩;obtain ⟨c,hc,c6⟩:∃ c:Nat,atI [V.int 1,V.int 2,V.int 0,V.int 3,V.int 6] r3=some (.int c)/\c<=6:=by
  have:r3=0\/r3=1\/r3=2\/r3=3\/r3=4:=by omega
  rcases this with rfl | rfl | rfl | rfl | rfl
  ·exact ⟨1,rfl,by decide⟩
  ·exact ⟨2,rfl,by decide⟩
  ·exact ⟨0,rfl,by decide⟩
  ·exact ⟨3,rfl,by decide⟩
  ·exact ⟨6,rfl,by decide⟩
 have tw3:=(tw1.same s2).but b3 pu3;have b13:Bt2 p q H1 G3:=fun b o e np nq=>b3 _ _ (s2 _ _ e) np;have nmp:=tw.nn hm;refine ⟨l2,_,_,_,rfl,rfl,SqL.of (b3 _ _ ao (om tw1.pu hl2)),hc,c,rfl,by omega,by omega,?_⟩;rw [eI];refine qz (n:=c) (fun i σ G=>∃ (vs:List V) (rs:List Rw) (z':Int) (v5:Option V),σ=[some (.ref p),some (.ref l),some (.ref q),some (.int d),some (.ref m),v5]/\vs.length<=i/\G m=some (.lst vs)/\OwS H1 G n vs rs/\Two G p q z'/\(rowsC rs:Int) + z'<=z/\0<=z'/\Bt2 p q H G)
  ⟨[],[],z,none,rfl,aF _,b13 _ _ hm1 nmp.1 nmp.2,fun G' _ _=>.nil,tw3,by show (0:Int) + z<=z; omega,z0,fun b o e np nq=>b13 _ _ (sm _ _ e) np nq⟩ ?_ ?_
 ·rintro i σ G hi ⟨vs,rs,z',v5,rfl,hlen,hG,ow,twG,hz,hz0,bG⟩;refine ⟨_,rfl,q,_,_,_,rfl,rfl,SqL.of twG.le,rfl,_,_,rfl,rfl,_,rfl,?_⟩;refine Iz (fun cz=>?_) (fun _=>?_)
  ·have cz:=GV cz;refine ⟨_,rfl,.inl ⟨rfl,_,SqL.of hG⟩,_,rfl,_,rfl,_,rfl,_,rfl,p,l,q,d,z',rfl,twG,tw.nm nm bG,cz,dn,d5,fun v r G1 z1 ow1 tw1' hz1 hz10 b1=>?_⟩;have hG1:=b1 _ _ hG nmp.1 nmp.2;refine ⟨m,vs,v,rfl,rfl,hG1,by omega,?_⟩;have tk2:Tk G1 (upd G1 m (.lst (vs++[v]))):=fun t xs e=>by
    rw [aX (Cw e hG1 (fun w=>by cases w))];exact e
   have dmG:∀ a,G a=none->H1 a=none:=fun a e=>by
    cases h:H1 a with
    | none=>rfl
    | some o =>
     by_cases ca:a=m
     ·rw [ca,hG] at e
      cases e
     ·have e1:=hH1 a o h ca;rw [Two.dm bG twG e] at e1
      cases e1
   refine ⟨vs++[v],rs++[r],z1,_,rfl,by rw [ae]; show _ + 1<=_; omega,ao,fun G' tk nl=>?_,⟨sV tw1'.pu nmp.1,by rw [aX nmp.2.symm]; exact tw1'.le⟩,?_,hz10,fun b o e np nq=>?_⟩
   ·refine psnoc (ow G' ((twG.tk b1).trans (tk2.trans tk)) fun a xs ha e=>?_) (ow1 G' (tk2.trans tk) fun a xs ha e=>?_)
    ·refine nl a xs ha ?_;rw [aX (bw hm1 ha).symm];exact b1 _ _ e (tw1.nn ha).1 (tw1.nn ha).2
    ·refine nl a xs (dmG a ha) ?_;rw [aX (bw hG ha).symm];exact e
   ·have:rowsC (rs++[r])=rowsC rs + r.1:=by
     unfold rowsC;rw [bA,qx];show _ + (r.1 + 0)=_;omega
    rw [this];omega
   ·rw [aX (bw e hm)];exact b1 _ _ (bG _ _ e np nq) np nq
  ·exact ⟨vs,rs,z',_,rfl,by omega,hG,ow,twG,hz,hz0,bG⟩
 ·rintro σ G ⟨vs,rs,z',v5,rfl,hlen,hG,ow,twG,hz,hz0,bG⟩;refine ⟨_,rfl,?_⟩;exact k m vs rs G z' hm hG (fun G' tk nl=>ow G' tk fun a xs ha e=>nl a xs (dm1 a ha) e) twG hz hz0 bG
theorem ok_dsde (DE:Df K mg "_law_deed" mH pE fE fdE) (DS:Df K mg "_law_deeds" jK pS fS fdS) (DT:Df K mg "_law_take" fC pT fT fdT) (DW:Df K mg "_law_worth" ia pW fW fdW) (DF:Df K mg "_law_formula" iC pFo fF fdF) (B:Bl mg):∀ n:Nat,cQ P w K mg base CX0 (2 * n + 18) fE fdE pE (spDe n)/\cQ P w K mg base CX0 (2 * n + 19) fS fdS pS (vo n)
 | 0=>by
  have z:cQ P w K mg base CX0 18 fE fdE pE (spDe 0):=⟨fun vs H Q E h=>(by obtain ⟨p,l,q,d,z,rfl,_,_,_,h1,h2,_⟩:=h; omega),fun A outer s H args us vs Q E a b c d h=>(by obtain ⟨p,l,q,d,z,rfl,_,_,_,h1,h2,_⟩:=h; omega)⟩;exact ⟨z,sA (n:=0) DS DT DE B z⟩
 | n + 1=>by
  have e:=de_step (n:=n) DE DT DW DF DS B (ok_dsde DE DS DT DW DF B n).2;exact ⟨e,sA (n:=n + 1) DS DT DE B e⟩
end
def WD (H:Hp) (v:V) (s:Str):Prop:=LfD H v s\/(∃ t x y o,v=.ref t/\H t=some (.tup [.str "pull",.str x,.str y,o])/\Nam x/\Nam y/\s=bB " " ["pull",x,y]) \/
 ∃ t f w o1 o2,v=.ref t/\H t=some (.tup [.str "if",f,o1,o2])/\FI H 15 f w/\s="if "++w
theorem jsz_cons (z x:Str) (ys:List Str):jsz z (x :: ys)=x.length + z.length + jsz z ys:=by
 unfold jsz;rw [bu,fX,aE,ky];omega
theorem sp1:(" ":Str).length=1:=by decide
theorem join_le {ys:List Str} {k:Nat} (h:jsz " " ys<=k):(bB " " ys).length<=k:=bC (iX _ _) h
theorem send_jsz {z y:Int} {x s1 s2 s3:Str} (hz:Wo z) (hy:Wo y) (lx:x.length<=6) (l1:s1.length < 18 * 15) (l2:s2.length < 18 * 15) (l3:s3.length < 18 * 15):jsz " " ["send",ba (toString z),x,ba (toString y),s1,s2,s3]<=1000:=by
 have:=gu hz;have:=gu hy;have e:("send":Str).length=4:=by decide
 have e0:jsz " " []=0:=rfl;simp only [jsz_cons,sp1,e,e0];omega
theorem WD.len {H:Hp} {v:V} {s:Str} (h:WD H v s):s.length<=1000:=by
 have e0:jsz " " []=0:=rfl
 rcases h with h | ⟨t,x,y,o,rfl,_,l1,l2,rfl⟩ | ⟨t,f,w,o1,o2,rfl,_,hf,rfl⟩
 ·cases h with
  | fin =>
   have:("end":Str).length=3:=by decide
   omega
  | @three t k x v s _ hk lx hf =>
   have lx:=lx.2.1;have:=hf.len;have hk:k.length<=4:=by rcases hk with rfl | rfl | rfl <;> decide
   refine join_le ?_;simp only [jsz_cons,sp1,e0];omega
  | send _ hz hy lx f1 f2 f3=>exact join_le (send_jsz (iy ⟨hz.1,by omega⟩) (iy hy) lx.2.1 f1.len f2.len f3.len)
 ·have l1:=l1.2.1;have l2:=l2.2.1;refine join_le ?_;have:("pull":Str).length=4:=by decide
  simp only [jsz_cons,sp1,e0];omega
 ·have:=hf.len;have e:("if ":Str).length=3:=by decide
  rw [aL];omega
theorem comp_tupC {K:ai} {n:Nat} {ti:TE} {g:TG} {tc:L2.TT} {te:TE} {σ:St} {H:Hp} {Q:VK} {xs:List V} (PP:aj->Hp->Prop) (hi:∀ R:VK,(∀ a H1,PP a H1->R (.ref a) H1)->ti σ H R) (hx:∀ a H1,PP a H1->SqT K H1 a xs) (Pv:aj->Hp->Nat->List V->Hp->Prop) (h0:∀ a H1,PP a H1->Pv a H1 0 [] H1)
  (hl:∀ a H1,PP a H1->∀ i ys G,i<=xs.length->Pv a H1 i ys G->SqT K G a xs/\ys.length < ax)
  (hs:∀ a H1,PP a H1->∀ i x ys G,xs[i]?=some x->Pv a H1 i ys G->g x (aJ n none++σ) G fun σ2 H2=>σ2.drop n=σ/\tc σ2 H2 fun b H3=>if b=true then te σ2 H3 fun y H4=>Pv a H1 (i + 1) (ys++[y]) H4 else Pv a H1 (i + 1) ys H3)
  (hd:∀ a H1,PP a H1->∀ ys G,Pv a H1 xs.length ys G->∀ p,G p=none->Q (.ref p) (upd G p (.lst ys))):nG n (iTup K ti) g tc te σ H Q:=
 hi _ fun a H1 p=>⟨a,rfl,⟨xs,hx a H1 p⟩,Di (Pv a H1) (h0 a H1 p) (hl a H1 p) (hs a H1 p) (hd a H1 p)⟩
theorem pj {K:ai} {n:Nat} {ti:TE} {g:TG} {tc:L2.TT} {te:TE} {σ:St} {H:Hp} {Q:VK} {xs:List V} (PP:aj->Hp->Prop) (hi:∀ R:VK,(∀ a H1,PP a H1->R (.ref a) H1)->ti σ H R) (hx:∀ a H1,PP a H1->SqL K H1 a xs) (Pv:aj->Hp->Nat->List V->Hp->Prop) (h0:∀ a H1,PP a H1->Pv a H1 0 [] H1)
  (hl:∀ a H1,PP a H1->∀ i ys G,i<=xs.length->Pv a H1 i ys G->SqL K G a xs/\ys.length < ax)
  (hs:∀ a H1,PP a H1->∀ i x ys G,xs[i]?=some x->Pv a H1 i ys G->g x (aJ n none++σ) G fun σ2 H2=>σ2.drop n=σ/\tc σ2 H2 fun b H3=>if b=true then te σ2 H3 fun y H4=>Pv a H1 (i + 1) (ys++[y]) H4 else Pv a H1 (i + 1) ys H3)
  (hd:∀ a H1,PP a H1->∀ ys G,Pv a H1 xs.length ys G->∀ p,G p=none->Q (.ref p) (upd G p (.lst ys))):nG n (vS K ti) g tc te σ H Q:=
 hi _ fun a H1 p=>⟨a,rfl,⟨xs,hx a H1 p⟩,qC (Pv a H1) (h0 a H1 p) (hl a H1 p) (hs a H1 p) (hd a H1 p)⟩
theorem rowsL_snoc (rs:List Rw) (r:Rw) (b:Str):rowsL (rs++[r]) b=rowsL rs b++r.2 b:=by
 unfold rowsL;rw [rJ];simp
theorem rowsC_snoc (rs:List Rw) (r:Rw):rowsC (rs++[r])=rowsC rs + r.1:=by
 unfold rowsC;rw [bA,qx];show _ + (r.1 + 0)=_;omega
theorem rows_len {rs:List Rw} (b:Str) (h:∀ r∈rs,(r.2 b).length<=2 * r.1):(rowsL rs b).length<=2 * rowsC rs:=by
 unfold rowsL rowsC
 induction rs with
 | nil=>exact aF _
 | cons r rs ih =>
  have h1:=h r (aw ..);have h2:=ih fun x hx=>h x (ar _ hx);rw [i4,ae,bu,fX];omega
theorem paired_mem {α β:Type} {R:α->β->Prop} {rs:List α} {vs:List β} (h:cK R rs vs):∀ r∈rs,∃ v,R r v:=by
 induction h with
 | nil=>intro r hr; cases hr
 | cons a _ ih =>
  intro r hr
  rcases au.mp hr with e | e
  ·exact ⟨_,e ▸ a⟩
  ·exact ih r e
theorem two2:("  ":Str).length=2:=by decide
theorem DI.lines {H:Hp}:∀ {n:Nat} {v:V} {r:Rw},DI H n v r->∀ b:Str,(r.2 b).length<=2 * r.1/\∀ x∈r.2 b,x.length<=b.length + 2 * n + 1000
 | n + 1,v,r,h=>by
  have els:("else":Str).length=4:=by decide
  have sub:∀ (rs:List Rw) (vs:List V) (b:Str),cK (fun r v=>DI H n v r) rs vs->(rowsL rs b).length<=2 * rowsC rs/\∀ x∈rowsL rs b,x.length<=b.length + 2 * n + 1000:=fun rs vs b h=>by
   refine ⟨rows_len b fun r hr=>?_,fun x hx=>?_⟩
   ·obtain ⟨v,hv⟩:=paired_mem h r hr;exact (DI.lines hv b).1
   ·obtain ⟨r,hr,hx⟩:=pB.mp hx;obtain ⟨v,hv⟩:=paired_mem h r hr;exact (DI.lines hv b).2 x hx
  intro b
  rcases h with ⟨s,hs,rfl⟩ | ⟨t,l,x,y,vs,rs,_,rfl,a,lx,ly,hl,hp,rfl⟩ | ⟨t,l1,l2,f,s,vs1,vs2,rs1,rs2,_,rfl,a,hf,h1,h2,p1,p2,rfl⟩
  ·have:=WD.len (.inl hs);refine ⟨by show 1<=2; decide,fun x hx=>?_⟩;rw [az.mp hx,aL];omega
  ·have hw:=WD.len (H:=H) (v:=.ref t) (.inr (.inl ⟨t,x,y,_,rfl,a,lx,ly,rfl⟩));obtain ⟨c1,c2⟩:=sub rs vs (b++"  ") hp;refine ⟨by show (rowsL rs _).length + 1<=2 * (1 + rowsC rs); omega,fun z hz=>?_⟩
   rcases au.mp hz with rfl | hz
   ·rw [aL];omega
   ·have:=c2 z hz;rw [aL,two2] at this;omega
  ·have hw:=WD.len (H:=H) (v:=.ref t) (.inr (.inr ⟨t,f,s,_,_,rfl,a,hf,rfl⟩));obtain ⟨c1,c2⟩:=sub rs1 vs1 (b++"  ") p1;obtain ⟨d1,d2⟩:=sub rs2 vs2 (b++"  ") p2;refine ⟨?_,fun z hz=>?_⟩
   ·show (rowsL rs1 _++(b++"else") :: rowsL rs2 _).length + 1<=2 * (1 + rowsC rs1 + rowsC rs2);rw [ae,aE];omega
   ·rcases au.mp hz with rfl | hz
    ·rw [aL];omega
    rcases aU.mp hz with hz | hz
    ·have:=c2 z hz;rw [aL,two2] at this;omega
    rcases au.mp hz with rfl | hz
    ·rw [aL,els];omega
    ·have:=d2 z hz;rw [aL,two2] at this;omega
theorem rows_ok {H:Hp} {n:Nat} {rs:List Rw} {vs:List V} (h:cK (fun r v=>DI H n v r) rs vs) (b:Str):(rowsL rs b).length<=2 * rowsC rs/\∀ x∈rowsL rs b,x.length<=b.length + 2 * n + 1000:=by
 refine ⟨rows_len b fun r hr=>?_,fun x hx=>?_⟩
 ·obtain ⟨v,hv⟩:=paired_mem h r hr;exact (DI.lines hv b).1
 ·obtain ⟨r,hr,hx⟩:=pB.mp hx;obtain ⟨v,hv⟩:=paired_mem h r hr;exact (DI.lines hv b).2 x hx
theorem DI.tk {H H':Hp} (s:cB H H'):∀ {n:Nat} {v:V} {r:Rw},DI H n v r->DI H' n v r
 | n + 1,v,r,h=>by
  have sub:∀ (rs:List Rw) (vs:List V),cK (fun r v=>DI H n v r) rs vs->cK (fun r v=>DI H' n v r) rs vs:=fun rs vs h=>by
   induction h with
   | nil=>exact .nil
   | cons a _ ih=>exact .cons (DI.tk s a) ih
  rcases h with ⟨z,hz,rfl⟩ | ⟨t,l,x,y,vs,rs,n0,rfl,a,lx,ly,hl,hp,rfl⟩ | ⟨t,l1,l2,f,z,vs1,vs2,rs1,rs2,n0,rfl,a,hf,h1,h2,p1,p2,rfl⟩
  ·exact .inl ⟨z,hz.up fun _ _ e=>s _ _ e,rfl⟩
  ·exact .inr (.inl ⟨t,l,x,y,vs,rs,n0,rfl,s _ _ a,lx,ly,s _ _ hl,sub _ _ hp,rfl⟩)
  ·exact .inr (.inr ⟨t,l1,l2,f,z,vs1,vs2,rs1,rs2,n0,rfl,s _ _ a,hf.same s,s _ _ h1,s _ _ h2,sub _ _ p1,sub _ _ p2,rfl⟩)
theorem rows_same {H H':Hp} (s:cB H H') {n:Nat} {rs:List Rw} {vs:List V} (h:cK (fun r v=>DI H n v r) rs vs):cK (fun r v=>DI H' n v r) rs vs:=by
 induction h with
 | nil=>exact .nil
 | cons a _ ih=>exact .cons (a.tk s) ih
theorem LfD.kind {H:Hp} {v:V} {s:Str} (h:LfD H v s):∃ t k xs,v=.ref t/\H t=some (.tup (.str k :: xs))/\¬ k="pull"/\¬ k="if":=by
 cases h with
 | fin a=>exact ⟨_,_,_,rfl,a,by decide +kernel,by decide +kernel⟩
 | @three t k x v s a hk _ _ =>
  refine ⟨_,k,_,rfl,a,?_,?_⟩
  ·rcases hk with rfl | rfl | rfl <;> decide +kernel
  ·rcases hk with rfl | rfl | rfl <;> decide +kernel
 | send a=>exact ⟨_,_,_,rfl,a,by decide +kernel,by decide +kernel⟩
inductive spDlI (n:Nat) (vs:List V) (H:Hp) (Q:VK) (_e:XK):Prop where
 | mk (l:aj) (b:Str) (us:List V) (rs:List Rw) (_:vs=[.ref l,.str b]) (_:0 < n) (_:H l=some (.lst us)) (_:cK (fun r v=>DI H n v r) rs us) (_:b.length + 2 * n<=100) (_:rowsC rs<=100) (_:∀ (m:aj) (H':Hp),H m=none->H' m=some (.lst ((rowsL rs b).map V.str))->cB H H'->Q (.ref m) H'):spDlI n vs H Q _e
def spDl (n:Nat):Sp:=fun vs H Q _e=>spDlI n vs H Q _e
theorem fG {α β:Type} {R:α->β->Prop} {rs:List α} {vs:List β} (h:cK R rs vs):∀ {i:Nat} {v:β},vs[i]?=some v->∃ r,rs[i]?=some r/\R r v:=by
 induction h with
 | nil=>intro i v e; simp at e
 | cons a _ ih =>
  intro i v e
  cases i with
  | zero=>simp at e; subst e; exact ⟨_,rfl,a⟩
  | succ i =>
   rw [zk] at e;obtain ⟨r,h1,h2⟩:=ih e;exact ⟨r,by rw [zk]; exact h1,h2⟩
theorem paired_len {α β:Type} {R:α->β->Prop} {rs:List α} {vs:List β} (h:cK R rs vs):rs.length=vs.length:=by
 induction h with
 | nil=>rfl
 | cons _ _ ih=>rw [aE,aE,ih]
theorem rows_take (rs:List Rw) (i:Nat):rowsC (rs.take i)<=rowsC rs:=by
 have e:rowsC rs=rowsC (rs.take i) + rowsC (rs.drop i):=by
  conv=>lhs; rw [<- iO i rs]
  unfold rowsC;rw [bA,qx]
 omega
theorem rows_at {rs:List Rw} {i:Nat} {r:Rw} (h:rs[i]?=some r):rs.take (i + 1)=rs.take i++[r]:=by
 rw [cX,h];rfl
theorem rows_le {rs:List Rw} {i:Nat} {r:Rw} (h:rs[i]?=some r):r.1<=rowsC rs:=by
 have h1:=rows_take rs (i + 1);rw [rows_at h,rowsC_snoc] at h1;omega
theorem take_len {H:Hp} {n:Nat} {rs:List Rw} {vs:List V} (h:cK (fun r v=>DI H n v r) rs vs) (b:Str) (i:Nat):(rowsL (rs.take i) b).length<=2 * rowsC rs:=by
 have h1:=rows_take rs i;have h2:=rows_len (rs:=rs.take i) b fun r hr=>by
  obtain ⟨v,hv⟩:=paired_mem h r (dC hr);exact (DI.lines hv b).1
 omega
theorem fv {H G:Hp} {m:aj} {o:HO} (s:cB H G) (h:H m=none):cB H (upd G m o):=fun a o e=>by
 rw [aX (bw e h)];exact s _ _ e
structure Mc where
 nm:Str
 bx:List (Str×Int)
 qs:List Str
 dr:List Int
 hr:List (Str×List Rw)
abbrev shw (z:Int):Str:=ba (toString z)
def boxL (q:Str×Int):Str:="  box "++q.1++" "++shw q.2
def queL (x:Str):Str:="  queue "++x
def drawL (ns:List Int):List Str:=if ns.isEmpty then [] else ["  draws "++bB " " (ns.map shw)]
def hearL (h:Str×List Rw):List Str:=("  on "++h.1) :: rowsL h.2 "    "
def Mc.lines (M:Mc):List Str:=["machine "++M.nm]++M.bx.map boxL++M.qs.map queL++drawL M.dr++M.hr.flatMap hearL
structure McX (M:Mc):Prop where
 nm:Nam M.nm
 b6:M.bx.length<=6
 q3:M.qs.length<=3
 h4:M.hr.length<=4
 bx:∀ b∈M.bx,Nam b.1
 qs:∀ q∈M.qs,Nam q
 dr:∀ z∈M.dr,0<=z
 hr:∀ h∈M.hr,Nam h.1
 nd:(M.bx.map (·.1)++M.qs).Nodup
 ndh:(M.hr.map (·.1)).Nodup
structure McOk (M:Mc):Prop where
 more:McX M
 nm:M.nm.length<=6
 lb:M.bx.length<=9
 bx:∀ q∈M.bx,q.1.length<=6/\Wo q.2
 lq:M.qs.length<=9
 qs:∀ x∈M.qs,x.length<=6
 ld:M.dr.length<=20
 dr:∀ z∈M.dr,Wo z
 lh:M.hr.length<=9
 hr:∀ h∈M.hr,h.1.length<=6/\rowsC h.2<=20
def BxI (H:Hp) (q:Str×Int) (v:V):Prop:=∃ t,v=.ref t/\H t=some (.tup [.str q.1,.int q.2])
def HrI (H:Hp) (h:Str×List Rw) (v:V):Prop:=∃ t l us,v=.ref t/\H t=some (.tup [.str h.1,.ref l])/\H l=some (.lst us)/\cK (fun r v=>DI H 5 v r) h.2 us
def MI (H:Hp) (M:Mc) (v:V):Prop:=∃ t lb lq ld lh bs hs,v=.ref t/\H t=some (.tup [.str M.nm,.ref lb,.ref lq,.ref ld,.ref lh])/\H lb=some (.lst bs)/\cK (BxI H) M.bx bs/\H lq=some (.lst (M.qs.map V.str))/\H ld=some (.lst (M.dr.map V.int))/\H lh=some (.lst hs)/\cK (HrI H) M.hr hs
theorem paired_imp {α β:Type} {R S:α->β->Prop} {rs:List α} {vs:List β} (h:cK R rs vs) (f:∀ a b,R a b->S a b):cK S rs vs:=by
 induction h with
 | nil=>exact .nil
 | cons a _ ih=>exact .cons (f _ _ a) ih
theorem BxI.same {H H':Hp} (s:cB H H') {q:Str×Int} {v:V} (h:BxI H q v):BxI H' q v:=by
 obtain ⟨t,e,h⟩:=h;exact ⟨t,e,s _ _ h⟩
theorem HrI.same {H H':Hp} (s:cB H H') {q:Str×List Rw} {v:V} (h:HrI H q v):HrI H' q v:=by
 obtain ⟨t,l,us,e,h1,h2,h3⟩:=h;exact ⟨t,l,us,e,s _ _ h1,s _ _ h2,rows_same s h3⟩
theorem MI.same {H H':Hp} (s:cB H H') {M:Mc} {v:V} (h:MI H M v):MI H' M v:=by
 obtain ⟨t,lb,lq,ld,lh,bs,hs,e,a,h1,h2,h3,h4,h5,h6⟩:=h;exact ⟨t,lb,lq,ld,lh,bs,hs,e,s _ _ a,s _ _ h1,paired_imp h2 fun _ _=>BxI.same s,s _ _ h3,s _ _ h4,s _ _ h5,paired_imp h6 fun _ _=>HrI.same s⟩
theorem flat_le {α:Type} {f:α->List Str} {k:Nat}:∀ {xs:List α},(∀ x∈xs,(f x).length<=k)->(xs.flatMap f).length<=xs.length * k
 | [],_=>aR _
 | x :: xs,h=>by
  have h1:=h x (aw ..);have h2:=flat_le (xs:=xs) fun y hy=>h y (ar _ hy);rw [i4,ae,aE,ky];omega
theorem empty_app (x:Str):uA++x=x:=by
 show (⟨#[]++x.cps⟩:Str)=x;rw [Array.empty_append]
theorem ifS_join {t:L2.TT} {a b:TS} {D:Ends} {σ:St} {H:Hp} (R:Hp->Prop) (k:∀ H',R H'->D.nx σ H') (h:(∀ H',R H'->D.nx σ H')->vA t a b D σ H):vA t a b D σ H:=h k
theorem join_ints {ns:List Int} (l:ns.length<=20) (h:∀ z∈ns,Wo z):jsz " " (ns.map shw)<=360:=by
 have:=sW (z:=" ") (k:=17) (ys:=ns.map shw) fun x hx=>by
  obtain ⟨z,hz,rfl⟩:=cO.mp hx;exact gu (h z hz)
 rw [sp1,aa] at this;have:=ec 18 l;omega
abbrev MsIn (H:Hp) (Ms:List Mc) (ms:List V):Prop:=cK (fun M v=>MI H M v/\McOk M) Ms ms
def textOf (Ms:List Mc):Str:=bB "\n" (Ms.flatMap Mc.lines)
theorem MI.lines {H:Hp} {M:Mc} {v:V} (h:MI H M v) (ok:McOk M):M.lines.length<=400/\∀ x∈M.lines,x.length<=2000:=by
 obtain ⟨t,lb,lq,ld,lh,bs,hs,e,a,h1,p1,h3,h4,h5,p6⟩:=h;have rowsH:∀ y∈M.hr,(hearL y).length<=41/\∀ x∈hearL y,x.length<=2000:=fun y hy=>by
  obtain ⟨v,_,_,us,_,_,_,hp⟩:=paired_mem p6 y hy;obtain ⟨z1,z2⟩:=rows_ok hp "    ";obtain ⟨z3,z4⟩:=ok.hr y hy;have e3:("  on ":Str).length=5:=by decide
  have e4:("    ":Str).length=4:=by decide
  refine ⟨by show _ + 1<=41; omega,fun x hx=>?_⟩
  rcases au.mp hx with rfl | hx
  ·rw [aL];omega
  ·have:=z2 x hx;omega
 have ldr:(drawL M.dr).length<=1:=by
  unfold drawL
  split <;> simp
 have fl:=flat_le (f:=hearL) (k:=41) (xs:=M.hr) fun y hy=>(rowsH y hy).1;have fl2:=ec 41 ok.lh;have l1:=ok.lb;have l2:=ok.lq;refine ⟨?_,fun x hx=>?_⟩
 ·unfold Mc.lines;rw [ae,ae,ae,ae,aa,aa];show 1 + _ + _ + _ + _<=_;omega
 ·unfold Mc.lines at hx
  rcases aU.mp hx with hx | hx
  ·rcases aU.mp hx with hx | hx
   ·rcases aU.mp hx with hx | hx
    ·rcases aU.mp hx with hx | hx
     ·rw [az.mp hx,aL];have:=ok.nm;have:("machine ":Str).length=8:=by decide
      omega
     ·obtain ⟨y,hy,rfl⟩:=cO.mp hx;obtain ⟨o1,o2⟩:=ok.bx y hy;have:(shw y.2).length<=17:=gu o2;have:("  box ":Str).length=6:=by decide
      unfold boxL;rw [aL,aL,aL,sp1];omega
    ·obtain ⟨y,hy,rfl⟩:=cO.mp hx;have:=ok.qs y hy;have:("  queue ":Str).length=8:=by decide
     unfold queL;rw [aL];omega
   ·unfold drawL at hx
    split at hx
    ·cases hx
    ·rw [az.mp hx,aL];have:=join_ints ok.ld ok.dr;have:=iX " " (M.dr.map shw);have:("  draws ":Str).length=8:=by decide
     omega
  ·obtain ⟨y,hy,hx⟩:=pB.mp hx;exact (rowsH y hy).2 x hx
theorem ms_bound {H:Hp} {Ms:List Mc} {ms:List V} (h:MsIn H Ms ms) (l:Ms.length<=6):(Ms.flatMap Mc.lines).length<=2400/\jsz "\n" (Ms.flatMap Mc.lines)<=16777216:=by
 have each:∀ M∈Ms,M.lines.length<=400/\∀ x∈M.lines,x.length<=2000:=fun M hM=>by
  obtain ⟨v,h1,h2⟩:=paired_mem h M hM;exact h1.lines h2
 have z:=flat_le (f:=Mc.lines) (k:=400) (xs:=Ms) fun M hM=>(each M hM).1;have z2:=ec 400 l;have z3:(Ms.flatMap Mc.lines).length<=2400:=by omega
 refine ⟨z3,?_⟩;have z4:=sW (z:="\n") (k:=2000) (ys:=Ms.flatMap Mc.lines) fun x hx=>by
  obtain ⟨M,hM,hx⟩:=pB.mp hx;exact (each M hM).2 x hx
 have e:("\n":Str).length=1:=by decide
 rw [e] at z4;have z5:=ec (2000 + 1) z3;omega
section
variable {P:aS} {w:bN} {K:ai} {mg:Str->Option ag} {base:cI} {f fF fS fE:aj} {fd fdF fdS fdE:cf}
seal L2.PS L2.PSs L2.PE L2.PA L2.PT L2.PW L2.PI L2.PG L2.PGs L2.PC
abbrev nEl:List Str:=["_law_deed_here","_law_ahead","_law_words_here","_law_found"]
abbrev pEl:List Str:=["_law_deed_here","_law_ahead"]
theorem scEl:cH nEl pEl (bf gZ):=⟨rfl,rfl,rfl,by decide +kernel,rfl,by decide +kernel,by decide +kernel⟩
abbrev nSl:List Str:=["_law_deeds_here","_law_ahead","_law_found","_law_deed_here"]
abbrev pSl:List Str:=["_law_deeds_here","_law_ahead"]
theorem scSl:cH nSl pSl (bf gf):=⟨rfl,rfl,rfl,by decide +kernel,rfl,by decide +kernel,by decide +kernel⟩
inductive spElI (n:Nat) (vs:List V) (H:Hp) (Q:VK) (_e:XK):Prop where
 | mk (v:V) (b:Str) (r:Rw) (_:vs=[v,.str b]) (_:DI H n v r) (_:b.length + 2 * n<=100) (_:r.1<=100) (_:∀ (m:aj) (H':Hp),H m=none->H' m=some (.lst ((r.2 b).map V.str))->cB H H'->Q (.ref m) H'):spElI n vs H Q _e
def spEl (n:Nat):Sp:=fun vs H Q _e=>spElI n vs H Q _e
theorem el_step {n:Nat} (D:Df K mg "_law_deed_lines" gZ pEl f fd) (DS:Df K mg "_law_deeds_lines" gf pSl fS fdS) (DF:Df K mg "_law_words" jL pLw fF fdF) (B:Bl mg) (GS:cQ P w K mg base CX0 (2 * n + 17) fS fdS pSl (spDl n)):cQ P w K mg base CX0 (2 * n + 18) f fd pEl (spEl (n + 1)):=by
 have GF:cQ P w K mg base CX0 15 fF fdF pLw (xS 15):=Ha DF B 15 (by decide);refine D.F.ok scEl (fun vs H Q E h=>?_) (fun cdv A outer s H vs Q E hr h=>?_)
 ·obtain ⟨v,b,r,rfl,_⟩:=h;rfl
 obtain ⟨v,b,r,rfl,hD,hb,hc,q⟩:=h;have r15:dE 15 _:=hr.mono (by omega);refine ⟨_,aH (df (aZ d8 (bR cM (pv 0) aq (fun _ _=>rfl)) aO (bD _)) (aI (bE (cZ (g9 (cb cD (pv 1) aO) ak)))) bO)
  (aH (df (aZ d8 (bR cM (pv 0) aq (fun _ _=>rfl)) aO (bD _)) (aH (cq (i:=2) scEl.nd rfl (Or.inl rfl) (cZ (cS aO (gT (fA eW (by rfl) B.str boot_str (eK (bR cM (pv 0) aq (fun _ _=>rfl)) ak)) (eK (bR cM (pv 0) aq (fun _ _=>rfl)) (gT (fA eW (by rfl) B.str boot_str (eK (bR cM (pv 0) aq (fun _ _=>rfl)) ak)) ak))))))
  (aH (cq (i:=2) scEl.nd rfl (Or.inl rfl) (cb j3 (pv 2) (cZ (gT (bq GF r15 (by rfl) DF.m DF.F.kp DF.b .nil bQ (eK (bR cM (pv 0) aq (fun _ _=>rfl)) ak)) (gT (bq GF r15 (by rfl) DF.m DF.F.kp DF.b .nil bQ (eK (bR cM (pv 0) aq (fun _ _=>rfl)) ak)) (gT (bq GF r15 (by rfl) DF.m DF.F.kp DF.b .nil bQ (eK (bR cM (pv 0) aq (fun _ _=>rfl)) ak)) ak))))))
  (aI (bE (cZ (g9 (cb cD (pv 1) (d9 bz cF cG ie aO (bI (pv 2) ak))) ak)))))) bO)
  (aH (df (aZ d8 (bR cM (pv 0) aq (fun _ _=>rfl)) aO (bD _)) (aH (cq (i:=3) scEl.nd rfl (Or.inl rfl) (cZ (g9 (cb cD (pv 1) (d9 bz cF cG ie aO (eK (gM CV (pv 0) i7 (ib aq)) ak))) ak)))
  (aI (bE (cb j3 (pv 3) (bq GS hr (by rfl) DS.m DS.F.kp DS.b .nil bQ (eK (bR cM (pv 0) aq (fun _ _=>rfl)) (g9 (cb cD (pv 1) aO) ak))))))) bO)
  (aH (df (aZ d8 (bR cM (pv 0) aq (fun _ _=>rfl)) aO (bD _)) (aH (cq (i:=3) scEl.nd rfl (Or.inl rfl) (cb j3 (cZ (g9 (cb cD (cb cD (pv 1) aO) (bq GF r15 (by rfl) DF.m DF.F.kp DF.b .nil bQ (eK (bR cM (pv 0) aq (fun _ _=>rfl)) ak))) ak)) (bq GS hr (by rfl) DS.m DS.F.kp DS.b .nil bQ (eK (bR cM (pv 0) aq (fun _ _=>rfl)) (g9 (cb cD (pv 1) aO) ak)))))
  (aI (bE (cb j3 (cb j3 (pv 3) (cZ (g9 (cb cD (pv 1) aO) ak))) (bq GS hr (by rfl) DS.m DS.F.kp DS.b .nil bQ (eK (bR cM (pv 0) aq (fun _ _=>rfl)) (g9 (cb cD (pv 1) aO) ak))))))) bO)
  (aI (bE (cZ (g9 (cb cD (cb cD (cb cD (cb cD (cb cD (pv 1) (bR cM (pv 0) aq (fun _ _=>rfl))) aO) (bR cM (pv 0) aq (fun _ _=>rfl))) aO) (bq GF r15 (by rfl) DF.m DF.F.kp DF.b .nil bQ (eK (bR cM (pv 0) aq (fun _ _=>rfl)) ak))) ak))))))),?_⟩
 have big:10000 < ax:=by decide
 have ks:(¬ ("if":Str)="end"/\¬ ("if":Str)="send"/\¬ ("if":Str)="pull"/\¬ ("pull":Str)="end"/\¬ ("pull":Str)="send"/\¬ ("send":Str)="end"):=by decide +kernel
 have k3:∀ k:Str,(k="put"\/k="push"\/k="draw")->¬ k="end"/\¬ k="if"/\¬ k="pull"/\¬ k="send":=by
  intro k h
  rcases h with rfl | rfl | rfl <;> decide +kernel
 have e0:jsz " " []=0:=rfl;have l3:("end":Str).length=3:=by decide
 have l4:("pull":Str).length=4:=by decide
 have li:("if ":Str).length=3:=by decide
 have le:("else":Str).length=4:=by decide
 rcases hD with ⟨z,hz,rfl⟩ | ⟨t,l2,x,y,vs2,rs2,n0,rfl,a,lx,ly,hl2,hp2,rfl⟩ | ⟨t,l1,l2,g,z,vs1,vs2,rs1,rs2,n0,rfl,a,hf,h1,h2,p1,p2,rfl⟩
 ·have one:∀ (G:Hp) (x:Str),cB H G->x=b++z->1<=ax/\∀ m,G m=none->Q (.ref m) (upd G m (.lst [V.str x])):=fun G x sg e=>⟨by omega,fun m hm=>q m _ (sg.free hm) (by rw [e]; exact ao) (sg.trans (aD hm _))⟩
  cases hz with
  | fin a =>
   refine aB (gg (fun Q q=>⟨_,rfl,_,_,_,_,rfl,rfl,SqT.of a,rfl,q⟩) ?_);exact ⟨_,rfl,_,_,rfl,rfl,by omega,one H _ (cB.refl _) rfl⟩
  | @three t k x v s a hk lx hf =>
   have lx:=lx.2.1;obtain ⟨n1,n2,n3,n4⟩:=k3 k hk;have hk4:k.length<=4:=by rcases hk with rfl | rfl | rfl <;> decide
   have:=hf.len;refine aB (cE (fun Q q=>⟨_,rfl,_,_,_,_,rfl,rfl,SqT.of a,rfl,q⟩) n1 (c7 ?_));dsimp only;refine aB (cE (fun Q q=>⟨_,rfl,_,_,_,_,rfl,rfl,SqT.of a,rfl,q⟩) n4 (c7 ?_));dsimp only;refine aB (cE (fun Q q=>⟨_,rfl,_,_,_,_,rfl,rfl,SqT.of a,rfl,q⟩) n3 (c7 ?_));dsimp only;refine aB (cE (fun Q q=>⟨_,rfl,_,_,_,_,rfl,rfl,SqT.of a,rfl,q⟩) n2 (c7 ?_));dsimp only;refine ⟨_,rfl,_,rfl,_,_,_,_,rfl,rfl,SqT.of a,rfl,_,_,rfl,rfl,by omega,_,_,rfl,rfl,by rw [aL,sp1]; omega,_,rfl,_,_,_,_,rfl,rfl,SqT.of a,rfl,_,_,rfl,rfl,by rw [aL,aL,sp1]; omega,_,_,rfl,rfl,by rw [aL,aL,aL,sp1]; omega,_,rfl,_,_,_,_,rfl,rfl,SqT.of a,rfl,v,s,rfl,hf,fun H1 g1=>⟨_,_,rfl,rfl,by rw [aL,aL,aL,aL,sp1]; omega,one H1 _ g1 ?_⟩⟩;show _=b++(((k++" ")++x)++" "++s);simp only [iE]
  | @send t z x v1 y v2 v3 s1 s2 s3 a hz hy lx f1 f2 f3 =>
   have hz:Wo z:=iy ⟨hz.1,by omega⟩;have hy:Wo y:=iy hy;have lx:=lx.2.1;refine aB (cE (fun Q q=>⟨_,rfl,_,_,_,_,rfl,rfl,SqT.of a,rfl,q⟩) ks.2.2.2.2.2 (c7 ?_));dsimp only;refine aB (gg (fun Q q=>⟨_,rfl,_,_,_,_,rfl,rfl,SqT.of a,rfl,q⟩) ?_);refine aB (bT ?_);refine ⟨_,rfl,_,_,_,_,rfl,rfl,SqT.of a,rfl,_,rfl,mI hz,_,rfl,_,_,_,_,rfl,rfl,SqT.of a,rfl,_,rfl,_,_,_,_,rfl,rfl,SqT.of a,rfl,_,rfl,mI hy,⟨by show 4<=ax; omega,fun l5 hl5=>aG ?_⟩⟩;dsimp only;have s5:=aD hl5 (.lst [V.str "send",V.str (ba (toString z)),V.str x,V.str (ba (toString y))]);have h5:upd H l5 (.lst [V.str "send",V.str (ba (toString z)),V.str x,V.str (ba (toString y))]) l5=_:=ao;generalize upd H l5 (.lst [V.str "send",V.str (ba (toString z)),V.str x,V.str (ba (toString y))])=G5 at s5 h5 |-;refine aB (bT ?_);refine ⟨_,rfl,_,rfl,_,_,_,_,rfl,rfl,SqT.of (s5 _ _ a),rfl,v1,s1,rfl,f1.same s5,fun G6 s6=>?_⟩;have s56:=s5.trans s6;refine ⟨_,rfl,_,_,_,_,rfl,rfl,SqT.of (s56 _ _ a),rfl,v2,s2,rfl,f2.same s56,fun G7 s7=>?_⟩;have s57:=s56.trans s7;refine ⟨_,rfl,_,_,_,_,rfl,rfl,SqT.of (s57 _ _ a),rfl,v3,s3,rfl,f3.same s57,fun G8 s8=>⟨by show 3<=ax; omega,fun l9 hl9=>?_⟩⟩;have s9:=aD hl9 (.lst [V.str s1,V.str s2,V.str s3]);have h59:=s9 _ _ (s8 _ _ (s7 _ _ (s6 _ _ h5)));refine ⟨l5,l9,_,_,rfl,rfl,h59,ao,(by show 4 + 3<=ax; omega),fun l10 hl10=>aG ?_⟩;dsimp only;have js:=send_jsz hz hy lx f1.len f2.len f3.len;have jl:=iX " " ["send",ba (toString z),x,ba (toString y),s1,s2,s3];refine ⟨_,rfl,rfl,_,rfl,_,l10,["send",ba (toString z),x,ba (toString y),s1,s2,s3],rfl,rfl,.inl (SqL.of ao),by omega,_,_,rfl,rfl,by omega,one _ _ (((s57.trans s8).trans s9).trans (aD hl10 _)) rfl⟩
 ·refine aB (cE (fun Q q=>⟨_,rfl,_,_,_,_,rfl,rfl,SqT.of a,rfl,q⟩) ks.2.2.2.1 (c7 ?_));dsimp only;refine aB (cE (fun Q q=>⟨_,rfl,_,_,_,_,rfl,rfl,SqT.of a,rfl,q⟩) ks.2.2.2.2.1 (c7 ?_));dsimp only;refine aB (gg (fun Q q=>⟨_,rfl,_,_,_,_,rfl,rfl,SqT.of a,rfl,q⟩) ?_);refine aB (bT ?_);have lx:=lx.2.1;have ly:=ly.2.1;have js:jsz " " ["pull",x,y]<=100:=by
   simp only [jsz_cons,sp1,e0];omega
  have jl:=iX " " ["pull",x,y];refine ⟨_,rfl,rfl,_,rfl,_,rfl,t,_,rfl,SqT.of a,(by show ¬ (HT.sIx 4 0 none=0/\HT.sIx 4 4 (some 3)=4); decide),fun t2 ht2=>⟨_,t2,["pull",x,y],rfl,rfl,.inr (SqT.of ao),by omega,_,_,rfl,rfl,by omega,⟨by show 1<=ax; omega,fun l3 hl3=>aG ?_⟩⟩⟩;dsimp only;have s3:=(aD ht2 (.tup (jZ [V.str "pull",V.str x,V.str y,V.ref l2] none (some 3)))).trans (aD hl3 (.lst [V.str (b++bB " " ["pull",x,y])]));have h3:upd (upd H t2 (.tup (jZ [V.str "pull",V.str x,V.str y,V.ref l2] none (some 3)))) l3 (.lst [V.str (b++bB " " ["pull",x,y])]) l3=_:=ao;generalize upd (upd H t2 (.tup (jZ [V.str "pull",V.str x,V.str y,V.ref l2] none (some 3)))) l3 (.lst [V.str (b++bB " " ["pull",x,y])])=G3 at s3 h3 |-;have l2':=(rows_ok hp2 (b++"  ")).1;have hc':1 + rowsC rs2<=100:=hc;refine ⟨_,rfl,_,rfl,_,_,_,_,rfl,rfl,SqT.of (s3 _ _ a),rfl,_,rfl,_,_,rfl,rfl,by rw [two2]; omega,l2,b++"  ",vs2,rs2,rfl,n0,s3 _ _ hl2,rows_same s3 hp2,by rw [aL,two2]; omega,by omega,fun m4 G4 hm4 h4 s4=>?_⟩;refine ⟨l3,m4,_,_,rfl,rfl,s4 _ _ h3,h4,?_,fun m5 hm5=>q m5 _ ((s3.trans s4).free hm5) ao ((s3.trans s4).trans (aD hm5 _))⟩;rw [aa];show 1 + _<=_;omega
 ·refine aB (cE (fun Q q=>⟨_,rfl,_,_,_,_,rfl,rfl,SqT.of a,rfl,q⟩) ks.1 (c7 ?_));dsimp only;refine aB (cE (fun Q q=>⟨_,rfl,_,_,_,_,rfl,rfl,SqT.of a,rfl,q⟩) ks.2.1 (c7 ?_));dsimp only;refine aB (cE (fun Q q=>⟨_,rfl,_,_,_,_,rfl,rfl,SqT.of a,rfl,q⟩) ks.2.2.1 (c7 ?_));dsimp only;refine aB (gg (fun Q q=>⟨_,rfl,_,_,_,_,rfl,rfl,SqT.of a,rfl,q⟩) ?_);have hfl:=hf.len;have l1':=(rows_ok p1 (b++"  ")).1;have l2':=(rows_ok p2 (b++"  ")).1;have hc':1 + rowsC rs1 + rowsC rs2<=100:=hc;refine aB (bT ?_);refine ⟨_,rfl,_,_,rfl,rfl,by omega,_,rfl,_,_,_,_,rfl,rfl,SqT.of a,rfl,g,z,rfl,hf,fun G1 s1=>⟨_,_,rfl,rfl,by rw [aL]; omega,⟨by show 1<=ax; omega,fun l3 hl3=>?_⟩⟩⟩;have s3:=s1.trans (aD hl3 (.lst [V.str (b++"if "++z)]));have h3:upd G1 l3 (.lst [V.str (b++"if "++z)]) l3=_:=ao;generalize upd G1 l3 (.lst [V.str (b++"if "++z)])=G3 at s3 h3 |-;refine ⟨_,rfl,_,_,_,_,rfl,rfl,SqT.of (s3 _ _ a),rfl,_,rfl,_,_,rfl,rfl,by rw [two2]; omega,l1,b++"  ",vs1,rs1,rfl,n0,s3 _ _ h1,rows_same s3 p1,by rw [aL,two2]; omega,by omega,fun m4 G4 hm4 h4 s4=>?_⟩;refine ⟨l3,m4,_,_,rfl,rfl,s4 _ _ h3,h4,(by rw [aa]; show 1 + _<=_; omega),fun m5 hm5=>aG ?_⟩;dsimp only;have s5:=(s3.trans s4).trans (aD hm5 (.lst ([V.str (b++"if "++z)]++(rowsL rs1 (b++"  ")).map V.str)));have h5:upd G4 m5 (.lst ([V.str (b++"if "++z)]++(rowsL rs1 (b++"  ")).map V.str)) m5=_:=ao;generalize upd G4 m5 (.lst ([V.str (b++"if "++z)]++(rowsL rs1 (b++"  ")).map V.str))=G5 at s5 h5 |-;refine ⟨_,rfl,_,rfl,_,_,rfl,rfl,by rw [le]; omega,⟨by show 1<=ax; omega,fun l6 hl6=>?_⟩⟩;have s6:=aD hl6 (.lst [V.str (b++"else")]);refine ⟨m5,l6,_,_,rfl,rfl,s6 _ _ h5,ao,?_,fun m7 hm7=>?_⟩
  ·rw [ae,aa];show 1 + _ + 1<=_;omega
  have s7:=(s5.trans s6).trans (aD hm7 (.lst ([V.str (b++"if "++z)]++(rowsL rs1 (b++"  ")).map V.str++[V.str (b++"else")])));have h7:upd (upd G5 l6 (.lst [V.str (b++"else")])) m7 (.lst ([V.str (b++"if "++z)]++(rowsL rs1 (b++"  ")).map V.str++[V.str (b++"else")])) m7=_:=ao;generalize upd (upd G5 l6 (.lst [V.str (b++"else")])) m7 (.lst ([V.str (b++"if "++z)]++(rowsL rs1 (b++"  ")).map V.str++[V.str (b++"else")]))=G7 at s7 h7 |-;refine ⟨_,rfl,_,_,_,_,rfl,rfl,SqT.of (s7 _ _ a),rfl,_,rfl,_,_,rfl,rfl,by rw [two2]; omega,l2,b++"  ",vs2,rs2,rfl,n0,s7 _ _ h2,rows_same s7 p2,by rw [aL,two2]; omega,by omega,fun m8 G8 hm8 h8 s8=>?_⟩;refine ⟨m7,m8,_,_,rfl,rfl,s8 _ _ h7,h8,?_,fun m9 hm9=>q m9 _ ((s7.trans s8).free hm9) ?_ ((s7.trans s8).trans (aD hm9 _))⟩
  ·rw [ae,ae,aa,aa];show 1 + _ + 1 + _<=_;omega
  ·rw [ao];simp [iE]
theorem sl_step {n:Nat} (D:Df K mg "_law_deeds_lines" gf pSl f fd) (DE:Df K mg "_law_deed_lines" gZ pEl fE fdE) (B:Bl mg) (GE:cQ P w K mg base CX0 (2 * n + 16) fE fdE pEl (spEl n)):cQ P w K mg base CX0 (2 * n + 17) f fd pSl (spDl n):=by
 refine D.F.ok scSl (fun vs H Q E h=>?_) (fun cdv A outer s H vs Q E hr h=>?_)
 ·obtain ⟨l,b,us,rs,rfl,_⟩:=h;rfl
 obtain ⟨l,b,us,rs,rfl,_,hl,hp,hb,hc,q⟩:=h;refine ⟨_,aH (cq (i:=2) scSl.nd rfl (Or.inl rfl) (cZ ak))
  (aH (jt cN rfl (eV (pv 0)) (cT (i:=3) scSl.nd rfl (Or.inl rfl)) (aI (cq (i:=2) scSl.nd rfl (Or.inl rfl) (cb j3 (pv 2) (bq GE hr (by rfl) DE.m DE.F.kp DE.b .nil bQ (bI (pv 3) (bI (pv 1) ak)))))))
  (aI (bE (pv 2)))),?_⟩
 have big:10000 < ax:=by decide
 refine aB (bT ⟨aR _,fun m hm=>aG ?_⟩);dsimp only;have sm:=aD hm (.lst []);refine aB ⟨_,rfl,l,rfl,⟨us,SqL.of (sm _ _ hl)⟩,gW (xs:=us) (fun i σ G=>∃ m v4,σ=[some (.ref l),some (.str b),some (.ref m),v4]/\H m=none/\i<=us.length/\cB H G/\G m=some (.lst ((rowsL (rs.take i) b).map V.str))) ⟨m,none,rfl,hm,aR _,sm,ao⟩ ?_ ?_ ?_⟩
 ·rintro i σ G hi ⟨m,v4,rfl,_,_,sg,_⟩;exact SqL.of (sg _ _ hl)
 ·rintro i u σ G hu ⟨m,v4,rfl,hm,hi,sg,hG⟩;have hil:i < us.length:=(aQ.mp hu).1;obtain ⟨r,hr1,hd⟩:=fG hp hu;have lt:=take_len hp b i;have rle:=rows_le hr1;have rl:=(hd.lines b).1;refine aG (bT ?_);dsimp only;refine ⟨_,rfl,_,rfl,_,rfl,u,b,r,rfl,hd.tk sg,hb,by omega,fun m1 G1 hm1 h1 s1=>?_⟩;refine ⟨m,m1,_,_,rfl,rfl,s1 _ _ hG,h1,(by rw [aa,aa]; omega),fun m2 hm2=>aG ?_⟩;have s2:=(sg.trans s1).trans (aD hm2 (.lst ((rowsL (rs.take i) b).map V.str++(r.2 b).map V.str)));exact ⟨m2,_,rfl,(sg.trans s1).free hm2,hil,s2,by rw [ao,rows_at hr1,rowsL_snoc,bA]⟩
 ·rintro σ G ⟨m,v4,rfl,hm,hi,sg,hG⟩;refine ⟨_,rfl,?_⟩;rw [<- paired_len hp,bZ] at hG;exact q m G hm hG sg
theorem ok_slel (DE:Df K mg "_law_deed_lines" gZ pEl fE fdE) (DS:Df K mg "_law_deeds_lines" gf pSl fS fdS) (DF:Df K mg "_law_words" jL pLw fF fdF) (B:Bl mg):∀ n:Nat,cQ P w K mg base CX0 (2 * n + 16) fE fdE pEl (spEl n)/\cQ P w K mg base CX0 (2 * n + 17) fS fdS pSl (spDl n)
 | 0=>by
  have z:cQ P w K mg base CX0 16 fE fdE pEl (spEl 0):=⟨fun vs H Q E h=>(by obtain ⟨v,b,r,rfl,h,_⟩:=h; exact h.elim),fun A outer s H args us vs Q E a b c d h=>(by obtain ⟨v,b,r,rfl,h,_⟩:=h; exact h.elim)⟩;exact ⟨z,sl_step (n:=0) DS DE B z⟩
 | n + 1=>by
  have e:=el_step (n:=n) DE DS DF B (ok_slel DE DS DF B n).2;exact ⟨e,sl_step (n:=n + 1) DS DE B e⟩
end
section
variable {P:aS} {w:bN} {K:ai} {mg:Str->Option ag} {base:cI} {f fS:aj} {fd fdS:cf}
seal L2.PS L2.PSs L2.PE L2.PA L2.PT L2.PW L2.PI L2.PG L2.PGs L2.PC
abbrev nLl:List Str:=["_law_machines_here","_law_found","_law_name","_law_boxes","_law_queues","_law_draws","_law_hears","_law_box","_law_worth_here","_law_queue","_law_sign","_law_deeds_here"]
abbrev pLl:List Str:=["_law_machines_here"]
theorem scLl:cH nLl pLl (bf jM):=⟨rfl,rfl,rfl,by decide +kernel,rfl,by decide +kernel,by decide +kernel⟩
theorem ndLl:((["_law_draw"]:List Str)++nLl).Nodup:=by decide +kernel
inductive spLlI (vs:List V) (H:Hp) (Q:VK) (_e:XK):Prop where
 | mk (l:aj) (ms:List V) (Ms:List Mc) (_:vs=[.ref l]) (_:H l=some (.lst ms)) (_:MsIn H Ms ms) (_:Ms.length<=6) (_:∀ (m:aj) (H':Hp),H m=none->H' m=some (.lst ((Ms.flatMap Mc.lines).map V.str))->cB H H'->Q (.ref m) H'):spLlI vs H Q _e
def spLl:Sp:=fun vs H Q _e=>spLlI vs H Q _e
theorem ok_ll (D:Df K mg "_law_lines" jM pLl f fd) (DS:Df K mg "_law_deeds_lines" gf pSl fS fdS) (GS:cQ P w K mg base CX0 27 fS fdS pSl (spDl 5)) (B:Bl mg):cQ P w K mg base CX0 28 f fd pLl spLl:=by
 refine D.F.ok scLl (fun vs H Q E h=>?_) (fun cdv A outer s H vs Q E r27 h=>?_)
 ·obtain ⟨l,ms,Ms,rfl,_⟩:=h;rfl
 obtain ⟨l,ms,Ms,rfl,hl,hMs,l6,q⟩:=h;have h50:=Fn r27;refine ⟨_,aH (cq (i:=1) scLl.nd rfl (Or.inl rfl) (cZ ak))
  (aH (jt cN rfl (eV (pv 0)) (ux rfl (fU (cT (i:=2) scLl.nd rfl (Or.inl rfl)) (fU (cT (i:=3) scLl.nd rfl (Or.inl rfl)) (fU (cT (i:=4) scLl.nd rfl (Or.inl rfl)) (fU (cT (i:=5) scLl.nd rfl (Or.inl rfl)) (fU (cT (i:=6) scLl.nd rfl (Or.inl rfl)) o5)))))) (aH (dI (d9 aP bh bj dR (pv 1) (g9 (cb cD aO (pv 2)) ak)))
  (aH (jt cN rfl (eV (pv 3)) (ux rfl (fU (cT (i:=7) scLl.nd rfl (Or.inl rfl)) (fU (cT (i:=8) scLl.nd rfl (Or.inl rfl)) o5))) (aI (dI (d9 aP bh bj dR (pv 1) (g9 (cb cD (cb cD (cb cD aO (pv 7)) aO) (fA eW (by rfl) B.str boot_str (bI (pv 8) ak))) ak)))))
  (aH (jt cN rfl (eV (pv 4)) (cT (i:=9) scLl.nd rfl (Or.inl rfl)) (aI (dI (d9 aP bh bj dR (pv 1) (g9 (cb cD aO (pv 9)) ak)))))
  (aH (df (aZ (II h50) (pv 5) (cZ ak) (bD _)) (aI (dI (d9 aP bh bj dR (pv 1) (g9 (cb cD aO (d9 bz cF cG ie aO (eJ (kE ["_law_draw"] (gE.open (NN:=nLl) (N:=nLl) (sc:=bf jM) rfl rfl (by decide +kernel) rfl (by decide +kernel) (by decide +kernel) rfl (by decide +kernel)) rfl (eV (pv 5)) (fun _ _ _ _=>cT (i:=0) ndLl rfl (Or.inl rfl)) (fun _ _ _ _=>ic) (fun _ _ _ _=>fA eW (by rfl) B.str boot_str (bI (pv 0) ak))) ak))) ak)))) bO)
  (aI (jt cN rfl (eV (pv 6)) (ux rfl (fU (cT (i:=10) scLl.nd rfl (Or.inl rfl)) (fU (cT (i:=11) scLl.nd rfl (Or.inl rfl)) o5))) (aI (cq (i:=1) scLl.nd rfl (Or.inl rfl) (cb j3 (cb j3 (pv 1) (cZ (g9 (cb cD aO (pv 10)) ak))) (bq GS r27 (by rfl) DS.m DS.F.kp DS.b .nil bQ (bI (pv 11) (cS aO ak)))))))))))))
  (aI (bE (pv 1)))),?_⟩
 have big:10000 < ax:=by decide
 obtain ⟨b1,b2⟩:=ms_bound hMs l6;have lm:("machine ":Str).length=8:=by decide
 have e1:("  box ":Str).length=6:=by decide
 have e2:("  queue ":Str).length=8:=by decide
 have e3:("  on ":Str).length=5:=by decide
 have e4:("    ":Str).length=4:=by decide
 have e5:("  draws ":Str).length=8:=by decide
 refine aB (bT ⟨aR _,fun m hm=>aG ?_⟩);dsimp only;have sm:=aD hm (.lst []);refine aB ⟨_,rfl,l,rfl,⟨ms,SqL.of (sm _ _ hl)⟩,gW (xs:=ms) (fun i σ G=>∃ m u2 u3 u4 u5 u6 u7 u8 u9 u10 u11,σ=[some (.ref l),some (.ref m),u2,u3,u4,u5,u6,u7,u8,u9,u10,u11]/\H m=none/\cB H G/\G m=some (.lst (((Ms.take i).flatMap Mc.lines).map V.str))) ⟨m,none,none,none,none,none,none,none,none,none,none,rfl,hm,sm,ao⟩ ?_ ?_ ?_⟩
 ·rintro i σ G hi ⟨m,u2,u3,u4,u5,u6,u7,u8,u9,u10,u11,rfl,hm,sg,_⟩;exact SqL.of (sg _ _ hl)
 ·rintro i0 u0 σ G hu0 ⟨m,u2,u3,u4,u5,u6,u7,u8,u9,u10,u11,rfl,hm,sg,hG⟩;obtain ⟨M,hx0,hM1,ok⟩:=fG hMs hu0;obtain ⟨t,lb,lq,ld,lh,bs,hs,rfl,a,h1,p1,h3,h4,h5,p6⟩:=hM1;have lT:((Ms.take i0).flatMap Mc.lines).length<=2400:=by
   have e:(Ms.flatMap Mc.lines).length=((Ms.take i0).flatMap Mc.lines).length + ((Ms.drop i0).flatMap Mc.lines).length:=by
    conv=>lhs; rw [<- iO i0 Ms]
    rw [rJ,ae]
   omega
  have nm:=ok.nm;have lb9:=ok.lb;have lq9:=ok.lq;have ld20:=ok.ld;refine ⟨t,_,rfl,SqT.of (sg _ _ a),rfl,_,_,rfl,aG ⟨_,_,rfl,aG ⟨_,_,rfl,aG ⟨_,_,rfl,aG ⟨_,_,rfl,aG ⟨rfl,?_⟩⟩⟩⟩⟩⟩;dsimp only;have step:(Ms.take (i0 + 1)).flatMap Mc.lines=(Ms.take i0).flatMap Mc.lines++M.lines:=by
   rw [cX,hx0];simp
  generalize hAs:(Ms.take i0).flatMap Mc.lines=As at hG lT step;refine aB ⟨_,rfl,.inl ⟨rfl,_,SqL.of hG⟩,_,rfl,_,_,rfl,rfl,by omega,m,_,_,rfl,rfl,hG,by rw [aa]; omega,?_⟩;dsimp only;have sg0:cB H (upd G m (.lst (As.map V.str++[V.str ("machine "++M.nm)]))):=fv sg hm;have hG0:upd G m (.lst (As.map V.str++[V.str ("machine "++M.nm)])) m=some (.lst ((As++[("machine ":Str)++M.nm]).map V.str)):=by rw [ao,bA]; rfl
  generalize upd G m (.lst (As.map V.str++[V.str ("machine "++M.nm)]))=G0 at sg0 hG0 |-;refine aB ⟨_,rfl,lb,rfl,⟨bs,SqL.of (sg0 _ _ h1)⟩,gW (xs:=bs) (fun i σ G=>∃ u7 u8,σ=[some (.ref l),some (.ref m),some (.str M.nm),some (.ref lb),some (.ref lq),some (.ref ld),some (.ref lh),u7,u8,u9,u10,u11]/\cB H G/\G m=some (.lst ((As++[("machine ":Str)++M.nm]++(M.bx.take i).map boxL).map V.str))) ⟨u7,u8,rfl,sg0,by rw [hG0]; simp⟩ ?_ ?_ ?_⟩
  ·rintro i σ G hi ⟨u7,u8,rfl,sg,_⟩;exact SqL.of (sg _ _ h1)
  ·rintro i u σ G hu ⟨u7,u8,rfl,sg,hG⟩;obtain ⟨x,hx,tb,rfl,hb⟩:=fG p1 hu;obtain ⟨ox,oz⟩:=ok.bx x (bS hx);have sl:=gu oz;refine ⟨tb,_,rfl,SqT.of (sg _ _ hb),rfl,_,_,rfl,aG ⟨_,_,rfl,aG ⟨rfl,?_⟩⟩⟩;dsimp only;refine ⟨_,rfl,.inl ⟨rfl,_,SqL.of hG⟩,_,rfl,_,_,rfl,rfl,by omega,_,_,rfl,rfl,by rw [aL,sp1]; omega,_,rfl,_,rfl,mI oz,_,_,rfl,rfl,by rw [aL,aL,sp1]; omega,?_⟩;refine ⟨m,_,_,rfl,rfl,hG,by rw [aa,ae,ae,aa,bP]; show _ + 1 + min _ _ < _; omega,?_⟩;refine ⟨_,_,rfl,fv sg hm,?_⟩;rw [ao,cX,hx];simp [boxL,shw]
  rintro σ G1 ⟨u7,u8,rfl,sg1,hG1⟩;rw [<- paired_len p1,bZ] at hG1;dsimp only;refine aB ⟨_,rfl,lq,rfl,⟨_,SqL.of (sg1 _ _ h3)⟩,gW (xs:=M.qs.map V.str) (fun i σ G=>∃ u9,σ=[some (.ref l),some (.ref m),some (.str M.nm),some (.ref lb),some (.ref lq),some (.ref ld),some (.ref lh),u7,u8,u9,u10,u11]/\cB H G/\G m=some (.lst ((As++[("machine ":Str)++M.nm]++M.bx.map boxL++(M.qs.take i).map queL).map V.str))) ⟨u9,rfl,sg1,by rw [hG1]; simp⟩ ?_ ?_ ?_⟩
  ·rintro i σ G hi ⟨u9,rfl,sg,_⟩;exact SqL.of (sg _ _ h3)
  ·rintro i u σ G hu ⟨u9,rfl,sg,hG⟩;obtain ⟨x,hx,rfl⟩:∃ x,M.qs[i]?=some x/\u=.str x:=by
    rw [cw] at hu;obtain ⟨x,h1,h2⟩:=c8.mp hu;exact ⟨x,h1,h2.symm⟩
   have ox:=ok.qs x (bS hx);refine aG ?_;dsimp only;refine ⟨_,rfl,.inl ⟨rfl,_,SqL.of hG⟩,_,rfl,_,_,rfl,rfl,by omega,?_⟩;refine ⟨m,_,_,rfl,rfl,hG,by rw [aa,ae,ae,ae,aa,aa,bP]; show _ + 1 + _ + min _ _ < _; omega,?_⟩;refine ⟨_,rfl,fv sg hm,?_⟩;rw [ao,cX,hx];simp [queL]
  rintro σ G2 ⟨u9,rfl,sg2,hG2⟩;rw [aa,bZ] at hG2;dsimp only;refine aB (ifS_join (fun G3=>cB H G3/\G3 m=some (.lst ((As++[("machine ":Str)++M.nm]++M.bx.map boxL++M.qs.map queL++drawL M.dr).map V.str))) ?_ ?_)
  ·rintro G3 ⟨sg3,hG3⟩;dsimp only;have ldr:(drawL M.dr).length<=1:=by
    unfold drawL
    split <;> simp
   refine ⟨_,rfl,lh,rfl,⟨hs,SqL.of (sg3 _ _ h5)⟩,gW (xs:=hs) (fun i σ G=>∃ m u10 u11,σ=[some (.ref l),some (.ref m),some (.str M.nm),some (.ref lb),some (.ref lq),some (.ref ld),some (.ref lh),u7,u8,u9,u10,u11]/\H m=none/\i<=hs.length/\cB H G/\G m=some (.lst ((As++[("machine ":Str)++M.nm]++M.bx.map boxL++M.qs.map queL++drawL M.dr++(M.hr.take i).flatMap hearL).map V.str))) ⟨m,u10,u11,rfl,hm,aR _,sg3,by rw [hG3]; simp⟩ ?_ ?_ ?_⟩
   ·rintro i σ G hi ⟨m,u10,u11,rfl,_,_,sg,_⟩;exact SqL.of (sg _ _ h5)
   ·rintro i u σ G hu ⟨m,u10,u11,rfl,hm,hi,sg,hG⟩;have hil:i < hs.length:=(aQ.mp hu).1;obtain ⟨x,hx,th,lx,us,rfl,ht,hlx,hp⟩:=fG p6 hu;obtain ⟨ox,oc⟩:=ok.hr x (bS hx);have lh9:=ok.lh;have lfl:((M.hr.take i).flatMap hearL).length<=9 * 41:=by
     have z:=flat_le (f:=hearL) (k:=41) (xs:=M.hr.take i) fun y hy=>by
      obtain ⟨v,_,_,us',_,_,_,hp'⟩:=paired_mem p6 y (dC hy);have z1:=(rows_ok hp' "    ").1;have z2:=(ok.hr y (dC hy)).2;show _ + 1<=41;omega
     have z3:(M.hr.take i).length<=9:=by
      rw [bP];omega
     have z4:=ec 41 z3;omega
    have rl:=(rows_ok hp "    ").1;refine ⟨th,_,rfl,SqT.of (sg _ _ ht),rfl,_,_,rfl,aG ⟨_,_,rfl,aG ⟨rfl,bT ?_⟩⟩⟩;dsimp only;generalize hA:(As++[("machine ":Str)++M.nm]++M.bx.map boxL++M.qs.map queL++drawL M.dr++(M.hr.take i).flatMap hearL).map V.str=Bs at hG;have lA:Bs.length<=3000:=by
     rw [<- hA,aa,ae,ae,ae,ae,ae,aa,aa];show _ + 1 + _ + _ + _ + _<=_;omega
    refine ⟨_,rfl,_,rfl,_,_,rfl,rfl,by omega,⟨by show 1<=ax; omega,fun l4 hl4=>?_⟩⟩;have s4:=aD hl4 (.lst [V.str ("  on "++x.1)]);refine ⟨m,l4,_,_,rfl,rfl,s4 _ _ hG,ao,by show _ + 1<=_; omega,fun m5 hm5=>?_⟩;have s5:=(sg.trans s4).trans (aD hm5 (.lst (Bs++[V.str ("  on "++x.1)])));have h55:upd (upd G l4 (.lst [V.str ("  on "++x.1)])) m5 (.lst (Bs++[V.str ("  on "++x.1)])) m5=_:=ao;generalize upd (upd G l4 (.lst [V.str ("  on "++x.1)])) m5 (.lst (Bs++[V.str ("  on "++x.1)]))=G5 at s5 h55 |-;refine ⟨_,rfl,lx,"    ",us,x.2,rfl,by decide,s5 _ _ hlx,rows_same s5 hp,by rw [e4]; omega,by omega,fun m6 G6 hm6 h6 sg6=>?_⟩;refine ⟨m5,m6,_,_,rfl,rfl,sg6 _ _ h55,h6,by rw [ae,aa]; show _ + 1 + _<=_; omega,fun m7 hm7=>aG ?_⟩;refine ⟨m7,_,_,rfl,(s5.trans sg6).free hm7,hil,(s5.trans sg6).trans (aD hm7 _),?_⟩;rw [ao,cX,hx,<- hA];simp [hearL]
   ·rintro σ G ⟨m,u10,u11,rfl,hm,hi,sg,hG⟩;refine ⟨m,_,_,_,_,_,_,_,_,_,_,rfl,hm,sg,?_⟩;rw [<- paired_len p6,bZ] at hG;rw [hG,step];simp [Mc.lines]
  ·intro hk;refine ⟨_,rfl,⟨aR _,fun l0 hl0=>?_⟩⟩;have s0:=aD hl0 (.lst []);refine ⟨ld,l0,_,rfl,rfl,s0 _ _ (sg2 _ _ h4),ao,_,rfl,?_⟩;have s20:=sg2.trans s0;have hG20:=s0 _ _ hG2;generalize upd G2 l0 (.lst [])=G5 at s20 hG20 |-
   cases hdr:M.dr with
   | nil =>
    refine du (hk G5 ⟨s20,?_⟩);rw [hG20,hdr];simp [drawL]
   | cons n ns =>
    refine cV ?_;rw [hdr] at h4;refine ⟨_,rfl,.inl ⟨rfl,_,SqL.of hG20⟩,rfl,?_⟩;refine pj (K:=K) (xs:=(n :: ns).map V.int) (fun a' H1=>a'=ld/\H1=G5) (fun R hR=>⟨_,rfl,hR ld G5 ⟨rfl,rfl⟩⟩) (fun a' H1 h=>by rw [h.1,h.2]; exact SqL.of (s20 _ _ h4))
     (fun a' H1 i ys G=>G=G5/\ys=(((n :: ns).take i).map shw).map V.str) (fun a' H1 h=>⟨h.2,rfl⟩) ?_ ?_ ?_
    ·rintro a' H1 ⟨rfl,rfl⟩ i ys G hi ⟨rfl,rfl⟩;refine ⟨SqL.of (s20 _ _ h4),?_⟩;rw [aa] at hi;rw [hdr] at ld20;rw [aa,aa,bP];omega
    ·rintro a' H1 ⟨rfl,rfl⟩ i u ys G hu ⟨rfl,rfl⟩;obtain ⟨z,hz,rfl⟩:∃ z,(n :: ns)[i]?=some z/\u=.int z:=by
      rw [cw] at hu;obtain ⟨x,h1,h2⟩:=c8.mp hu;exact ⟨x,h1,h2.symm⟩
     have oz:=ok.dr z (by rw [hdr]; exact bS hz);refine aG ⟨rfl,?_⟩;unfold rT;refine cV ?_;refine ⟨_,rfl,_,rfl,mI oz,rfl,?_⟩;rw [cX,hz,bA,bA];rfl
    ·rintro a' H1 ⟨rfl,rfl⟩ ys G ⟨rfl,rfl⟩ l6' hl6;rw [aa,bZ];have s6:=aD hl6 (.lst (((n :: ns).map shw).map V.str));have ji:=join_ints ok.ld ok.dr;rw [hdr] at ji ld20;have jl:=iX " " ((n :: ns).map shw);refine ⟨_,l6',(n :: ns).map shw,rfl,rfl,.inl (SqL.of ao),by omega,_,_,rfl,rfl,by omega,m,_,_,rfl,rfl,s6 _ _ hG20,?_,?_⟩
     ·rw [aa,ae,ae,ae,aa,aa];show _ + 1 + _ + _ < _;omega
     ·refine hk _ ⟨fv (s20.trans s6) hm,?_⟩;rw [ao,hdr];simp [drawL]
 ·rintro σ G ⟨m,u2,u3,u4,u5,u6,u7,u8,u9,u10,u11,rfl,hm,sg,hG⟩;rw [<- paired_len hMs,bZ] at hG;exact ⟨_,rfl,q m G hm hG sg⟩
end
def Wp (p:aj) (H:Hp):Hp:=fun a=>if a=p then none else H a
theorem wp_some {p a:aj} {H:Hp} {o:HO} (h:H a=some o) (n:a≠p):Wp p H a=some o:=by
 unfold Wp;rw [if_neg n];exact h
theorem wp_of {p a:aj} {H:Hp} {o:HO} (h:Wp p H a=some o):a≠p/\H a=some o:=by
 unfold Wp at h
 by_cases c:a=p
 ·rw [if_pos c] at h
  cases h
 ·rw [if_neg c] at h;exact ⟨c,h⟩
theorem _root_.My.But.wp {p:aj} {H H':Hp} (b:But p H H'):cB (Wp p H) (Wp p H'):=fun a o e=>by
 obtain ⟨n,h⟩:=wp_of e;exact wp_some (b _ _ h n) n
theorem wp_same (p:aj) (H:Hp):cB (Wp p H) H:=fun a o e=>(wp_of e).2
theorem strs_inj:∀ {a b:List Str},a.map V.str=b.map V.str->a=b
 | [],[],_=>rfl
 | [],_ :: _,h=>nomatch h
 | _ :: _,[],h=>nomatch h
 | x :: a,y :: b,h=>by
  obtain ⟨h1,h2⟩:=dv h;rw [strs_inj h2,V.str.inj h1]
theorem cut_take {ss:List Str} {r:Int} (r0:0<=r) (h:r<=ss.length):jZ (ss.map V.str) none (some r)=(ss.take r.toNat).map V.str:=by
 obtain ⟨k,rfl⟩:∃ k:Nat,r=k:=⟨r.toNat,by omega⟩;unfold jZ;rw [HT.sIx_nat,HT.sIx_none,GK,zX,aa,jS (by omega),<- lC,eI]
theorem cut_mid {ss:List Str} {r:Int} (r0:0<=r) (h:6 + r<=ss.length):jZ (ss.map V.str) (some 6) (some (6 + r))=((ss.drop 6).take r.toNat).map V.str:=by
 obtain ⟨k,rfl⟩:∃ k:Nat,r=k:=⟨r.toNat,by omega⟩;unfold jZ;rw [show (some (6:Int))=some ((6:Nat):Int) from rfl,show (some (6 + (k:Int)))=some ((6 + k:Nat):Int) from rfl,HT.sIx_nat,HT.sIx_nat,aa,jS (by omega),jS (by omega),<- yh,<- lC,eI,zB]
theorem comp_listD {K:ai} {n:Nat} {ti:TE} {g:TG} {tc:L2.TT} {te:TE} {σ:St} {H:Hp} {Q:VK} (PP:aj->List V->Hp->Prop) (hi:∀ R:VK,(∀ a xs H1,PP a xs H1->R (.ref a) H1)->ti σ H R) (hx:∀ a xs H1,PP a xs H1->SqL K H1 a xs) (Pv:aj->List V->Hp->Nat->List V->Hp->Prop) (h0:∀ a xs H1,PP a xs H1->Pv a xs H1 0 [] H1)
  (hl:∀ a xs H1,PP a xs H1->∀ i ys G,i<=xs.length->Pv a xs H1 i ys G->SqL K G a xs/\ys.length < ax)
  (hs:∀ a xs H1,PP a xs H1->∀ i x ys G,xs[i]?=some x->Pv a xs H1 i ys G->g x (aJ n none++σ) G fun σ2 H2=>σ2.drop n=σ/\tc σ2 H2 fun b H3=>if b=true then te σ2 H3 fun y H4=>Pv a xs H1 (i + 1) (ys++[y]) H4 else Pv a xs H1 (i + 1) ys H3)
  (hd:∀ a xs H1,PP a xs H1->∀ ys G,Pv a xs H1 xs.length ys G->∀ p,G p=none->Q (.ref p) (upd G p (.lst ys))):nG n (vS K ti) g tc te σ H Q:=
 hi _ fun a xs H1 p=>⟨a,rfl,⟨xs,hx a xs H1 p⟩,qC (Pv a xs H1) (h0 a xs H1 p) (hl a xs H1 p) (hs a xs H1 p) (hd a xs H1 p)⟩
section
variable {P:aS} {w:bN} {K:ai} {mg:Str->Option ag} {base:cI} {f fT fW fN fS:aj} {fd fdT fdW fdN fdS:cf}
seal L2.PS L2.PSs L2.PE L2.PA L2.PT L2.PW L2.PI L2.PG L2.PGs L2.PC
abbrev nMa:List Str:=["_law_purse_here","_law_name","_law_names_here","_law_boxes","_law_queues","_law_draws","_law_hears","_law_sign"]
abbrev pMa:List Str:=["_law_purse_here","_law_name"]
theorem scMa:cH nMa pMa (bf iD):=⟨rfl,rfl,rfl,by decide +kernel,rfl,by decide +kernel,by decide +kernel⟩
theorem ndMa:((["_law_box"]:List Str)++nMa).Nodup:=by decide +kernel
theorem ndMa2:((["_law_k"]:List Str)++nMa).Nodup:=by decide +kernel
inductive spMaI (vs:List V) (H:Hp) (Q:VK) (_e:XK):Prop where
 | mk (p:aj) (nm:Str) (_:vs=[.ref p,.str nm]) (_:ff H p) (_:Nam nm) (_:∀ (v:V) (M:Mc) (H':Hp),MI (Wp p H') M v->McOk M->M.nm=nm->ff H' p->But p H H'->Q v H'):spMaI vs H Q _e
def spMa:Sp:=fun vs H Q _e=>spMaI vs H Q _e
theorem ok_ma (D:Df K mg "_law_machine" iD pMa f fd) (DT:Df K mg "_law_take" fC pT fT fdT) (DW:Df K mg "_law_worth" ia pW fW fdW) (DN:Df K mg "_law_names" jJ pN fN fdN) (DS:Df K mg "_law_deeds" jK pS fS fdS) (GS:cQ P w K mg base CX0 29 fS fdS pS (vo 5)) (B:Bl mg):cQ P w K mg base CX0 30 f fd pMa spMa:=by
 have GT:cQ P w K mg base CX0 1 fT fdT pT oo:=nO DT B;have GW:cQ P w K mg base CX0 2 fW fdW pW xQ:=yV DW DT B;have GN:cQ P w K mg base CX0 2 fN fdN pN vq:=wW DN DT B;refine D.F.ok scMa (fun vs H Q E h=>?_) (fun cdv A outer s H vs Q E r29 h=>?_)
 ·obtain ⟨p,nm,rfl,_⟩:=h;rfl
 obtain ⟨p,nm,rfl,pu,lnm,q⟩:=h;have r1:dE 1 _:=r29.mono (by decide);have r2:dE 2 _:=r29.mono (by decide);refine ⟨_,aH (cq (i:=2) scMa.nd rfl (Or.inl rfl) (bq GN r2 (by rfl) DN.m DN.F.kp DN.b .nil bQ (bI (pv 0) (cS aq ak))))
  (aH (uc (i:=3) ["_law_box"] (gE.open (NN:=nMa) (N:=nMa) (sc:=bf iD) rfl rfl (by decide +kernel) rfl (by decide +kernel) (by decide +kernel) rfl (by decide +kernel)) rfl scMa.nd rfl (Or.inl rfl) (eV (gM nC (pv 2) i7 (ib (bq GT r1 (by rfl) DT.m DT.F.kp DT.b .nil bQ (bI (pv 0) (cS aq ak)))))) (fun _ _ _ _=>cT (i:=0) ndMa rfl (Or.inl rfl)) (fun _ _ _ _=>ic) (fun _ _ _ _=>fz (bI (pv 0) (gT (bq GW r2 (by rfl) DW.m DW.F.kp DW.b .nil bQ (bI (pv 1) ak)) ak))))
  (aH (cq (i:=4) scMa.nd rfl (Or.inl rfl) (gM nC (pv 2) (ib aq) (ib (cb gx aq (bq GT r1 (by rfl) DT.m DT.F.kp DT.b .nil bQ (bI (pv 0) (cS aq ak)))))))
  (aH (uc (i:=5) ["_law_k"] (gE.open (NN:=nMa) (N:=nMa) (sc:=bf iD) rfl rfl (by decide +kernel) rfl (by decide +kernel) (by decide +kernel) rfl (by decide +kernel)) rfl scMa.nd rfl (Or.inl rfl) (lV (by rfl) B.range (eK (bR cU (cZ (cS aq (cS aq (cS aq (cS aq ak))))) (bq GT r1 (by rfl) DT.m DT.F.kp DT.b .nil bQ (bI (pv 0) (cS aq ak))) (fun _ _=>rfl)) ak)) (fun _ _ _ _=>cT (i:=0) ndMa2 rfl (Or.inl rfl)) (fun _ _ _ _=>ic) (fun _ _ _ _=>cY yr (by rfl) B.abs boot_abs (gT (bq GW r2 (by rfl) DW.m DW.F.kp DW.b .nil bQ (bI (pv 1) ak)) ak)))
  (aH (cq (i:=6) scMa.nd rfl (Or.inl rfl) (cZ ak))
  (aH (jt cN rfl (eV (bq GN r2 (by rfl) DN.m DN.F.kp DN.b .nil bQ (bI (pv 0) (gT (bq GT r1 (by rfl) DT.m DT.F.kp DT.b .nil bQ (bI (pv 0) (cS aq ak))) ak)))) (cT (i:=7) scMa.nd rfl (Or.inl rfl)) (aI (dI (d9 aP bh bj dR (pv 6) (vc (fz (bI (pv 7) (gT (bq GS r29 (by rfl) DS.m DS.F.kp DS.b .nil bQ (bI (pv 0) (bI (pv 2) (xO (cZ (cS aq ak)) (cS aq ak))))) ak))) ak) (hs:=vb)))))
  (aI (bE (fz (bI (pv 1) (bI (pv 3) (bI (pv 4) (bI (pv 5) (bI (pv 6) ak))))))))))))),?_⟩
 have big:10000 < ax:=by decide
 refine aB (bT ⟨_,rfl,p,9,rfl,pu,by decide,by decide,fun ln ss G1 hln h1 lss ss6 snd pu1 b1=>aG ?_⟩);dsimp only;have ss9:ss.length=9:=by omega
 have nlp:ln≠p:=om pu hln
 -- the boxes
 refine aB (bT (comp_listD (K:=K) (fun a' xs G=>∃ qs:List Str,xs=qs.map V.str/\(∃ r:Nat,r<=6/\qs=ss.take r)/\G a'=some (.lst xs)/\a'≠p/\ff G p/\But p G1 G)
  (fun R hR=>⟨_,rfl,_,rfl,p,7,rfl,pu1,by decide,by decide,fun r G r0 r1 puG bG=>⟨r,rfl,ln,_,rfl,SqL.of (bG _ _ h1 nlp),fun l2 hl2=>?_⟩⟩) (fun a' xs G h=>by obtain ⟨qs,_,_,h,_⟩:=h; exact SqL.of h)
  (fun a' xs H1 i ys G=>∃ bx:List (Str×Int),cK (BxI (Wp p G)) bx ys/\bx.length=i/\(∀ q∈bx,Wo q.2)/\(∀ qs:List Str,xs=qs.map V.str->bx.map (·.1)=qs.take i)/\ff G p/\But p H1 G) ?_ ?_ ?_ ?_))
 ·have s2:=aD hl2 (.lst (jZ (ss.map V.str) none (some r)));exact hR l2 _ _ ⟨_,cut_take r0 (by omega),⟨r.toNat,by omega,rfl⟩,ao,om puG hl2,puG.same s2,bG.same s2⟩
 ·rintro a' xs G2 ⟨qs,rfl,hq,ha,np,pu2,b2⟩;exact ⟨[],.nil,rfl,(fun q hq=>by cases hq),fun _ _=>rfl,pu2,But.refl _ _⟩
 ·rintro a' xs G2 ⟨qs,rfl,⟨rr,r6,rfl⟩,ha,np,pu2,b2⟩ i ys G hi ⟨bx,pb,lb,ob,hbx,puG,bG⟩;refine ⟨SqL.of (bG _ _ ha np),?_⟩;have:=paired_len pb;rw [aa,bP] at hi;omega
 ·rintro a' xs G2 ⟨qs,rfl,hq,ha,np,pu2,b2⟩ i u ys G hu ⟨bx,pb,lb,ob,hbx,puG,bG⟩;obtain ⟨x,hx,rfl⟩:∃ x,qs[i]?=some x/\u=.str x:=by
   rw [cw] at hu;obtain ⟨x,h1,h2⟩:=c8.mp hu;exact ⟨x,h1,h2.symm⟩
  refine aG ⟨rfl,?_⟩;unfold rT;refine cV ?_;refine ⟨_,rfl,_,rfl,p,rfl,puG,fun z G3 z1 z2 pu3 b3=>⟨by show 2<=ax; omega,fun t ht=>?_⟩⟩;have st:=aD ht (.tup [V.str x,V.int z]);refine ⟨bx++[(x,z)],psnoc (paired_imp pb fun _ _ h=>h.same (b3.same st).wp) ⟨t,rfl,wp_some ao (om pu3 ht)⟩,by rw [ae,lb]; rfl,fun y hy=>?_,fun qs' e=>?_,pu3.same st,(bG.trans b3).same st⟩
  rcases aU.mp hy with hy | hy
  ·exact ob y hy
  ·rw [az.mp hy];exact ⟨z1,z2⟩
  ·have e2:qs=qs':=strs_inj e;subst e2;rw [cX,hx,bA,hbx qs rfl];rfl
 rintro a' xs G2 ⟨qs0,rfl,⟨rr,r6,rfl⟩,ha,np,pu2,b2⟩ ys G3 ⟨bx,pb,lbx,ob,hbx,pu3,b3⟩ lb hlb;have hbx:=hbx _ rfl;rw [aa] at lbx hbx;rw [bZ] at hbx;rw [bP] at lbx;refine aG ?_;dsimp only;have sb:=aD hlb (.lst ys);have nb:=om pu3 hlb;have hb4:upd G3 lb (.lst ys) lb=some (.lst ys):=ao;have b04:But p H (upd G3 lb (.lst ys)):=((b1.trans b2).trans b3).same sb;have h14:upd G3 lb (.lst ys) ln=_:=sb _ _ (b3 _ _ (b2 _ _ h1 nlp) nlp);have pu4:=pu3.same sb;have pb4:cK (BxI (Wp p (upd G3 lb (.lst ys)))) bx ys:=paired_imp pb fun _ _ h=>h.same ((But.refl p G3).same sb).wp;generalize upd G3 lb (.lst ys)=G4 at hb4 b04 h14 pu4 pb4 |-
 -- the queues
 refine aB (bT ⟨_,rfl,_,rfl,_,rfl,p,4,rfl,pu4,by decide,by decide,fun r5 G5 r50 r51 pu5 b5=>⟨_,_,rfl,rfl,_,rfl,ln,_,rfl,SqL.of (b5 _ _ h14 nlp),fun lq hlq=>aG ?_⟩⟩);dsimp only;rw [cut_mid r50 (by omega)];obtain ⟨qs,hqs⟩:∃ qs,qs=(ss.drop 6).take r5.toNat:=⟨_,rfl⟩;rw [<- hqs];have sq:=aD hlq (.lst (qs.map V.str));have nq:=om pu5 hlq;have hq6:upd G5 lq (.lst (qs.map V.str)) lq=some (.lst (qs.map V.str)):=ao;have b46:But p G4 (upd G5 lq (.lst (qs.map V.str))):=b5.same sq;have pu6:=pu5.same sq;generalize upd G5 lq (.lst (qs.map V.str))=G6 at hq6 b46 pu6 |-
 -- the draws
 refine aB (bT (wC (fun m G=>m<=20/\ff G p/\But p G6 G) (fun R hR=>⟨by show 4<=ax; omega,fun l7 hl7=>?_⟩) (fun m G h=>by omega) (fun m G7 i ys G=>∃ ns:List Int,ys=ns.map V.int/\ns.length=i/\(∀ x∈ns,Wo x/\0<=x)/\ff G p/\But p G7 G) ?_ ?_ ?_ ?_))
 ·have s7:=aD hl7 (.lst [V.int 0,V.int 1,V.int 3,V.int 20]);refine ⟨_,rfl,p,4,rfl,pu6.same s7,by decide,by decide,fun r8 G8 r80 r81 pu8 b8=>?_⟩;obtain ⟨c,hc,c20⟩:∃ c:Nat,atI [V.int 0,V.int 1,V.int 3,V.int 20] r8=some (.int c)/\c<=20:=by
   have:r8=0\/r8=1\/r8=2\/r8=3:=by omega
   rcases this with rfl | rfl | rfl | rfl
   ·exact ⟨0,rfl,by decide⟩
   ·exact ⟨1,rfl,by decide⟩
   ·exact ⟨3,rfl,by decide⟩
   ·exact ⟨20,rfl,by decide⟩
  exact ⟨l7,_,_,_,rfl,rfl,SqL.of (b8 _ _ ao (om pu6 hl7)),hc,hR c G8 ⟨c20,pu8,fun b o e n=>b8 _ _ (s7 _ _ e) n⟩⟩
 ·rintro m G7 ⟨_,pu7,b7⟩;exact ⟨[],rfl,rfl,(fun x hx=>by cases hx),pu7,But.refl _ _⟩
 ·rintro m G7 ⟨_,pu7,b7⟩ i ys G hi ⟨ns,rfl,ln2,_⟩;rw [aa];omega
 ·rintro m G7 ⟨_,pu7,b7⟩ i ys G hi ⟨ns,rfl,ln2,wn,puG,bG⟩;refine aG ⟨rfl,?_⟩;unfold rT;refine cV ?_;refine ⟨_,rfl,p,rfl,puG,fun z G8 z1 z2 pu8 b8=>⟨_,rfl,ns++[if z < 0 then -z else z],by rw [bA]; rfl,by rw [ae,ln2]; rfl,fun x hx=>?_,pu8,bG.trans b8⟩⟩
  rcases aU.mp hx with hx | hx
  ·exact wn x hx
  ·rw [az.mp hx];unfold Wo
   split <;> exact ⟨by omega,by omega⟩
 rintro m G7 ⟨m20,pu7,b67⟩ ys' G8 ⟨ns,rfl,lns,wns,pu8,b78⟩ ld hld;refine aG ?_;dsimp only;have sd:=aD hld (.lst (ns.map V.int));have nd:=om pu8 hld;have hd9:upd G8 ld (.lst (ns.map V.int)) ld=some (.lst (ns.map V.int)):=ao;have b69:But p G6 (upd G8 ld (.lst (ns.map V.int))):=(b67.trans b78).same sd;have pu9:=pu8.same sd;generalize upd G8 ld (.lst (ns.map V.int))=G9 at hd9 b69 pu9 |-;have b49:=b46.trans b69;have b09:=b04.trans b49
 -- the hears
 refine aB (bT ⟨aR _,fun h hh=>aG ?_⟩);dsimp only;have sh:=aD hh (.lst []);have nh:=om pu9 hh;have hh10:upd G9 h (.lst []) h=some (.lst []):=ao;have pu10:=pu9.same sh;have hfree:∀ a,upd G9 h (.lst []) a=none->G9 a=none:=fun a e=>by
  cases e2:G9 a with
  | none=>rfl
  | some o=>rw [sh _ _ e2] at e; cases e
 generalize upd G9 h (.lst [])=G10 at sh hh10 pu10 hfree |-;refine aB ⟨_,rfl,_,rfl,p,5,rfl,pu10,by decide,by decide,fun r11 G11 r110 r111 pu11 b11=>⟨p,r11,rfl,pu11,r110,by omega,fun l12 ss2 G12 hl12 h12 ls12 ss26 snd2 pu12 b12=>⟨l12,rfl,⟨_,SqL.of h12⟩,?_⟩⟩⟩;have h1212:G12 h=some (.lst []):=b12 _ _ (b11 _ _ hh10 nh) nh;have k12:∀ a o,G9 a=some o->a≠p->G12 a=some o:=fun a o e n=>b12 _ _ (b11 _ _ (sh _ _ e) n) n;have n9:∀ a o,G9 a=some o->a≠h:=fun a o e=>bw e hh;have nl12:l12≠h:=(bw (b11 _ _ hh10 nh) hl12).symm;have np12:l12≠p:=om pu11 hl12;have ln9:=b49 _ _ h14 nlp;refine gW (xs:=ss2.map V.str) (fun i σ G=>∃ (hr:List (Str×List Rw)) (hs:List V) (u7:Option V),σ=[some (.ref p),some (.str nm),some (.ref ln),some (.ref lb),some (.ref lq),some (.ref ld),some (.ref h),u7]/\i<=ss2.length/\G h=some (.lst hs)/\cK (HrI (Wp h (Wp p G))) hr hs/\hr.length=i/\(∀ x∈hr,rowsC x.2<=20)/\hr.map (·.1)=ss2.take i/\ff G p/\Bt2 p h G12 G)
  ⟨[],[],none,rfl,aR _,h1212,.nil,rfl,(fun x hx=>by cases hx),rfl,pu12,fun b o e _ _=>e⟩ ?_ ?_ ?_
 ·rintro i σ G hi ⟨hr,hs,u7,rfl,_,hG,_,_,_,_,puG,bG⟩;exact SqL.of (bG _ _ h12 np12 nl12)
 ·rintro i u σ G hu ⟨hr,hs,u7,rfl,hi,hG,pH,lhr,oh,hhr,puG,bG⟩;obtain ⟨x,hx,rfl⟩:∃ x,ss2[i]?=some x/\u=.str x:=by
   rw [cw] at hu;obtain ⟨x,h1,h2⟩:=c8.mp hu;exact ⟨x,h1,h2.symm⟩
  have hil:i < ss2.length:=(aQ.mp hx).1;have lhs:=paired_len pH;refine aG ?_;dsimp only;refine ⟨_,rfl,.inl ⟨rfl,_,SqL.of hG⟩,_,rfl,_,rfl,_,rfl,⟨by show 1<=ax; omega,fun qq hqq=>?_⟩⟩;have sq':=aD hqq (.lst [V.int 20]);have hGk:=sq' _ _ hG;have puk:=puG.same sq';have hqk:upd G qq (.lst [V.int 20]) qq=some (.lst [V.int 20]):=ao;have lnk:upd G qq (.lst [V.int 20]) ln=_:=sq' _ _ (bG _ _ (k12 _ _ ln9 nlp) nlp (n9 _ _ ln9));generalize upd G qq (.lst [V.int 20])=Gk at sq' hGk puk hqk lnk |-;have twk:Two Gk p qq 20:=⟨puk,hqk⟩;have nhq:h≠qq:=bw hG hqq;refine ⟨p,ln,qq,1,20,rfl,twk,⟨ss,lnk,by omega,by omega,ss6⟩,by decide,by decide,by decide,fun m vs rs G' z' hm hm' ow tw' hz hz0 b'=>⟨by show 2<=ax; omega,fun t ht=>?_⟩⟩;have hG':=b' _ _ hGk nh nhq;have nth:t≠h:=(bw hG' ht).symm;have ntp:t≠p:=om tw'.pu ht;have st:=aD ht (.tup [V.str x,V.ref m]);have htt:upd G' t (.tup [V.str x,V.ref m]) t=some (.tup [V.str x,V.ref m]):=ao;have hGt:=st _ _ hG';have put:=tw'.pu.same st;generalize upd G' t (.tup [V.str x,V.ref m])=Gt at st htt hGt put |-;refine ⟨h,hs,_,rfl,rfl,hGt,by omega,?_⟩;have up:∀ a o,Gt a=some o->a≠p->a≠h->Wp h (Wp p (upd Gt h (.lst (hs++[V.ref t])))) a=some o:=fun a o e n1 n2=>wp_some (wp_some (by rw [aX n2]; exact e) n1) n2;have smW:cB (Wp h (Wp p G)) (Wp h (Wp p (upd Gt h (.lst (hs++[V.ref t]))))):=fun a o e=>by
   obtain ⟨n2,e⟩:=wp_of e;obtain ⟨n1,e⟩:=wp_of e;exact up _ _ (st _ _ (b' _ _ (sq' _ _ e) n1 (bw e hqq))) n1 n2
  refine ⟨hr++[(x,rs)],hs++[.ref t],_,rfl,hil,ao,psnoc (paired_imp pH fun _ _ hh=>hh.same smW) ⟨t,m,vs,rfl,up _ _ htt ntp nth,?_,?_⟩,by rw [ae,lhr]; rfl,fun y hy=>?_,by rw [cX,hx,bA,hhr]; rfl,sV put nh,fun b o e n1 n2=>?_⟩
  ·exact up _ _ (st _ _ hm') (om puk hm) ((bw hGk hm).symm)
  ·refine ow _ (fun a xs e=>?_) (fun a xs ha e=>?_)
   ·refine up _ _ (st _ _ e) (fun w=>?_) (fun w=>?_)
    ·obtain ⟨x1,y1,e1⟩:=tw'.pu;rw [<- w,e] at e1
     cases e1
    ·rw [w,hG'] at e
     cases e
   ·exact up _ _ (st _ _ e) (om puk ha) ((bw hGk ha).symm)
  ·rcases aU.mp hy with hy | hy
   ·exact oh y hy
   ·rw [az.mp hy];show rowsC rs<=20;omega
  ·rw [aX n2];have e1:=bG _ _ e n1 n2;exact st _ _ (b' _ _ (sq' _ _ e1) n1 (bw e1 hqq))
 ·rintro σ G ⟨hr,hs,u7,rfl,hi,hG,pH,lhr,oh,hhr,puG,bG⟩;have k9:∀ a o,G9 a=some o->a≠p->G a=some o:=fun a o e n=>bG _ _ (k12 _ _ e n) n (n9 _ _ e);have b4G:But p G4 G:=fun a o e n=>k9 _ _ (b49 _ _ e n) n;have b0G:But p H G:=b04.trans b4G;refine ⟨_,rfl,_,rfl,_,rfl,_,rfl,_,rfl,⟨by show 5<=ax; omega,fun t ht=>?_⟩⟩;have st:=aD ht (.tup [V.str nm,V.ref lb,V.ref lq,V.ref ld,V.ref h]);have up:∀ a o,G a=some o->a≠p->Wp p (upd G t (.tup [V.str nm,V.ref lb,V.ref lq,V.ref ld,V.ref h])) a=some o:=fun a o e n=>wp_some (st _ _ e) n;have sG:cB (Wp p G) (Wp p (upd G t (.tup [V.str nm,V.ref lb,V.ref lq,V.ref ld,V.ref h]))):=fun a o e=>up _ _ (wp_of e).2 (wp_of e).1;refine q (.ref t) ⟨nm,bx,qs,ns,hr⟩ _ ⟨t,lb,lq,ld,h,ys,hs,rfl,wp_some ao (om puG ht),up _ _ (b4G _ _ hb4 nb) nb,?_,up _ _ (k9 _ _ (b69 _ _ hq6 nq) nq) nq,up _ _ (k9 _ _ hd9 nd) nd,up _ _ hG nh,?_⟩ ?_ rfl (puG.same st) (b0G.same st)
  ·exact paired_imp pb4 fun _ _ hh=>(hh.same b4G.wp).same sG
  ·exact paired_imp pH fun _ _ hh=>(hh.same (wp_same h _)).same sG
  ·rw [aa] at lhr;rw [aa,bZ] at hhr;have lqs:qs.length<=3:=by rw [hqs,bP]; omega
   have nB:∀ b∈bx,Nam b.1:=fun b m=>ss6 _ (dC (hbx ▸ jA (f:=fun q:Str×Int=>q.1) m));have nQ:∀ x∈qs,Nam x:=fun x m=>ss6 x (lF (dC (hqs ▸ m)));have nH:∀ x∈hr,Nam x.1:=fun b m=>ss26 _ (hhr ▸ jA (f:=fun q:Str×List Rw=>q.1) m);have nd1:(bx.map (·.1)++qs).Nodup:=by
    rw [hbx,hqs];refine e9 ?_ snd
    conv=>rhs; rw [<- iO 6 ss]
    refine vP ?_ (iS ..);have e:ss.take rr=(ss.take 6).take rr:=by rw [List.take_take,jS r6]
    rw [e];exact iS ..
   have nd2:(hr.map (·.1)).Nodup:=by rw [hhr]; exact snd2
   exact ⟨⟨lnm,by show bx.length<=6; omega,lqs,by show hr.length<=4; omega,nB,nQ,fun z m=>(wns z m).2,nH,nd1,nd2⟩,lnm.2.1,by show bx.length<=9; omega,fun b m=>⟨(nB b m).2.1,ob b m⟩,by show qs.length<=9; omega,fun x hx=>(nQ x hx).2.1,by show ns.length<=20; omega,fun z m=>(wns z m).1,by show hr.length<=9; omega,fun h m=>⟨(nH h m).2.1,oh h m⟩⟩
end
section
variable {P:aS} {w:bN} {K:ai} {mg:Str->Option ag} {base:cI} {f fT fN fM fP fMs fMt fLl:aj} {fd fdT fdN fdM fdP fdMs fdMt fdLl:cf}
seal L2.PS L2.PSs L2.PE L2.PA L2.PT L2.PW L2.PI L2.PG L2.PGs L2.PC
abbrev nMs:List Str:=["_law_purse_here"]
abbrev pMs:List Str:=["_law_purse_here"]
theorem scMs:cH nMs pMs (bf iW):=⟨rfl,rfl,rfl,by decide +kernel,rfl,by decide +kernel,by decide +kernel⟩
theorem ndMs:((["_law_name"]:List Str)++nMs).Nodup:=by decide +kernel
inductive spMsI (vs:List V) (H:Hp) (Q:VK) (_e:XK):Prop where
 | mk (p:aj) (_:vs=[.ref p]) (_:ff H p) (_:∀ (l:aj) (ms:List V) (Ms:List Mc) (H':Hp),H' l=some (.lst ms)->MsIn H' Ms ms->Ms.length<=6->(Ms.map (·.nm)).Nodup->ff H' p->Q (.ref l) H'):spMsI vs H Q _e
def spMs:Sp:=fun vs H Q _e=>spMsI vs H Q _e
theorem ok_ms (D:Df K mg "_law_machines" iW pMs f fd) (DT:Df K mg "_law_take" fC pT fT fdT) (DN:Df K mg "_law_names" jJ pN fN fdN) (DM:Df K mg "_law_machine" iD pMa fM fdM) (GM:cQ P w K mg base CX0 30 fM fdM pMa spMa) (B:Bl mg):cQ P w K mg base CX0 31 f fd pMs spMs:=by
 have GT:cQ P w K mg base CX0 1 fT fdT pT oo:=nO DT B;have GN:cQ P w K mg base CX0 2 fN fdN pN vq:=wW DN DT B;refine D.F.ok scMs (fun vs H Q E h=>?_) (fun cdv A outer s H vs Q E r30 h=>?_)
 ·obtain ⟨p,rfl,_⟩:=h;rfl
 obtain ⟨p,rfl,pu,q⟩:=h;have r1:dE 1 _:=r30.mono (by decide);have r2:dE 2 _:=r30.mono (by decide);refine ⟨_,aI (bE (kE ["_law_name"] (gE.open (NN:=nMs) (N:=nMs) (sc:=bf iW) rfl rfl (by decide +kernel) rfl (by decide +kernel) (by decide +kernel) rfl (by decide +kernel)) rfl (eV (bq GN r2 (by rfl) DN.m DN.F.kp DN.b .nil bQ (bI (pv 0) (g9 (cb gx aq (bq GT r1 (by rfl) DT.m DT.F.kp DT.b .nil bQ (bI (pv 0) (cS aq ak)))) ak)))) (fun _ _ _ _=>cT (i:=0) ndMs rfl (Or.inl rfl)) (fun _ _ _ _=>ic) (fun _ _ _ _=>bq GM r30 (by rfl) DM.m DM.F.kp DM.b .nil bQ (bI (pv 1) (bI (pv 0) ak))))),?_⟩;have big:10000 < ax:=by decide
 refine comp_listD (K:=K) (fun a' xs G=>∃ ss:List Str,xs=ss.map V.str/\(∀ x∈ss,Nam x)/\ss.Nodup/\ss.length<=6/\G a'=some (.lst xs)/\a'≠p/\ff G p)
  (fun R hR=>⟨_,rfl,_,rfl,p,6,rfl,pu,by decide,by decide,fun r G r0 r1 puG bG=>⟨_,_,rfl,rfl,p,1 + r,rfl,puG,by omega,by omega,fun l ss G1 hl h1 ls ss6 snd pu1 b1=>hR l _ G1 ⟨ss,rfl,ss6,snd,by omega,h1,om puG hl,pu1⟩⟩⟩) (fun a' xs G h=>by obtain ⟨qs,_,_,_,_,h,_⟩:=h; exact SqL.of h)
  (fun a' xs H1 i ys G=>∃ Ms:List Mc,cK (fun M v=>MI (Wp p G) M v/\McOk M) Ms ys/\Ms.length=i/\(∀ qs:List Str,xs=qs.map V.str->Ms.map (·.nm)=qs.take i)/\ff G p/\But p H1 G) ?_ ?_ ?_ ?_
 ·rintro a' xs G2 ⟨ss,rfl,ss6,snd,ls,ha,np,pu2⟩;exact ⟨[],.nil,rfl,fun _ _=>rfl,pu2,But.refl _ _⟩
 ·rintro a' xs G2 ⟨ss,rfl,ss6,snd,ls,ha,np,pu2⟩ i ys G hi ⟨Ms,pM,lM,hnm,puG,bG⟩;refine ⟨SqL.of (bG _ _ ha np),?_⟩;have:=paired_len pM;rw [aa] at hi;omega
 ·rintro a' xs G2 ⟨ss,rfl,ss6,snd,ls,ha,np,pu2⟩ i u ys G hu ⟨Ms,pM,lM,hnm,puG,bG⟩;obtain ⟨x,hx,rfl⟩:∃ x,ss[i]?=some x/\u=.str x:=by
   rw [cw] at hu;obtain ⟨x,h1,h2⟩:=c8.mp hu;exact ⟨x,h1,h2.symm⟩
  refine aG ⟨rfl,?_⟩;unfold rT;refine cV ?_;refine ⟨_,rfl,_,rfl,p,x,rfl,puG,ss6 x (bS hx),fun v M G3 hM ok en pu3 b3=>?_⟩;exact ⟨Ms++[M],psnoc (paired_imp pM fun _ _ h=>⟨h.1.same b3.wp,h.2⟩) ⟨hM,ok⟩,by rw [ae,lM]; rfl,fun qs e=>(by
   have e2:=strs_inj e;subst e2;rw [cX,hx,bA,hnm ss rfl,<- en];rfl),pu3,bG.trans b3⟩
 ·rintro a' xs G2 ⟨ss,rfl,ss6,snd,ls,ha,np,pu2⟩ ys G ⟨Ms,pM,lM,hnm,puG,bG⟩ l hl;rw [aa] at lM;have sl:=aD hl (.lst ys);exact q l ys Ms _ ao (paired_imp pM fun _ _ h=>⟨(h.1.same (wp_same p G)).same sl,h.2⟩) (by omega) (by
   have e:=hnm ss rfl;rw [aa,bZ] at e;rw [e];exact snd) (puG.same sl)
end
theorem blanks_succ (e:Nat):cu e++("  ":Str)=cu (e + 1):=by
 apply kz;apply hV.mp;rw [dX,eR,eR,show ("  ":Str).cps.toList=aJ 2 32 by decide,t7];rfl
theorem jn_c {x:Str} {ws:List Str} (ne:ws≠[]):jn (x :: ws)=x++" "++jn ws:=by
 cases ws with
 | nil=>exact absurd rfl ne
 | cons w ws=>exact cR ..
theorem jn_1 (x:Str):jn [x]=x:=rfl
theorem jn_a {a b:List Str} (ha:a≠[]) (hb:b≠[]):jn (a++b)=jn a++" "++jn b:=qt " " ha hb
theorem put3 {k:Str} (h:k="put"\/k="push"\/k="draw"):k∈[("put":Str),"push","draw"]:=by
 simp only [au,kW,or_false];exact h
theorem LfD.de {H:Hp} {v:V} {s:Str} (h:LfD H v s) (n:Nat):∃ d:De,DeF H (n + 1) d v []/\OkD (n + 1) d/\oR (n + 1) d=1/\∀ e,lsD (n + 1) e d=[cu e++s]:=by
 cases h with
 | fin a=>exact ⟨.fin,⟨⟨_,rfl,a⟩,rfl⟩,trivial,rfl,fun e=>rfl⟩
 | @three t k x v s a hk hx hf =>
  obtain ⟨f,i,o,l,rfl⟩:=hf.fo;refine ⟨.three k x f,⟨⟨_,_,rfl,a,i⟩,rfl⟩,⟨put3 hk,hx,o,l⟩,rfl,fun e=>?_⟩;show [cu e++jn (k :: x :: f.ws)]=[cu e++bB " " [k,x,bB " " f.ws]];rw [jn_c (by simp),jn_c f.ws_ne,cR];rfl
 | @send t z x v1 y v2 v3 s1 s2 s3 a hz hy hx f1 f2 f3 =>
  obtain ⟨g1,i1,o1,l1,rfl⟩:=f1.fo;obtain ⟨g2,i2,o2,l2,rfl⟩:=f2.fo;obtain ⟨g3,i3,o3,l3,rfl⟩:=f3.fo;refine ⟨.send z x g1 y g2 g3,⟨⟨_,_,_,_,rfl,a,i1,i2,i3⟩,rfl⟩,⟨hz,hy,hx,⟨o1,l1⟩,⟨o2,l2⟩,⟨o3,l3⟩⟩,rfl,fun e=>?_⟩;have n23:g2.ws++g3.ws≠[]:=by simp [g2.ws_ne]
  have n123:g1.ws++(g2.ws++g3.ws)≠[]:=by simp [g1.ws_ne]
  show [cu e++jn ("send" :: nt z :: x :: nt y :: (g1.ws++(g2.ws++g3.ws)))]=[cu e++bB " " ["send",nt z,x,nt y,jn g1.ws,jn g2.ws,jn g3.ws]];rw [jn_c (by simp),jn_c (by simp),jn_c (by simp),jn_c n123,jn_a g1.ws_ne n23,jn_a g2.ws_ne g3.ws_ne,cR,cR,cR,cR,cR,cR];rfl
theorem DeF.up1 {H:Hp}:∀ {n:Nat} {d:De} {v:V} {fp:List aj},DeF H n d v fp->DeF H (n + 1) d v fp
 | 0,_,_,_,h=>h.elim
 | n + 1,d,v,fp,h=>by
  cases d with
  | pull x y ds =>
   obtain ⟨t,l,vs,as,rfl,e1,e2,e3,rfl⟩:=h;exact ⟨t,l,vs,as,rfl,e1,e2,e3.mono fun _ _ _ _ i=>DeF.up1 i,rfl⟩
  | iff f as bs =>
   obtain ⟨t,l1,l2,u,v1,v2,a1,a2,rfl,e1,ef,e2,e3,e4,e5,rfl⟩:=h;exact ⟨t,l1,l2,u,v1,v2,a1,a2,rfl,e1,ef,e2,e3.mono fun _ _ _ _ i=>DeF.up1 i,e4,e5.mono fun _ _ _ _ i=>DeF.up1 i,rfl⟩
  | fin=>exact h
  | three a b f=>exact h
  | send z x f1 y f2 f3=>exact h
def AsDs (H:Hp) (n:Nat) (rs:List Rw) (vs:List V):Prop:=∃ (ds:List De) (fp:List aj),Prs (DeF H n) ds vs fp/\(∀ d∈ds,OkD n d)/\CnD n ds=rowsC rs/\∀ e,LsD n e ds=rowsL rs (cu e)
theorem DI.de {H:Hp}:∀ {n:Nat} {v:V} {r:Rw},DI H n v r->∃ (d:De) (fp:List aj),DeF H n d v fp/\OkD n d/\oR n d=r.1/\∀ e,lsD n e d=r.2 (cu e)
 | n + 1,v,r,h=>by
  have sub:∀ (rs:List Rw) (vs:List V),cK (fun r v=>DI H n v r) rs vs->AsDs H n rs vs:=fun rs vs h=>by
   induction h with
   | nil=>exact ⟨[],[],.nil,(fun d m=>by cases m),rfl,fun e=>rfl⟩
   | cons a _ ih =>
    obtain ⟨d,fp,h1,h2,h3,h4⟩:=DI.de a;obtain ⟨ds,fq,k1,k2,k3,k4⟩:=ih;refine ⟨d :: ds,fp++fq,.cons h1 k1,fun x m=>?_,?_,fun e=>?_⟩
    ·rcases au.mp m with rfl | m
     ·exact h2
     ·exact k2 x m
    ·rw [jy,h3,k3];rfl
    ·rw [hU,h4,k4];rfl
  rcases h with ⟨s,hs,rfl⟩ | ⟨t,l,x,y,vs,rs,n0,rfl,a,lx,ly,hl,hp,rfl⟩ | ⟨t,l1,l2,f,s,vs1,vs2,rs1,rs2,n0,rfl,a,hf,h1,h2,p1,p2,rfl⟩
  ·obtain ⟨d,h1,h2,h3,h4⟩:=hs.de n;exact ⟨d,[],h1,h2,h3,h4⟩
  ·obtain ⟨ds,fp,k1,k2,k3,k4⟩:=sub rs vs hp;refine ⟨.pull x y ds,_,⟨t,l,vs,fp,rfl,a,hl,k1,rfl⟩,⟨lx,ly,k2,n0⟩,?_,fun e=>?_⟩
   ·show 1 + CnD n ds=1 + rowsC rs;rw [k3]
   ·show ln e ["pull",x,y] :: LsD n (e + 1) ds=(cu e++bB " " ["pull",x,y]) :: rowsL rs (cu e++"  ");rw [k4,blanks_succ];rfl
  ·obtain ⟨ds1,fp1,k1,k2,k3,k4⟩:=sub rs1 vs1 p1;obtain ⟨ds2,fp2,q1,q2,q3,q4⟩:=sub rs2 vs2 p2;obtain ⟨g,i,o,lg,rfl⟩:=hf.fo;refine ⟨.iff g ds1 ds2,_,⟨t,l1,l2,f,vs1,vs2,fp1,fp2,rfl,a,i,h1,k1,h2,q1,rfl⟩,⟨⟨o,lg⟩,k2,q2,n0⟩,?_,fun e=>?_⟩
   ·show 1 + (CnD n ds1 + CnD n ds2)=1 + rowsC rs1 + rowsC rs2;rw [k3,q3];omega
   ·show ln e ("if" :: g.ws) :: (LsD n (e + 1) ds1++ln e ["else"] :: LsD n (e + 1) ds2)=(cu e++(("if ":Str)++jn g.ws)) :: (rowsL rs1 (cu e++"  ")++(cu e++"else") :: rowsL rs2 (cu e++"  "));have e1:ln e ("if" :: g.ws)=cu e++(("if ":Str)++jn g.ws):=by
     unfold ln;rw [jn_c g.ws_ne,show ("if ":Str)="if"++" " by decide]
    rw [k4,q4,blanks_succ,e1];rfl
theorem ds_len {n:Nat}:∀ {ds:List De},(∀ d∈ds,OkD n d)->ds.length<=CnD n ds
 | [],_=>aR _
 | d :: ds,h=>by
  obtain ⟨_,_,_,c1⟩:=kN (e:=0) (h d aw);have:=ds_len fun x m=>h x (ar _ m);rw [jy,aE];omega
theorem rows_ds {H:Hp} {n:Nat} {rs:List Rw} {vs:List V} (h:cK (fun r v=>DI H n v r) rs vs):AsDs H n rs vs:=by
 induction h with
 | nil=>exact ⟨[],[],.nil,(fun d m=>by cases m),rfl,fun e=>rfl⟩
 | cons a _ ih =>
  obtain ⟨d,fp,h1,h2,h3,h4⟩:=DI.de a;obtain ⟨ds,fq,k1,k2,k3,k4⟩:=ih;refine ⟨d :: ds,fp++fq,.cons h1 k1,fun x m=>?_,?_,fun e=>?_⟩
  ·rcases au.mp m with rfl | m
   ·exact h2
   ·exact k2 x m
  ·rw [jy,h3,k3];rfl
  ·rw [hU,h4,k4];rfl
theorem w_machine (x:Str):("machine ":Str)++x=ln 0 ["machine",x]:=by
 unfold ln;rw [jn_c (by simp),jn_1,<- iE,show cu 0++(("machine":Str)++" ")="machine " by decide]
theorem w_box (b:Str×Int):boxL b=ln 1 ["box",b.1,nt b.2]:=by
 unfold ln boxL;rw [jn_c (by simp),jn_c (by simp),jn_1,<- iE,<- iE,show cu 1++(("box":Str)++" ")="  box " by decide];simp only [iE]
theorem w_queue (x:Str):queL x=ln 1 ["queue",x]:=by
 unfold ln queL;rw [jn_c (by simp),jn_1,<- iE,show cu 1++(("queue":Str)++" ")="  queue " by decide]
theorem w_on (x:Str):("  on ":Str)++x=ln 1 ["on",x]:=by
 unfold ln;rw [jn_c (by simp),jn_1,<- iE,show cu 1++(("on":Str)++" ")="  on " by decide]
theorem w_draws (zs:List Int):drawL zs=drL zs:=by
 unfold drawL drL
 cases zs with
 | nil=>rfl
 | cons z zs =>
  rw [if_neg (by simp),if_neg (by simp)];unfold ln;rw [jn_c (by simp),<- iE,show cu 1++(("draws":Str)++" ")="  draws " by decide];rfl
def AsHs (H:Hp) (hr:List (Str×List Rw)) (hs:List V):Prop:=∃ (xs:List (Str×List De)) (fp:List aj),Prs (HrF H) xs hs fp/\xs.map (·.1)=hr.map (·.1)/\(∀ x∈xs,(∀ d∈x.2,OkD 5 d)/\CnD 5 x.2<=20)/\(xs.map lsH).flatten=hr.flatMap hearL
theorem hears_ds {H:Hp} {hr:List (Str×List Rw)} {hs:List V} (h:cK (HrI H) hr hs) (k:∀ x∈hr,rowsC x.2<=20):AsHs H hr hs:=by
 induction h with
 | nil=>exact ⟨[],[],.nil,rfl,(fun d m=>by cases m),rfl⟩
 | @cons x v hr hs a _ ih =>
  obtain ⟨t,l,us,rfl,e1,e2,p⟩:=a;obtain ⟨ds,fp,h1,h2,h3,h4⟩:=rows_ds p;obtain ⟨xs,fq,k1,k2,k3,k4⟩:=ih fun y m=>k y (ar _ m);have c20:=k x aw;refine ⟨(x.1,ds) :: xs,(l :: fp)++fq,.cons ⟨t,l,us,fp,rfl,e1,e2,h1.mono fun _ _ _ _ i=>DeF.up1 i,rfl,?_⟩ k1,?_,fun y m=>?_,?_⟩
  ·have:=ds_len h2;show ds.length<=40;omega
  ·rw [bu,bu,k2]
  ·rcases au.mp m with rfl | m
   ·exact ⟨h2,by show CnD 5 ds<=20; omega⟩
   ·exact k3 y m
  ·rw [bu,iZ,i4,k4];show ln 1 ["on",x.1] :: LsD 5 2 ds++_=("  on "++x.1) :: rowsL x.2 "    "++_;rw [h4,w_on,show cu 2="    " by decide]
theorem MI.mo {H:Hp} {M:Mc} {v:V} (h:MI H M v) (ok:McOk M):∃ (X:Mo) (fp:List aj),MoF H X v fp/\OkM X/\lsM X=M.lines/\X.nm=M.nm:=by
 obtain ⟨t,lb,lq,ld,lh,bs,hs,rfl,a,h1,p1,h3,h4,h5,p6⟩:=h;obtain ⟨xs,fp,k1,k2,k3,k4⟩:=hears_ds p6 fun x m=>(ok.hr x m).2;have m:=ok.more;refine ⟨⟨M.nm,M.bx,M.qs,M.dr,xs⟩,_,⟨t,lb,lq,ld,lh,bs,hs,fp,rfl,a,h1,p1,h3,h4,h5,k1,rfl⟩,⟨m.nm,m.b6,m.q3,ok.ld,?_,fun b mb=>⟨m.bx b mb,(ok.bx b mb).2⟩,m.qs,fun z mz=>⟨ok.dr z mz,m.dr z mz⟩,fun x mx=>⟨?_,k3 x mx⟩,m.nd,?_⟩,?_,rfl⟩
 ·have e:=congrArg fZ k2;rw [aa,aa] at e;have:=m.h4;show xs.length<=4;omega
 ·have:x.1∈xs.map (·.1):=jA mx;rw [k2] at this;obtain ⟨y,my,ey⟩:=cO.mp this;rw [<- ey];exact m.hr y my
 ·show (xs.map (·.1)).Nodup;rw [k2];exact m.ndh
 ·unfold lsM lB Mc.lines bxL qsL;dsimp only;rw [k4,w_machine,w_draws,bo,bo,bo];rw [show M.bx.map boxL=M.bx.map (fun b=>ln 1 ["box",b.1,nt b.2]) from mP fun b _=>w_box b,show M.qs.map queL=M.qs.map (fun q=>ln 1 ["queue",q]) from mP fun b _=>w_queue b];rfl
end My.Dr
namespace My
open PySem L2
theorem nlS:("\n":Str)=⟨#[10]⟩:=by decide
theorem zl (c:Nat) {ws:List Str} (ne:ws≠[]) (h:∀ w∈ws,c∉w.cps.toList):nJ (bB ⟨#[c]⟩ ws) ⟨#[c]⟩=ws:=by
 rw [tj];have j:=Am (lN ⟨#[c]⟩ ws) ⟨#[c]⟩;have p:=uo (lN ⟨#[c]⟩ ws) ⟨#[c]⟩;exact vg c (fj.mp p) ne (fun w hw=>An _ c w hw) h (congrArg (fun x:Str=>x.cps.toList) j)
theorem vt {ls:List Str} (h:ls≠[("":Str)]) (k:∀ l∈ls,10∉l.cps.toList):linesOf (bB "\n" ls)=ls:=by
 unfold linesOf
 cases ls with
 | nil=>rfl
 | cons l ls =>
  rw [if_neg,nlS,zl 10 (by simp) k];intro e
  cases ls with
  | nil=>exact h (by rw [show l="" from e])
  | cons m ls =>
   rw [cR] at e;have:=congrArg C1 e;rw [aL,aL,nlS] at this;have h1:(⟨#[10]⟩:Str).length=1:=rfl;have h2:("":Str).length=0:=by decide
   omega
theorem lS:∀ w∈[("end":Str),"put","push","draw","send","pull","if","else","box","queue","draws","on","machine"],10∉w.cps.toList:=by decide +kernel
theorem rD {x:Str} (h:Nam x):10∉x.cps.toList:=fun m=>by
 have:=h.2.2 _ m;omega
theorem zm {z:Int} (h:Wo z):10∉(nt z).cps.toList:=by
 obtain ⟨c,cs,e,hc,hd,_⟩:=oO h;intro m;rw [show (nt z).cps.toList=c :: cs from e] at m
 rcases au.mp m with y | y
 ·omega
 ·have:=hd _ y;omega
theorem EF:∀ q∈oN,10∉q.2.cps.toList:=by decide +kernel
theorem zp {f:Fo} (h:f.Ok):∀ w∈f.ws,10∉w.cps.toList:=by
 have name:∀ {c:Nat} {x:Str},Nam x->c≠10->∀ w∈[(⟨#[c]⟩:Str)++x],10∉w.cps.toList:=fun {c x} hx h2 w hw=>by
  rw [az.mp hw,qu];intro z
  rcases au.mp z with z | z
  ·exact h2 z.symm
  ·exact rD hx z
 obtain ⟨k1,k2,k3,k4,k5,k6⟩:=y7
 induction f with
 | num z =>
  intro w hw;rw [az.mp hw];exact zm h
 | box x =>
  show ∀ w∈[(".":Str)++x],_;rw [k1];exact name h (by decide)
 | long x =>
  show ∀ w∈[("#":Str)++x],_;rw [k2];exact name h (by decide)
 | got g =>
  intro w hw;rw [az.mp hw]
  rcases h with rfl | rfl <;> decide +kernel
 | now =>
  intro w hw;rw [az.mp hw];decide +kernel
 | two k m a b ih1 ih2 =>
  obtain ⟨mk,ha,hb⟩:=h;intro w hw
  rcases au.mp hw with z | z
  ·rw [z];exact EF _ (gN mk)
  ·rcases aU.mp z with z | z
   ·exact ih1 ha w z
   ·exact ih2 hb w z
theorem OkD.nl {n:Nat} {d:De} (h:OkD (n + 1) d):∀ w∈d.hw,10∉w.cps.toList:=by
 intro w m
 cases d with
 | fin=>rw [az.mp m]; exact lS _ (by decide)
 | three k x f =>
  obtain ⟨h1,h2,h3⟩:=h
  rcases au.mp m with rfl | m
  ·exact lS _ (by simp at h1 |-; rcases h1 with h | h | h <;> simp [h])
  rcases au.mp m with rfl | m
  ·exact rD h2
  ·exact zp h3.1 w m
 | send z x f1 y f2 f3 =>
  obtain ⟨h1,h2,h3,h4,h5,h6⟩:=h
  rcases au.mp m with rfl | m
  ·exact lS _ (by decide)
  rcases au.mp m with rfl | m
  ·exact zm (iy ⟨h1.1,by omega⟩)
  rcases au.mp m with rfl | m
  ·exact rD h3
  rcases au.mp m with rfl | m
  ·exact zm (iy h2)
  rcases aU.mp m with m | m
  ·exact zp h4.1 w m
  rcases aU.mp m with m | m
  ·exact zp h5.1 w m
  ·exact zp h6.1 w m
 | pull x y ds =>
  obtain ⟨h1,h2,_⟩:=h
  rcases au.mp m with rfl | m
  ·exact lS _ (by decide)
  rcases au.mp m with rfl | m
  ·exact rD h1
  ·rw [az.mp m];exact rD h2
 | iff f as bs =>
  obtain ⟨h1,_,_⟩:=h
  rcases au.mp m with rfl | m
  ·exact lS _ (by decide)
  ·exact zp h1.1 w m
def LG (x:Str):Prop:=∃ e ws,x=ln e ws/\GL ws/\e<=7/\∀ w∈ws,10∉w.cps.toList
theorem HN:∀ {ws:List Str},(∀ w∈ws,10∉w.cps.toList)->10∉(jn ws).cps.toList
 | [],_=>fun m=>by cases m
 | [x],h=>h x aw
 | x :: y :: ws,h=>by
  unfold jn;rw [cR,dX,dX];intro m
  rcases aU.mp m with m | m
  ·rcases aU.mp m with m | m
   ·exact h x aw m
   ·exact absurd m (by decide)
  ·exact HN (fun w mw=>h w (ar _ mw)) m
theorem LG.nl {x:Str} (h:LG x):10∉x.cps.toList:=by
 obtain ⟨e,ws,rfl,_,_,n⟩:=h;unfold ln;rw [dX,eR];intro m
 rcases aU.mp m with m | m
 ·have:=(sI.mp m).2;omega
 ·exact HN n m
theorem EG {ws:List Str} (ne:ws≠[]):∀ m:Nat,(jn (aJ m ("":Str)++ws)).cps.toList=aJ m 32++(jn ws).cps.toList
 | 0=>rfl
 | m + 1=>by
  rw [dy,kU];have n2:aJ m ("":Str)++ws≠[]:=by simp [ne]
  obtain ⟨w,r,e⟩:∃ w r,aJ m ("":Str)++ws=w :: r:=by
   cases q:aJ m ("":Str)++ws with
   | nil=>exact absurd q n2
   | cons w r=>exact ⟨w,r,rfl⟩
  have ih:=EG ne m;rw [e] at ih |-;unfold jn at ih |-;rw [cR,dX,dX,ih,dy];rfl
theorem Ce {L:List Str} {i d:Nat} {us:List Str} (h:L[i]?=some (cu d++jn us)) (ne:us≠[]) (fr:∀ w∈us,32∉w.cps.toList):dg L i d=us:=by
 unfold dg;rw [h];dsimp only;have lb:=gi d;have ll:(cu d++jn us).length=2 * d + (jn us).length:=by rw [aL,lb]
 have hb:(cu d).cps.toList.length=2 * d:=by rw [eR,cW]
 rw [Ay,decide_eq_true]
 ·rw [if_pos rfl,kT (by omega) (by omega) rfl];have:(⟨(((cu d++jn us).cps.toList.drop ((2 * d:Nat):Int).toNat).take (((cu d++jn us).length:Int) - ((2 * d:Nat):Int)).toNat).toArray⟩:Str)=jn us:=by
   apply kz;show (((cu d++jn us).cps.toList.drop _).take _).toArray=(jn us).cps;rw [eI];rw [dX,<- hb,wU,hb,show (((cu d++jn us).length:Int) - ((2 * d:Nat):Int)).toNat=(jn us).cps.toList.length from by rw [bY,aL,lb]; show (((2 * d + (jn us).length:Nat):Int) - ((2 * d:Nat):Int)).toNat=(jn us).length; omega,bZ,lp]
  rw [this];exact vh ne fr
 ·rw [dX,lb,<- hb,HE]
theorem GL.ne {ws:List Str} (g:GL ws):ws≠[]:=by
 obtain ⟨c,cs,r,rfl,_⟩:=g.w0;simp
theorem EH {L:List Str} {i e d:Nat} {ws:List Str} (h:L[i]?=some (ln e ws)) (g:GL ws) (l:d<=e):dg L i d=aJ (2 * (e - d)) ("":Str)++ws:=by
 refine Ce ?_ (by simp [g.ne]) fun w m=>?_
 ·rw [h]
  congr 1
  apply kz;apply hV.mp;unfold ln;rw [dX,dX,EG g.ne,eR,eR,<- bo,t7,show 2 * d + 2 * (e - d)=2 * e by omega]
 ·rcases aU.mp m with m | m
  ·rw [(sI.mp m).2];decide
  ·exact (g.ok w m).1
theorem Bp:(∀ c∈("":Str).cps.toList,c < 128)/\("":Str).length<=1000:=by decide
theorem AA {L:List Str} (h:∀ x∈L,LG x) (many:L.length<=20000):LOk L:=by
 refine ⟨fun x m=>?_,many,fun i d _=>?_⟩
 ·obtain ⟨e,ws,rfl,g,e7,_⟩:=h x m;unfold ln;have h1:=iX " " ws;have h2:=sW (z:=" ") fun x hx=>(g.ok x hx).2.2;have h3:(" ":Str).length=1:=by decide
  rw [h3] at h2;have:=g.many;have h4:(jn ws).length<=ws.length * (17 + 1):=bC h1 h2;rw [aL,gi];omega
 ·have one:WOk [("":Str)]:=⟨by simp,by decide,fun w m=>by rw [az.mp m]; exact Bp⟩
  cases q:L[i]? with
  | none =>
   have:dg L i d=[("":Str)]:=by
    unfold dg;rw [q]
   rw [this];exact one
  | some x =>
   obtain ⟨e,ws,rfl,g,e7,_⟩:=h x (bS q)
   by_cases c:d<=e
   ·rw [EH q g c];refine ⟨by simp [g.ne],by rw [ae,cW]; have:=g.many; omega,fun w m=>?_⟩
    rcases aU.mp m with m | m
    ·rw [(sI.mp m).2];exact Bp
    ·have:=g.ok w m;exact ⟨this.2.1,by omega⟩
   ·rw [pq q g (by omega)];exact one
theorem EI:∀ {n e:Nat} {d:De},OkD n d->e + n<=7->∀ x∈lsD n e d,LG x
 | 0,_,_,o,_,_,_=>absurd o (fun z=>z)
 | n + 1,e,d,o,l,x,m=>by
  have hd:LG (ln e d.hw):=⟨e,_,rfl,o.gl,by omega,o.nl⟩;have sub:∀ (ds:List De),(∀ d∈ds,OkD n d)->∀ x∈(ds.map (lsD n (e + 1))).flatten,LG x:=fun ds k x m=>by
   obtain ⟨ys,my,mx⟩:=pD.mp m;obtain ⟨d,md,rfl⟩:=cO.mp my;exact EI (k d md) (by omega) x mx
  cases d with
  | fin=>rw [az.mp m]; exact hd
  | three k x f=>rw [az.mp m]; exact hd
  | send z x f1 y f2 f3=>rw [az.mp m]; exact hd
  | pull a b ds =>
   rcases au.mp m with rfl | m
   ·exact hd
   ·exact sub ds o.2.2.1 x m
  | iff f as bs =>
   rcases au.mp m with rfl | m
   ·exact hd
   rcases aU.mp m with m | m
   ·exact sub as o.2.1 x m
   rcases au.mp m with rfl | m
   ·exact ⟨e,_,rfl,ir,by omega,fun w mw=>by rw [az.mp mw]; exact lS _ (by decide)⟩
   ·exact sub bs o.2.2.1 x m
theorem AB {k x:Str} (hk:k∈[("end":Str),"put","push","draw","send","pull","if","else","box","queue","draws","on","machine"]) (hx:Nam x):∀ w∈[k,x],10∉w.cps.toList:=fun w m=>by
 rcases au.mp m with rfl | m
 ·exact lS _ hk
 ·rw [az.mp m];exact rD hx
theorem Jj {M:Mo} (o:OkM M):∀ x∈lsM M,LG x:=by
 intro x m
 rcases au.mp m with rfl | m
 ·exact ⟨0,_,rfl,nR o.nm,by decide,AB (by decide) o.nm⟩
 rcases aU.mp m with m | m
 ·obtain ⟨b,mb,rfl⟩:=cO.mp m;obtain ⟨h1,h2⟩:=o.bx b mb;refine ⟨1,_,rfl,jr (by decide) (fun u mu=>?_) (by show 2<=59; decide),by decide,fun u mu=>?_⟩
  ·rcases au.mp mu with rfl | mu
   ·exact gA h1
   ·rw [az.mp mu];exact kf h2
  ·rcases au.mp mu with rfl | mu
   ·exact lS _ (by decide)
   rcases au.mp mu with rfl | mu
   ·exact rD h1
   ·rw [az.mp mu];exact zm h2
 rcases aU.mp m with m | m
 ·obtain ⟨b,mb,rfl⟩:=cO.mp m;have h1:=o.qs b mb;exact ⟨1,_,rfl,jr (by decide) (fun u mu=>by rw [az.mp mu]; exact gA h1) (by show 1<=59; decide),by decide,AB (by decide) h1⟩
 rcases aU.mp m with m | m
 ·unfold drL at m
  split at m
  ·cases m
  ·rw [az.mp m];refine ⟨1,_,rfl,jr (by decide) (fun u mu=>?_) (by rw [aa]; have:=o.d20; omega),by decide,fun u mu=>?_⟩
   ·obtain ⟨z,mz,rfl⟩:=cO.mp mu;exact kf (o.dr z mz).1
   ·rcases au.mp mu with rfl | mu
    ·exact lS _ (by decide)
    ·obtain ⟨z,mz,rfl⟩:=cO.mp mu;exact zm (o.dr z mz).1
 ·obtain ⟨ys,my,mx⟩:=pD.mp m;obtain ⟨h,mh,rfl⟩:=cO.mp my;obtain ⟨h1,h2,_⟩:=o.hr h mh
  rcases au.mp mx with rfl | mx
  ·exact ⟨1,_,rfl,qZ h1,by decide,AB (by decide) h1⟩
  ·obtain ⟨zs,mz,mx⟩:=pD.mp mx;obtain ⟨d,md,rfl⟩:=cO.mp mz;exact EI (h2 d md) (by decide) x mx
theorem tN {ms:List Mo} (o:∀ M∈ms,OkM M):linesOf (bB "\n" (ms.map lsM).flatten)=(ms.map lsM).flatten/\∀ x∈(ms.map lsM).flatten,LG x:=by
 have lg:∀ x∈(ms.map lsM).flatten,LG x:=fun x m=>by
  obtain ⟨ys,my,mx⟩:=pD.mp m;obtain ⟨M,mM,rfl⟩:=cO.mp my;exact Jj (o M mM) x mx
 refine ⟨vt (fun z=>?_) fun x m=>(lg x m).nl,lg⟩;have:=lg "" (by rw [z]; exact az.mpr rfl);obtain ⟨e,ws,h,g,_⟩:=this;obtain ⟨a,t,ha,_⟩:=g.head;have h2:=congrArg (fun x:Str=>x.cps.toList.length) h;unfold ln at h2;rw [dX,ae,ha,aE,show ("":Str).cps.toList.length=0 by decide] at h2;omega
end My
namespace My.Dr
open PySem L2
def elseL (os:List Nat):List Str:=os.map fun e=>ln e ["else"]
def Dec (n e:Nat) (os:List Nat):Prop:=os.Pairwise (fun a b=>b < a)/\(∀ o∈os,e<=o)/\os.length<=n
theorem dec_nil (n e:Nat):Dec n e []:=⟨List.Pairwise.nil,(fun o m=>by cases m),aR _⟩
theorem Dec.le {n e a b:Nat} {os:List Nat} (h:Dec n e os) (l:a<=e) (m:n<=b):Dec b a os:=⟨h.1,fun o k=>bC l (h.2.1 o k),bC h.2.2 m⟩
theorem Dec.snoc {n e:Nat} {os:List Nat} (h:Dec n (e + 1) os):Dec (n + 1) e (os++[e]):=by
 refine ⟨List.pairwise_append.mpr ⟨h.1,List.pairwise_singleton ..,fun a ha b hb=>?_⟩,fun o m=>?_,?_⟩
 ·rw [az.mp hb];exact h.2.1 a ha
 ·rcases aU.mp m with m | m
  ·exact Nat.le_of_succ_le (h.2.1 o m)
  ·rw [az.mp m];exact aF _
 ·rw [ae];exact jw h.2.2
def CutD (n e:Nat) (d:De) (k:Nat):Prop:=∃ (d':De) (os:List Nat),lsD n e d'=(lsD n e d).take k++elseL os/\OkD n d'/\oR n d'<=oR n d/\Dec n e os
def CutS (n e:Nat) (ds:List De) (k:Nat):Prop:=∃ (ds':List De) (os:List Nat),LsD n e ds'=(LsD n e ds).take k++elseL os/\(∀ d∈ds',OkD n d)/\CnD n ds'<=CnD n ds/\Dec n e os
theorem cut_ds {n e:Nat} (one:∀ d k,OkD n d->1<=k->k<=(lsD n e d).length->CutD n e d k):∀ (ds:List De) (k:Nat),(∀ d∈ds,OkD n d)->k<=(LsD n e ds).length->CutS n e ds k
 | [],k,ok,l=>⟨[],[],by
   have:k=0:=by
    have l':k<=0:=l;omega
   subst this;rfl,(fun d m=>by cases m),aF _,dec_nil _ _⟩
 | d :: ds,k,ok,l=>by
  rw [hU,ae] at l
  by_cases c0:k=0
  ·subst c0;exact ⟨[],[],rfl,(fun d m=>by cases m),aR _,dec_nil _ _⟩
  by_cases c:k<=(lsD n e d).length
  ·obtain ⟨d',os,h1,h2,h3,h4⟩:=one d k (ok d aw) (by omega) c;refine ⟨[d'],os,?_,fun x m=>by rw [az.mp m]; exact h2,?_,h4⟩
   ·rw [hU,hU,eH c,h1];exact bW _
   ·rw [jy,jy];show oR n d' + 0<=_;omega
  ·obtain ⟨ds',os,h1,h2,h3,h4⟩:=cut_ds one ds (k - (lsD n e d).length) (fun x m=>ok x (ar _ m)) (by omega);refine ⟨d :: ds',os,?_,fun x m=>?_,?_,h4⟩
   ·rw [hU,hU,h1,gB,da (show (lsD n e d).length<=k by omega),bo]
   ·rcases au.mp m with rfl | m
    ·exact ok _ aw
    ·exact h2 x m
   ·rw [jy,jy];omega
theorem cut_de:∀ (n e:Nat) (d:De) (k:Nat),OkD n d->1<=k->k<=(lsD n e d).length->CutD n e d k
 | 0,_,_,_,o,_,_=>absurd o (fun z=>z)
 | n + 1,e,d,k,o,k1,l=>by
  have ih:=cut_ds (n:=n) (e:=e + 1) (fun d k=>cut_de n (e + 1) d k);obtain ⟨j,rfl⟩:∃ j,k=j + 1:=⟨k - 1,by omega⟩;have whole:∀ {x:Str},lsD (n + 1) e d=[x]->CutD (n + 1) e d (j + 1):=fun {x} h=>⟨d,[],by
   rw [h];show [x]=[x].take (j + 1)++[];rw [bW,da (by simp)],o,aF _,dec_nil _ _⟩
  cases d with
  | fin=>exact whole rfl
  | three a b f=>exact whole rfl
  | send z x f1 y f2 f3=>exact whole rfl
  | pull x y ds =>
   have l':j + 1<=(LsD n (e + 1) ds).length + 1:=l;obtain ⟨ds',os,h1,h2,h3,h4⟩:=ih ds j o.2.2.1 (by omega);refine ⟨.pull x y ds',os,?_,⟨o.1,o.2.1,h2,o.2.2.2⟩,?_,h4.le (gS _) (gS _)⟩
   ·show ln e ["pull",x,y] :: LsD n (e + 1) ds'=(ln e ["pull",x,y] :: LsD n (e + 1) ds).take (j + 1)++elseL os;rw [h1];rfl
   ·show 1 + CnD n ds'<=1 + CnD n ds;omega
  | iff f as bs =>
   have l':j + 1<=(LsD n (e + 1) as++ln e ["else"] :: LsD n (e + 1) bs).length + 1:=l;rw [ae,aE] at l'
   by_cases c:j<=(LsD n (e + 1) as).length
   ·obtain ⟨as',os,h1,h2,h3,h4⟩:=ih as j o.2.1 c;refine ⟨.iff f as' [],os++[e],?_,⟨o.1,h2,(fun d m=>by cases m),o.2.2.2⟩,?_,h4.snoc⟩
    ·show ln e ("if" :: f.ws) :: (LsD n (e + 1) as'++[ln e ["else"]])=(ln e ("if" :: f.ws) :: (LsD n (e + 1) as++ln e ["else"] :: LsD n (e + 1) bs)).take (j + 1)++elseL (os++[e]);rw [mC,eH c,h1];unfold elseL;rw [bA,kU,bo];rfl
    ·show 1 + (CnD n as' + 0)<=1 + (CnD n as + CnD n bs);omega
   ·obtain ⟨bs',os,h1,h2,h3,h4⟩:=ih bs (j - (LsD n (e + 1) as).length - 1) o.2.2.1 (by omega);refine ⟨.iff f as bs',os,?_,⟨o.1,o.2.1,h2,o.2.2.2⟩,?_,h4.le (gS _) (gS _)⟩
    ·show ln e ("if" :: f.ws) :: (LsD n (e + 1) as++ln e ["else"] :: LsD n (e + 1) bs')=(ln e ("if" :: f.ws) :: (LsD n (e + 1) as++ln e ["else"] :: LsD n (e + 1) bs)).take (j + 1)++elseL os;obtain ⟨i,hi⟩:∃ i,j - (LsD n (e + 1) as).length=i + 1:=⟨j - (LsD n (e + 1) as).length - 1,by omega⟩;rw [mC,gB,da (show (LsD n (e + 1) as).length<=j by omega),hi,mC,h1,show j - (LsD n (e + 1) as).length - 1=i by omega,kU,bo];rfl
    ·show 1 + (CnD n as + CnD n bs')<=1 + (CnD n as + CnD n bs);omega
theorem cut_h {h:Str×List De} {k:Nat} (o:OkH h) (k1:1<=k) (l:k<=(lsH h).length):∃ (h':Str×List De) (os:List Nat),h'.1=h.1/\OkH h'/\lsH h'=(lsH h).take k++elseL os/\Dec 5 2 os:=by
 obtain ⟨j,rfl⟩:∃ j,k=j + 1:=⟨k - 1,by omega⟩;have l':j + 1<=(LsD 5 2 h.2).length + 1:=l;obtain ⟨ds',os,h1,h2,h3,h4⟩:=cut_ds (fun d k=>cut_de 5 2 d k) h.2 j o.2.1 (by omega);refine ⟨(h.1,ds'),os,rfl,⟨o.1,h2,bC h3 o.2.2⟩,?_,h4⟩;show ln 1 ["on",h.1] :: LsD 5 2 ds'=(ln 1 ["on",h.1] :: LsD 5 2 h.2).take (j + 1)++elseL os;rw [h1];rfl
theorem cut_hs:∀ (hs:List (Str×List De)) (k:Nat),(∀ h∈hs,OkH h)->k<=(hs.map lsH).flatten.length->∃ (hs':List (Str×List De)) (os:List Nat),(hs'.map (·.1)).Sublist (hs.map (·.1))/\hs'.length<=hs.length/\(∀ h∈hs',OkH h)/\(hs'.map lsH).flatten=(hs.map lsH).flatten.take k++elseL os/\Dec 5 2 os
 | [],k,ok,l=>⟨[],[],jB _,aF _,ok,by
   have l':k<=0:=l;have:k=0:=by omega
   subst this;rfl,dec_nil _ _⟩
 | h :: hs,k,ok,l=>by
  have e:((h :: hs).map lsH).flatten=lsH h++(hs.map lsH).flatten:=rfl;rw [e,ae] at l
  by_cases c0:k=0
  ·subst c0;exact ⟨[],[],pG _,aR _,(fun d m=>by cases m),rfl,dec_nil _ _⟩
  by_cases c:k<=(lsH h).length
  ·obtain ⟨h',os,h1,h2,h3,h4⟩:=cut_h (ok h aw) (by omega) c;refine ⟨[h'],os,?_,by simp,fun x m=>by rw [az.mp m]; exact h2,?_,h4⟩
   ·rw [bu,bu,h1];exact List.Sublist.cons₂ _ (pG _)
   ·rw [e,eH c,<- h3];exact bW _
  ·obtain ⟨hs',os,h1,h2,h3,h4,h5⟩:=cut_hs hs (k - (lsH h).length) (fun x m=>ok x (ar _ m)) (by omega);refine ⟨h :: hs',os,List.Sublist.cons₂ _ h1,by simpa using h2,fun x m=>?_,?_,h5⟩
   ·rcases au.mp m with rfl | m
    ·exact ok _ aw
    ·exact h3 x m
   ·rw [e,gB,da (show (lsH h).length<=k by omega),bo,<- h4];rfl
theorem drL_le (zs:List Int):(drL zs).length<=1:=by
 unfold drL
 split <;> simp
theorem cut_m {M:Mo} {k:Nat} (o:OkM M) (k1:1<=k) (l:k<=(lsM M).length):∃ (X:Mo) (os:List Nat),X.nm=M.nm/\OkM X/\lsM X=(lsM M).take k++elseL os/\Dec 5 2 os:=by
 obtain ⟨j,rfl⟩:∃ j,k=j + 1:=⟨k - 1,by omega⟩;have lb:(bxL M.bx).length=M.bx.length:=aa ..;have lq:(qsL M.qs).length=M.qs.length:=aa ..;have ld:=drL_le M.dr;have l':j + 1<=(lB M).length + 1:=l;unfold lB at l';rw [ae,ae,ae,lb,lq] at l';have e:∀ (X:Mo) (os:List Nat),X.nm=M.nm->lB X=(lB M).take j++elseL os->lsM X=(lsM M).take (j + 1)++elseL os:=fun X os en h=>by
  show ln 0 ["machine",X.nm] :: lB X=(ln 0 ["machine",M.nm] :: lB M).take (j + 1)++elseL os;rw [h,en];rfl
 have n0:([]:List (Str×List De)).length<=4:=by decide
 by_cases c1:j<=M.bx.length
 ·refine ⟨⟨M.nm,M.bx.take j,[],[],[]⟩,[],rfl,⟨o.nm,?_,aR _,aR _,aR _,fun b m=>o.bx b (dC m),(fun q m=>by cases m),(fun q m=>by cases m),(fun q m=>by cases m),?_,HP⟩,e _ _ rfl ?_,dec_nil _ _⟩
  ·have:=o.b6;show (M.bx.take j).length<=6;rw [bP];omega
  ·show ((M.bx.take j).map (fun q:Str×Int=>q.1)++([]:List Str)).Nodup;rw [bW,lC];exact e9 (iS ..) (dM.mp o.nd).1
  ·unfold lB;rw [eH (by omega)];show bxL (M.bx.take j)++[]=(bxL M.bx).take j++[];unfold bxL;rw [lC]
 by_cases c2:j - M.bx.length<=M.qs.length
 ·refine ⟨⟨M.nm,M.bx,M.qs.take (j - M.bx.length),[],[]⟩,[],rfl,⟨o.nm,o.b6,?_,aR _,aR _,o.bx,fun b m=>o.qs b (dC m),(fun q m=>by cases m),(fun q m=>by cases m),?_,HP⟩,e _ _ rfl ?_,dec_nil _ _⟩
  ·have:=o.q3;show (M.qs.take (j - M.bx.length)).length<=3;rw [bP];omega
  ·exact e9 (vP (jB _) (iS ..)) o.nd
  ·unfold lB;rw [gB,da (show (bxL M.bx).length<=j by omega),lb,eH (by omega)];show bxL M.bx++(qsL (M.qs.take (j - M.bx.length))++[])=bxL M.bx++(qsL M.qs).take (j - M.bx.length)++[];unfold qsL;rw [lC,bW,bW]
 ·obtain ⟨hs',os,h1,h2,h3,h4,h5⟩:=cut_hs M.hr (j - M.bx.length - M.qs.length - (drL M.dr).length) o.hr (by omega);refine ⟨⟨M.nm,M.bx,M.qs,M.dr,hs'⟩,os,rfl,⟨o.nm,o.b6,o.q3,o.d20,bC h2 o.h4,o.bx,o.qs,o.dr,h3,o.nd,e9 h1 o.ndh⟩,e _ _ rfl ?_,h5⟩;unfold lB;dsimp only;rw [gB,da (show (bxL M.bx).length<=j by omega),lb,gB,da (show (qsL M.qs).length<=j - M.bx.length by omega),lq,gB,da (show (drL M.dr).length<=j - M.bx.length - M.qs.length by omega),h4];simp only [bo]
theorem cut_ms:∀ (ms:List Mo) (k:Nat),(∀ M∈ms,OkM M)->k<=(ms.map lsM).flatten.length->∃ (xs:List Mo) (os:List Nat),(xs.map (·.nm)).Sublist (ms.map (·.nm))/\xs.length<=ms.length/\(∀ M∈xs,OkM M)/\(xs.map lsM).flatten=(ms.map lsM).flatten.take k++elseL os/\Dec 5 2 os
 | [],k,ok,l=>⟨[],[],jB _,aF _,ok,by
   have l':k<=0:=l;have:k=0:=by omega
   subst this;rfl,dec_nil _ _⟩
 | h :: hs,k,ok,l=>by
  have e:((h :: hs).map lsM).flatten=lsM h++(hs.map lsM).flatten:=rfl;rw [e,ae] at l
  by_cases c0:k=0
  ·subst c0;exact ⟨[],[],pG _,aR _,(fun d m=>by cases m),rfl,dec_nil _ _⟩
  by_cases c:k<=(lsM h).length
  ·obtain ⟨h',os,h1,h2,h3,h4⟩:=cut_m (ok h aw) (by omega) c;refine ⟨[h'],os,?_,by simp,fun x m=>by rw [az.mp m]; exact h2,?_,h4⟩
   ·rw [bu,bu,h1];exact List.Sublist.cons₂ _ (pG _)
   ·rw [e,eH c,<- h3];exact bW _
  ·obtain ⟨hs',os,h1,h2,h3,h4,h5⟩:=cut_ms hs (k - (lsM h).length) (fun x m=>ok x (ar _ m)) (by omega);refine ⟨h :: hs',os,List.Sublist.cons₂ _ h1,by simpa using h2,fun x m=>?_,?_,h5⟩
   ·rcases au.mp m with rfl | m
    ·exact ok _ aw
    ·exact h3 x m
   ·rw [e,gB,da (show (lsM h).length<=k by omega),bo,<- h4];rfl
theorem ln_inj {e e':Nat} {ws us:List Str} (g:GL ws) (h:GL us) (z:ln e ws=ln e' us):e=e'/\ws=us:=by
 have z':=congrArg (fun x:Str=>x.cps.toList) z;have w1:dg [ln e ws] 0 e=ws:=gz rfl g
 by_cases c:e=e'
 ·subst c;have w2:dg [ln e us] 0 e=us:=gz rfl h;rw [z] at w1;exact ⟨rfl,w1.symm.trans w2⟩
 rcases Nat.lt_or_gt_of_ne c with c | c
 ·have w2:dg [ln e' us] 0 e'=us:=gz rfl h;have w3:dg [ln e ws] 0 e'=[("":Str)]:=pq rfl g c;rw [z,w2] at w3;obtain ⟨a,b,r,hr,e2,ne⟩:=h.w0;rw [w3] at hr
  cases hr;exact (ne (e2.symm.trans (by decide))).elim
 ·have w3:dg [ln e' us] 0 e=[("":Str)]:=pq rfl h c;rw [<- z,w1] at w3;obtain ⟨a,b,r,hr,e2,ne⟩:=g.w0;rw [w3] at hr
  cases hr;exact (ne (e2.symm.trans (by decide))).elim
theorem hw_else {n:Nat} {d:De} (o:OkD n d):d.hw≠[("else":Str)]:=by
 cases n with
 | zero=>exact absurd o (fun z=>z)
 | succ n =>
  cases d with
  | fin=>decide
  | three k x f=>exact fun z=>by cases z
  | send z x f1 y f2 f3=>exact fun z=>by cases z
  | pull x y ds=>exact fun z=>by cases z
  | iff f as bs=>exact fun z=>absurd (b0 (congrArg nU z)) (by decide)
theorem head_els {n e e':Nat} {d:De} (o:OkD n d) {t t':List Str} (h:lsD n e d++t=ln e' ["else"] :: t'):False:=by
 obtain ⟨u,eu,g,_⟩:=kN (e:=e) o;rw [eu] at h;injection h with h _;exact hw_else o (ln_inj g ir h).2
theorem app_cut {α:Type} {a b c d:List α} (h:a++b=c++d):(∃ r,c=a++r/\b=r++d)\/∃ x r,a=c++x :: r/\d=x :: r++b:=by
 induction a generalizing c with
 | nil=>exact .inl ⟨c,rfl,h⟩
 | cons x a ih =>
  cases c with
  | nil=>exact .inr ⟨x,a,rfl,h.symm⟩
  | cons y c =>
   injection h with h1 h2;subst h1
   rcases ih h2 with ⟨r,rfl,e⟩ | ⟨y,r,rfl,e⟩
   ·exact .inl ⟨r,rfl,e⟩
   ·exact .inr ⟨y,r,rfl,e⟩
theorem els_cut {os:List Nat} {a b:List Str} (h:elseL os=a++b):∃ o1 o2,os=o1++o2/\a=elseL o1/\b=elseL o2:=by
 obtain ⟨o1,o2,h1,h2,h3⟩:=List.map_eq_append_iff.mp h;exact ⟨o1,o2,h1,h2.symm,h3.symm⟩
def RefD (L:List Str) (n d:Nat):Prop:=∀ (x:De) (i c:Nat) (A:List Str) (o:Nat) (os:List Nat),L.drop i=A->i<=L.length->A≠[]->lsD n (d + 1) x=A++elseL (o :: os)->OkD n x->c + oR n x<=20->iH L d i c (.error (L.length + 1))
theorem len_drop {α:Type} {L A:List α} {i:Nat} (h:L.drop i=A) (l:i<=L.length):i + A.length=L.length:=by
 have:=congrArg fZ h;rw [kO] at this;omega
theorem ref_ds {L:List Str} {n d:Nat} (hn:n + d=6) (one:RefD L n d):∀ (ds:List De) (i c:Nat) (A:List Str) (o:Nat) (os:List Nat),L.drop i=A->i<=L.length->LsD n (d + 1) ds=A++elseL (o :: os)->(∀ x∈ds,OkD n x)->c + CnD n ds<=20->ft L d i c (.error (L.length + 1))
 | [],i,c,A,o,os,h,il,e,ok,cc=>by
  have:=congrArg fZ e;rw [ae] at this;exact absurd this (by show ¬ (0=A.length + ((elseL os).length + 1)); omega)
 | x :: ds,i,c,A,o,os,h,il,e,ok,cc=>by
  have okx:=ok x aw;rw [jy] at cc;rw [hU] at e;have ne:A≠[]:=fun z=>by
   rw [z] at e;exact head_els okx (show lsD n (d + 1) x++_=ln o ["else"] :: elseL os from e)
  rcases app_cut e with ⟨r,e1,e2⟩ | ⟨y,r,e1,e2⟩
  ·rw [e1] at h;have h2:=fV h;have il2:i + (lsD n (d + 1) x).length<=L.length:=by
    have:=len_drop h il;rw [ae] at this;omega
   have nr:r≠[]:=fun z=>by
    rw [z] at e2
    cases ds with
    | nil=>cases e2
    | cons y ds=>exact head_els (ok y (by simp)) (show lsD n (d + 1) y++_=ln o ["else"] :: elseL os from e2)
   obtain ⟨t,ex,_,c1⟩:=kN (e:=d + 1) okx;have s2:oQ L (i + (lsD n (d + 1) x).length) (d + 2):=by
    cases ds with
    | nil=>exact absurd e2 (by
      cases r with
      | nil=>exact absurd rfl nr
      | cons a r=>exact fun z=>by cases z)
    | cons y ds =>
     obtain ⟨t',ey,gy,_⟩:=kN (e:=d + 1) (ok y (by simp));rw [hU,ey] at e2
     cases r with
     | nil=>exact absurd rfl nr
     | cons a r =>
      injection e2 with e3 _;rw [<- e3] at h2;exact .inr ⟨d + 1,y.hw,(dO h2).1,gy,by omega⟩
   exact sX (zi n d hn x i c r h okx (by omega) s2) (by omega) (by omega) (ref_ds hn one ds _ _ r o os h2 il2 e2 (fun y m=>ok y (ar _ m)) (by omega))
  ·have e2':elseL (o :: os)=(y :: r)++LsD n (d + 1) ds:=e2;obtain ⟨o1,o2,_,e3,_⟩:=els_cut e2'
   cases o1 with
   | nil=>cases e3
   | cons p o1 =>
    rw [e3] at e1;exact Jd (one x i c A p o1 h il ne e1 okx (by omega))
theorem ref_de {L:List Str}:∀ (n d:Nat),n + d=6->RefD L n d
 | 0,d,_,x,i,c,A,o,os,h,il,ne,e,ok,cc=>absurd ok (fun z=>z)
 | n + 1,d,hn,x,i,c,A,o,os,h,il,ne,e,ok,cc=>by
  have ih:=ref_ds (L:=L) (n:=n) (d:=d + 1) (by omega) (ref_de n (d + 1) (by omega));have rd:=zf (zi (L:=L) n (d + 1) (by omega));obtain ⟨t,ex,g,c1⟩:=kN (e:=d + 1) ok;have no:¬ (5 < d\/20<=c):=by omega
  cases A with
  | nil=>exact absurd rfl ne
  | cons a A =>
  obtain ⟨h1,h2⟩:=dO h;have il2:i + 1<=L.length:=by
   have:=len_drop h il;rw [aE] at this;omega
  have ea:a=ln (d + 1) x.hw:=by
   rw [ex] at e;injection e with e _;exact e.symm
  have ed:iY (dg L i (d + 1))=some (Az x):=by
   rw [gz (ea ▸ h1) g];exact ok.head
  have leaf:∀ {u:Str},lsD (n + 1) (d + 1) x=[u]->False:=fun {u} z=>by
   rw [z] at e;have:=congrArg fZ e;rw [ae] at this;exact absurd this (by show ¬ (1=A.length + 1 + ((elseL os).length + 1)); omega)
  cases x with
  | fin=>exact (leaf rfl).elim
  | three k x f=>exact (leaf rfl).elim
  | send z x f1 y f2 f3=>exact (leaf rfl).elim
  | pull x y ds =>
   have e':LsD n (d + 2) ds=A++elseL (o :: os):=(dv e).2;have cx:oR (n + 1) (.pull x y ds)=1 + CnD n ds:=rfl;exact wQ no ed (ih ds (i + 1) (c + 1) A o os h2 il2 e' ok.2.2.1 (by omega))
  | iff f as bs =>
   have e':LsD n (d + 2) as++ln (d + 1) ["else"] :: LsD n (d + 2) bs=A++elseL (o :: os):=(dv e).2;have cx:oR (n + 1) (.iff f as bs)=1 + (CnD n as + CnD n bs):=rfl
   rcases app_cut e' with ⟨r,e1,e2⟩ | ⟨y,r,e1,e2⟩
   ·rw [e1] at h2;have h3:=fV h2;have l3:=len_drop h2 il2;rw [ae] at l3
    cases r with
    | nil =>
     have k:=rd as (i + 1) (c + 1) [] h2 ok.2.1 (by omega) (.inl (by rw [iJ] at l3; show L.length<=i + 1 + (LsD n (d + 2) as).length; omega));have:=Bh no ed k (by
      rw [(show oQ L (i + 1 + (LsD n (d + 2) as).length) (d + 1) from .inl (by rw [iJ] at l3; omega)).words (aF _)];decide)
     rw [show i + 1 + (LsD n (d + 2) as).length=L.length by rw [iJ] at l3; omega] at this;exact this
    | cons b r =>
     injection e2 with e3 e4;subst e3;obtain ⟨h4,h5⟩:=dO h3;have k:=rd as (i + 1) (c + 1) _ h2 ok.2.1 (by omega) (.inr ⟨d + 1,["else"],h4,ir,by omega⟩);rw [aE] at l3;exact zb no ed k (by omega) (gz h4 ir) (ih bs _ _ r o os h5 (by show i + 1 + (LsD n (d + 2) as).length + 1<=L.length; omega) e4 ok.2.2.1 (by omega))
   ·have e2':elseL (o :: os)=(y :: r)++ln (d + 1) ["else"] :: LsD n (d + 2) bs:=e2;obtain ⟨o1,o2,_,e3,_⟩:=els_cut e2'
    cases o1 with
    | nil=>cases e3
    | cons p o1 =>
     rw [e3] at e1;exact Bg no ed (ih as (i + 1) (c + 1) A p o1 h2 il2 e1 ok.2.1 (by omega))
theorem els_head {e:Nat} {ws:List Str} (g:GL ws) (n:ws≠[("else":Str)]) {t:List Str} {o:Nat} {os:List Nat} (z:ln e ws :: t=elseL (o :: os)):False:=by
 injection z with z _;exact n (ln_inj g ir z).2
theorem on_els {x:Str}:[("on":Str),x]≠[("else":Str)]:=fun z=>by cases z
theorem ref_hr {L:List Str}:∀ (hs:List (Str×List De)) (n i:Nat) (acc:List (Str×List De)) (A:List Str) (o:Nat) (os:List Nat),L.drop i=A->i<=L.length->(hs.map lsH).flatten=A++elseL (o :: os)->hs.length<=n->(∀ h∈hs,OkH h)->(acc.map (·.1)++hs.map (·.1)).Nodup->mO L n i acc=.error (L.length + 1)
 | [],n,i,acc,A,o,os,h,il,e,l,ok,nd=>by
  have:=congrArg fZ e;rw [ae] at this;exact absurd this (by show ¬ (0=A.length + ((elseL os).length + 1)); omega)
 |(x,ds) :: hs,0,i,acc,A,o,os,h,il,e,l,ok,nd=>absurd l (by simp)
 |(x,ds) :: hs,n + 1,i,acc,A,o,os,h,il,e,l,ok,nd=>by
  obtain ⟨hx,hd,hc⟩:=ok (x,ds) aw
  cases A with
  | nil=>exact (els_head (qZ hx) on_els e).elim
  | cons a A =>
  replace e:ln 1 ["on",x] :: (LsD 5 2 ds++(hs.map lsH).flatten)=a :: (A++elseL (o :: os)):=e
  obtain ⟨ea,e0⟩:=dv e;subst ea;obtain ⟨h1,h2⟩:=dO h;have il2:=len_drop h il;rw [aE] at il2;have hx':x∉acc.map (·.1):=fun m=>(dM.mp nd).2.2 x m x aw rfl;show (match eA L i 1 "on" 2 (acc.map (·.1)) with
     | some [_,nm]=>(match kd L 42 1 (i + 1) 0 with
      | .error e=>Except.error e
      | .ok (ds,i',_)=>mO L n i' (acc++[(nm,ds)]))
     | _=>Except.ok (acc,i))=_
  rw [show eA L i 1 "on" 2 (acc.map (·.1))=some [("on":Str),x] from oS (gz h1 (qZ hx)) rfl hx hx'];dsimp only
  rcases app_cut e0 with ⟨r,e1,e2⟩ | ⟨y,r,e1,e2⟩
  ·rw [e1] at h2;have h3:=fV h2;have l3:=len_drop h2 (by omega);rw [ae] at l3
   cases hs with
   | nil=>cases r with
    | nil=>cases e2
    | cons b r=>cases e2
   | cons y hs =>
    have oy:=(ok y (by simp)).1
    cases r with
    | nil=>exact (els_head (qZ oy) on_els e2).elim
    | cons b r =>
     have eb:ln 1 ["on",y.1]=b:=(dv e2).1;have k:kd L 42 1 (i + 1) 0=.ok (ds,i + 1 + (LsD 5 2 ds).length,0 + CnD 5 ds):=zf (zi 5 1 rfl) ds (i + 1) 0 _ h2 hd (by rw [ny]; exact hc) (.inr ⟨1,["on",y.1],by rw [eb]; exact (dO h3).1,qZ oy,by omega⟩) 42 (by omega);rw [k];exact ref_hr (y :: hs) n _ (acc++[(x,ds)]) (b :: r) o os h3 (by omega) e2 (by simpa using l) (fun b m=>ok b (ar _ m)) (by simpa using nd)
  ·have e2':elseL (o :: os)=(y :: r)++(hs.map lsH).flatten:=e2;obtain ⟨o1,o2,_,e3,_⟩:=els_cut e2'
   cases o1 with
   | nil=>cases e3
   | cons p o1 =>
    rw [e3] at e1;rw [ref_ds (L:=L) (n:=5) (d:=1) rfl (ref_de 5 1 rfl) ds (i + 1) 0 A p o1 h2 (by omega) e1 hd (by rw [ny]; exact hc) 42 (by omega)]
theorem cut_ahead {a b A:List Str} {o:Nat} {os:List Nat} (na:∀ x∈a,∃ e ws,x=ln e ws/\GL ws/\ws≠[("else":Str)]) (h:a++b=A++elseL (o :: os)):∃ r,A=a++r/\b=r++elseL (o :: os):=by
 rcases app_cut h with z | ⟨y,r,e1,e2⟩
 ·exact z
 ·obtain ⟨e,ws,rfl,g,ne⟩:=na y (by rw [e1]; simp);exact (els_head g ne (show ln e ws :: (r++b)=elseL (o :: os) from e2.symm)).elim
theorem front_els {M:Mo} (ok:OkM M):∀ x∈bxL M.bx++(qsL M.qs++drL M.dr),∃ e ws,x=ln e ws/\GL ws/\ws≠[("else":Str)]:=fun x m=>by
 rcases aU.mp m with m | m
 ·obtain ⟨b,mb,rfl⟩:=cO.mp m;obtain ⟨h1,h2⟩:=ok.bx b mb;exact ⟨_,_,rfl,jr (by decide) (fun u m=>by
   rcases au.mp m with rfl | m
   ·exact gA h1
   ·rw [az.mp m]; exact kf h2) (by show 2<=59; decide),fun z=>by cases z⟩
 rcases aU.mp m with m | m
 ·obtain ⟨b,mb,rfl⟩:=cO.mp m;exact ⟨_,_,rfl,jr (by decide) (fun u m=>by rw [az.mp m]; exact gA (ok.qs b mb)) (by show 1<=59; decide),fun z=>by cases z⟩
 ·unfold drL at m
  split at m
  ·cases m
  ·rw [az.mp m];exact ⟨_,_,rfl,jr (by decide) (fun u m=>by
    obtain ⟨z,mz,rfl⟩:=cO.mp m;exact kf (ok.dr z mz).1) (by rw [aa]; have:=ok.d20; omega),fun z=>absurd (b0 (congrArg nU z)) (by decide)⟩
theorem ref_ma {L:List Str} {M:Mo} {i:Nat} {A:List Str} {o:Nat} {os:List Nat} (h:L.drop i=A) (il:i<=L.length) (e:lB M=A++elseL (o :: os)) (ok:OkM M):jx L i M.nm=.error (L.length + 1):=by
 have e':(bxL M.bx++(qsL M.qs++drL M.dr))++(M.hr.map lsH).flatten=A++elseL (o :: os):=by
  rw [<- e];unfold lB;simp only [bo]
 obtain ⟨r,rfl,e2⟩:=cut_ahead (front_els ok) e';have h':L.drop i=bxL M.bx++(qsL M.qs++(drL M.dr++r)):=by
  rw [h];simp only [bo]
 have lA:=len_drop h il;rw [ae,ae,ae,show (bxL M.bx).length=M.bx.length from aa ..,show (qsL M.qs).length=M.qs.length from aa ..] at lA;have h3:=fV (fV (fV h'));rw [show (bxL M.bx).length=M.bx.length from aa ..,show (qsL M.qs).length=M.qs.length from aa ..] at h3;have n3:sY L (i + M.bx.length + M.qs.length + (drL M.dr).length) ["box","queue","draws"]:=by
  cases r with
  | nil=>exact Bn (.inl (by rw [iJ] at lA; omega)) (by decide)
  | cons b r =>
   cases eh:M.hr with
   | nil =>
    rw [eh] at e2
    cases e2
   | cons y hs =>
    rw [eh] at e2;have eb:ln 1 ["on",y.1]=b:=(dv e2).1;rw [<- eb] at h3;exact uu (dO h3).1 (qZ (ok.hr y (by rw [eh]; exact aw)).1) (by decide)
 obtain ⟨B,Q,Dr,h3⟩:=zj h' ok n3;unfold jx;rw [B];dsimp only;rw [Q];dsimp only;rw [Dr];dsimp only;rw [ref_hr M.hr 4 _ [] r o os h3 (by omega) e2 ok.h4 ok.hr ok.ndh]
theorem ref_mo {L:List Str}:∀ (ms:List Mo) (n i:Nat) (acc:List Mo) (A:List Str) (o:Nat) (os:List Nat),L.drop i=A->i<=L.length->(ms.map lsM).flatten=A++elseL (o :: os)->ms.length<=n->(∀ M∈ms,OkM M)->(acc.map (·.nm)++ms.map (·.nm)).Nodup->pk L n i acc=.error (L.length + 1)
 | [],n,i,acc,A,o,os,h,il,e,l,ok,nd=>by
  have:=congrArg fZ e;rw [ae] at this;exact absurd this (by show ¬ (0=A.length + ((elseL os).length + 1)); omega)
 | M :: ms,0,i,acc,A,o,os,h,il,e,l,ok,nd=>absurd l (by simp)
 | M :: ms,n + 1,i,acc,A,o,os,h,il,e,l,ok,nd=>by
  have okM:=ok M aw;have me:∀ {x:Str},[("machine":Str),x]≠[("else":Str)]:=fun z=>by cases z
  cases A with
  | nil=>exact (els_head (nR okM.nm) me e).elim
  | cons a A =>
  replace e:ln 0 ["machine",M.nm] :: (lB M++(ms.map lsM).flatten)=a :: (A++elseL (o :: os)):=e
  obtain ⟨ea,e0⟩:=dv e;subst ea;obtain ⟨h1,h2⟩:=dO h;have il2:=len_drop h il;rw [aE] at il2;have hx':M.nm∉acc.map (·.nm):=fun m=>(dM.mp nd).2.2 M.nm m M.nm aw rfl;show (match eA L i 0 "machine" 2 (acc.map (·.nm)) with
     | some [_,nm]=>(match jx L (i + 1) nm with
      | .error e=>Except.error e
      | .ok (M,j)=>pk L n j (acc++[M]))
     | _=>Except.ok (acc,i))=_
  rw [show eA L i 0 "machine" 2 (acc.map (·.nm))=some [("machine":Str),M.nm] from oS (gz h1 (nR okM.nm)) rfl okM.nm hx'];dsimp only
  rcases app_cut e0 with ⟨r,e1,e2⟩ | ⟨y,r,e1,e2⟩
  ·rw [e1] at h2;have h3:=fV h2;have l3:=len_drop h2 (by omega);rw [ae] at l3
   cases ms with
   | nil=>cases r with
    | nil=>cases e2
    | cons b r=>cases e2
   | cons y ms =>
    have oy:=(ok y (by simp)).nm
    cases r with
    | nil=>exact (els_head (nR oy) me e2).elim
    | cons b r =>
     have eb:ln 0 ["machine",y.nm]=b:=(dv e2).1;rw [HL h2 okM (.inr ⟨0,["machine",y.nm],by rw [eb]; exact (dO h3).1,nR oy,by omega⟩)];exact ref_mo (y :: ms) n _ (acc++[M]) (b :: r) o os h3 (by omega) e2 (by simpa using l) (fun b m=>ok b (ar _ m)) (by simpa using nd)
  ·have e2':elseL (o :: os)=(y :: r)++(ms.map lsM).flatten:=e2;obtain ⟨o1,o2,_,e3,_⟩:=els_cut e2'
   cases o1 with
   | nil=>cases e3
   | cons p o1 =>
    rw [e3] at e1;rw [ref_ma h2 (by omega) e1 okM]
theorem ref_ok {ms:List Mo} {A:List Str} {o:Nat} {os:List Nat} (e:(ms.map lsM).flatten=A++elseL (o :: os)) (l:ms.length<=6) (ok:∀ M∈ms,OkM M) (nd:(ms.map (·.nm)).Nodup):rdM A=.error (A.length + 1):=by
 unfold rdM;rw [ref_mo ms 6 0 [] A o os rfl (aR _) e l ok nd]
inductive Opn:List Nat->List Str->List Nat->Prop
 | nil (O:List Nat):Opn O [] O
 | iff {O e ws ls O'}:GL ("if" :: ws)->ws≠[]->Opn (O++[e]) ls O'->Opn O (ln e ("if" :: ws) :: ls) O'
 | els {O e ls O'}:e∈O->Opn (O.erase e) ls O'->Opn O (ln e ["else"] :: ls) O'
 | oth {O e w r ls O'}:GL (w :: r)->w∈[("end":Str),"put","push","draw","send","pull","box","queue","draws","on","machine"]->Opn O ls O'->Opn O (ln e (w :: r) :: ls) O'
theorem Opn.app {O O1 O2:List Nat} {a b:List Str} (h:Opn O a O1) (k:Opn O1 b O2):Opn O (a++b) O2:=by
 induction h with
 | nil=>exact k
 | iff g n _ ih=>exact .iff g n (ih k)
 | els m _ ih=>exact .els m (ih k)
 | oth g m _ ih=>exact .oth g m (ih k)
theorem opn_cut:∀ {a b:List Str} {O O2:List Nat},Opn O (a++b) O2->∃ O1,Opn O a O1/\Opn O1 b O2
 | [],_,O,_,h=>⟨O,.nil _,h⟩
 | x :: a,b,O,O2,h=>by
  cases h with
  | iff g n k=>obtain ⟨O1,h1,h2⟩:=opn_cut k; exact ⟨O1,.iff g n h1,h2⟩
  | els m k=>obtain ⟨O1,h1,h2⟩:=opn_cut k; exact ⟨O1,.els m h1,h2⟩
  | oth g m k=>obtain ⟨O1,h1,h2⟩:=opn_cut k; exact ⟨O1,.oth g m h1,h2⟩
theorem opn_els:∀ {os:List Nat} {O:List Nat},Opn O (elseL os) []->O.Perm os
 | [],O,h=>by
  cases h;exact List.Perm.refl _
 | o :: os,O,h=>by
  generalize ex:elseL (o :: os)=x at h;have ex:ln o ["else"] :: elseL os=x:=ex
  cases h with
  | nil=>cases ex
  | iff g n k =>
   exact absurd (b0 (congrArg nU (ln_inj ir g (dv ex).1).2)) (by decide)
  | els m k =>
   obtain ⟨h1,rfl⟩:=dv ex;obtain ⟨rfl,_⟩:=ln_inj ir ir h1;exact (List.perm_cons_erase m).trans ((opn_els k).cons _)
  | oth g m k =>
   have:=b0 (congrArg nU (ln_inj ir g (dv ex).1).2);rw [<- this] at m;exact absurd m (by decide)
theorem opn_ds {n e:Nat} {O:List Nat} (one:∀ d,OkD n d->Opn O (lsD n e d) O):∀ {ds:List De},(∀ d∈ds,OkD n d)->Opn O (LsD n e ds) O
 | [],_=>.nil _
 | d :: ds,ok=>Opn.app (one d (ok d aw)) (opn_ds one fun x m=>ok x (ar _ m))
theorem opn_de:∀ {n e:Nat} {d:De} {O:List Nat},OkD n d->(∀ o∈O,o < e)->Opn O (lsD n e d) O
 | 0,_,_,_,o,_=>absurd o (fun z=>z)
 | n + 1,e,d,O,o,l=>by
  have g:=o.gl;have up:∀ x∈O,x < e + 1:=fun x m=>ku (l x m)
  cases d with
  | fin=>exact .oth g (by decide) (.nil _)
  | three a b f =>
   refine .oth g ?_ (.nil _);have h1:=o.1;simp only [au,kW,or_false] at h1 |-
   rcases h1 with h | h | h <;> simp [h]
  | send z x f1 y f2 f3=>exact .oth g (by decide) (.nil _)
  | pull x y ds=>exact .oth (e:=e) g (by decide) (opn_ds (fun d k=>opn_de k up) o.2.2.1)
  | iff f as bs =>
   refine .iff (e:=e) g f.ws_ne (Opn.app (opn_ds (fun d k=>opn_de k fun x m=>?_) o.2.1) (.els (by simp) ?_))
   ·rcases aU.mp m with m | m
    ·exact up x m
    ·rw [az.mp m];exact ju _
   ·rw [List.erase_append_right _ (fun m=>absurd (l e m) (dz _)),show [e].erase e=[] by simp,bW];exact opn_ds (fun d k=>opn_de k up) o.2.2.1
theorem opn_front {M:Mo} (ok:OkM M):Opn [] (bxL M.bx) []/\Opn [] (qsL M.qs) []/\Opn [] (drL M.dr) []:=by
 have z:=front_els ok;refine ⟨?_,?_,?_⟩
 ·have h:=ok.bx;generalize M.bx=bs at h
  induction bs with
  | nil=>exact .nil _
  | cons b bs ih =>
   obtain ⟨h1,h2⟩:=h b aw;exact .oth (e:=1) (jr (by decide) (fun u m=>by
    rcases au.mp m with rfl | m
    ·exact gA h1
    ·rw [az.mp m]; exact kf h2) (by show 2<=59; decide)) (by decide) (ih fun x m=>h x (ar _ m))
 ·have h:=ok.qs;generalize M.qs=bs at h
  induction bs with
  | nil=>exact .nil _
  | cons b bs ih =>
   exact .oth (e:=1) (jr (by decide) (fun u m=>by rw [az.mp m]; exact gA (h b aw)) (by show 1<=59; decide)) (by decide) (ih fun x m=>h x (ar _ m))
 ·unfold drL
  split
  ·exact .nil _
  ·exact .oth (e:=1) (jr (by decide) (fun u m=>by
    obtain ⟨z,mz,rfl⟩:=cO.mp m;exact kf (ok.dr z mz).1) (by rw [aa]; have:=ok.d20; omega)) (by decide) (.nil _)
theorem opn_hs:∀ {hs:List (Str×List De)},(∀ h∈hs,OkH h)->Opn [] (hs.map lsH).flatten []
 | [],_=>.nil _
 | h :: hs,ok=>Opn.app (a:=lsH h) (.oth (e:=1) (qZ (ok h aw).1) (by decide) (opn_ds (fun d k=>opn_de k (fun x m=>by cases m)) (ok h aw).2.1)) (opn_hs fun x m=>ok x (ar _ m))
theorem opn_ms:∀ {ms:List Mo},(∀ M∈ms,OkM M)->Opn [] (ms.map lsM).flatten []
 | [],_=>.nil _
 | M :: ms,ok=>by
  have o:=ok M aw;obtain ⟨h1,h2,h3⟩:=opn_front o;exact Opn.app (a:=lsM M) (.oth (e:=0) (nR o.nm) (by decide) (h1.app (h2.app (h3.app (opn_hs o.hr))))) (opn_ms fun x m=>ok x (ar _ m))
theorem closed_is {ms:List Mo} {k:Nat} (ok:∀ M∈ms,OkM M) (l:k<=(ms.map lsM).flatten.length) (nd:(ms.map (·.nm)).Nodup) (l6:ms.length<=6):∃ (xs:List Mo) (os O:List Nat),(xs.map (·.nm)).Nodup/\xs.length<=6/\(∀ M∈xs,OkM M)/\(xs.map lsM).flatten=(ms.map lsM).flatten.take k++elseL os/\Dec 5 2 os/\Opn [] ((ms.map lsM).flatten.take k) O/\O.Perm os:=by
 obtain ⟨xs,os,h1,h2,h3,h4,h5⟩:=cut_ms ms k ok l;have z:=opn_ms h3;rw [h4] at z;obtain ⟨O,z1,z2⟩:=opn_cut z;exact ⟨xs,os,O,e9 h1 nd,bC h2 l6,h3,h4,h5,z1,opn_els z2⟩
section
variable {P:aS} {w:bN} {K:ai} {mg:Str->Option ag} {base:cI} {f fF fW:aj} {fd fdF fdW:cf} {aW:aj}
seal L2.PS L2.PSs L2.PE L2.PA L2.PT L2.PW L2.PI L2.PG L2.PGs L2.PC
abbrev nDw:List Str:=["deed","kind","formulas"]
abbrev pDw:List Str:=["deed"]
theorem scDw:cH nDw pDw (bf jd):=⟨rfl,rfl,rfl,by decide +kernel,rfl,by decide +kernel,by decide +kernel⟩
theorem ndDw:((["formula"]:List Str)++nDw).Nodup:=by decide +kernel
inductive spDwI (vs:List V) (H:Hp) (Q:VK) (_e:XK):Prop where
 | mk (v:V) (s:Str) (_:vs=[v]) (_:WD H v s) (_:∀ H',cB H H'->Q (.str s) H'):spDwI vs H Q _e
def spDw:Sp:=fun vs H Q _e=>spDwI vs H Q _e
theorem ok_dw (D:Df K mg "deed_words" jd pDw f fd) (DF:Df K mg "formula_words" gJ pF fF fdF) (B:Bl mg) (hW:mg "WORDS"=some (.ref aW)) (hTab:Tab K aW oN):cQ P w K mg base CX0 16 f fd pDw spDw:=by
 have GF:cQ P w K mg base CX0 15 fF fdF pF (xS 15):=GZ DF B hW hTab 15 (by decide);refine D.F.ok scDw (fun vs H Q E h=>?_) (fun cdv A outer s H vs Q E r15 h=>?_)
 ·obtain ⟨v,s,rfl,_⟩:=h;rfl
 obtain ⟨v,s,rfl,hD,q⟩:=h;refine ⟨_,aH (cq (i:=1) scDw.nd rfl (Or.inl rfl) (bR cM (pv 0) aq (fun _ _=>rfl)))
  (aH (df (aZ d8 (pv 1) aO (bD _)) (aI (bE aO)) bO)
  (aH (df (aZ d8 (pv 1) aO (bD _)) (aI (bE (cb cD aO (bq GF r15 (by rfl) DF.m DF.F.kp DF.b .nil bQ (eK (bR cM (pv 0) aq (fun _ _=>rfl)) ak))))) bO)
  (aH (df (aZ d8 (pv 1) aO (bD _)) (aI (bE (d9 bz cF cG ie aO (eK (gM CV (pv 0) i7 (ib aq)) ak)))) bO)
  (aH (df (aZ d8 (pv 1) aO (bD _)) (aH (uc (i:=2) ["formula"] (gE.open (NN:=nDw) (N:=nDw) (sc:=bf jd) rfl rfl (by decide +kernel) rfl (by decide +kernel) (by decide +kernel) rfl (by decide +kernel)) rfl scDw.nd rfl (Or.inl rfl) (Ie (fz (eK (bR cM (pv 0) aq (fun _ _=>rfl)) (eK (bR cM (pv 0) aq (fun _ _=>rfl)) (eK (bR cM (pv 0) aq (fun _ _=>rfl)) ak))))) (fun _ _ _ _=>cT (i:=0) ndDw rfl (Or.inl rfl)) (fun _ _ _ _=>ic) (fun _ _ _ _=>bq GF r15 (by rfl) DF.m DF.F.kp DF.b .nil bQ (bI (pv 0) ak)))
  (aI (bE (d9 bz cF cG ie aO (g9 (cb j3 (cZ (cS aO (gT (fA eW (by rfl) B.str boot_str (eK (bR cM (pv 0) aq (fun _ _=>rfl)) ak)) (eK (bR cM (pv 0) aq (fun _ _=>rfl)) (gT (fA eW (by rfl) B.str boot_str (eK (bR cM (pv 0) aq (fun _ _=>rfl)) ak)) ak))))) (pv 2)) ak))))) bO)
  (aI (bE (d9 bz cF cG ie aO (xO (cZ (bI (pv 1) (eK (bR cM (pv 0) aq (fun _ _=>rfl)) (gT (bq GF r15 (by rfl) DF.m DF.F.kp DF.b .nil bQ (eK (bR cM (pv 0) aq (fun _ _=>rfl)) ak)) ak)))) ak)))))))),?_⟩
 have big:=dG;have ks:(¬ ("if":Str)="end"/\¬ ("pull":Str)="end"/\¬ ("pull":Str)="if"/\¬ ("send":Str)="end"/\¬ ("send":Str)="if"/\¬ ("send":Str)="pull"):=by decide +kernel
 have k3:∀ k:Str,(k="put"\/k="push"\/k="draw")->¬ k="end"/\¬ k="if"/\¬ k="pull"/\¬ k="send":=by
  intro k h
  rcases h with rfl | rfl | rfl <;> decide +kernel
 rcases hD with hD | ⟨t,x,y,o,rfl,a,⟨_,lx,_⟩,⟨_,ly,_⟩,rfl⟩ | ⟨t,g,z,o1,o2,rfl,a,hg,rfl⟩
 ·cases hD with
  | fin a =>
   refine aB (bT ⟨_,rfl,_,_,_,_,rfl,rfl,SqT.of a,rfl,aG ?_⟩);dsimp only;refine aB (gg (fun Q q=>⟨_,rfl,q⟩) ?_);exact q _ (cB.refl _)
  | @three t k x v s a hk lx hf =>
   have lx:=lx.2.1;obtain ⟨n1,n2,n3,n4⟩:=k3 k hk;refine aB (bT ⟨_,rfl,_,_,_,_,rfl,rfl,SqT.of a,rfl,aG ?_⟩);dsimp only;refine aB (cE (fun Q q=>⟨_,rfl,q⟩) n1 (c7 ?_));dsimp only;refine aB (cE (fun Q q=>⟨_,rfl,q⟩) n2 (c7 ?_));dsimp only;refine aB (cE (fun Q q=>⟨_,rfl,q⟩) n3 (c7 ?_));dsimp only;refine aB (cE (fun Q q=>⟨_,rfl,q⟩) n4 (c7 ?_));dsimp only;refine ⟨rfl,_,rfl,_,rfl,_,_,_,_,rfl,rfl,SqT.of a,rfl,_,rfl,_,_,_,_,rfl,rfl,SqT.of a,rfl,v,s,rfl,hf,fun H1 g1=>⟨by show 3<=ax; omega,fun l hl=>?_⟩⟩;have hl1:=hf.len;have hk4:k.length<=4:=by rcases hk with rfl | rfl | rfl <;> decide
   refine ⟨_,l,[k,x,s],rfl,rfl,.inl (SqL.of ao),?_,q _ (g1.trans (aD hl _))⟩;have e0:jsz " " []=0:=rfl;simp only [jsz_cons,sp1,e0];omega
  | @send t z x v1 y v2 v3 s1 s2 s3 a hz hy lx f1 f2 f3 =>
   have hz:Wo z:=iy ⟨hz.1,by omega⟩;have hy:Wo y:=iy hy;have lx:=lx.2.1;refine aB (bT ⟨_,rfl,_,_,_,_,rfl,rfl,SqT.of a,rfl,aG ?_⟩);dsimp only;refine aB (cE (fun Q q=>⟨_,rfl,q⟩) ks.2.2.2.1 (c7 ?_));dsimp only;refine aB (cE (fun Q q=>⟨_,rfl,q⟩) ks.2.2.2.2.1 (c7 ?_));dsimp only;refine aB (cE (fun Q q=>⟨_,rfl,q⟩) ks.2.2.2.2.2 (c7 ?_));dsimp only;refine aB (gg (fun Q q=>⟨_,rfl,q⟩) ?_);refine aB (bT ?_);have each:∀ (i:Nat) (u:V),[v1,v2,v3][i]?=some u->∃ s,[s1,s2,s3][i]?=some s/\FI H 15 u s:=fun i u e=>by
    match i,e with
    | 0,e=>cases e; exact ⟨_,rfl,f1⟩
    | 1,e=>cases e; exact ⟨_,rfl,f2⟩
    | 2,e=>cases e; exact ⟨_,rfl,f3⟩
    | i + 3,e=>simp at e
   refine comp_tupC (K:=K) (xs:=[v1,v2,v3]) (fun tt H0=>cB H H0/\H0 tt=some (.tup [v1,v2,v3])) (fun R hR=>⟨_,rfl,_,_,_,_,rfl,rfl,SqT.of a,rfl,_,rfl,_,_,_,_,rfl,rfl,SqT.of a,rfl,_,rfl,_,_,_,_,rfl,rfl,SqT.of a,rfl,⟨by show 3<=ax; omega,fun tt htt=>hR tt _ ⟨aD htt _,ao⟩⟩⟩) (fun tt H0 h=>SqT.of h.2)
    (fun tt H0 i ys G=>cB H0 G/\ys=([s1,s2,s3].take i).map V.str) (fun tt H0 h=>⟨cB.refl _,rfl⟩) ?_ ?_ ?_
   ·rintro tt H0 ⟨s0,ht0⟩ i ys G hi ⟨sg,rfl⟩;refine ⟨SqT.of (sg _ _ ht0),?_⟩;rw [aa,bP];show min i 3 < ax;omega
   ·rintro tt H0 ⟨s0,ht0⟩ i u ys G hu ⟨sg,rfl⟩;obtain ⟨s,hs,hf⟩:=each i u hu;refine aG ⟨rfl,?_⟩;unfold rT;refine cV ?_;refine ⟨_,rfl,u,s,rfl,hf.same (s0.trans sg),fun H1 g1=>⟨sg.trans g1,?_⟩⟩;rw [cX,hs,bA];rfl
   ·rintro tt H0 ⟨s0,ht0⟩ ys G ⟨sg,rfl⟩ l4 hl4;refine aG ?_;dsimp only;have g4:=(s0.trans sg).trans (aD hl4 (.lst (([s1,s2,s3].take 3).map V.str)));have h4:upd G l4 (.lst (([s1,s2,s3].take 3).map V.str)) l4=some (.lst ([s1,s2,s3].map V.str)):=ao;generalize upd G l4 (.lst (([s1,s2,s3].take 3).map V.str))=G4 at g4 h4 |-;refine ⟨rfl,_,rfl,_,_,_,_,rfl,rfl,SqT.of (g4 _ _ a),rfl,_,rfl,mI hz,_,rfl,_,_,_,_,rfl,rfl,SqT.of (g4 _ _ a),rfl,_,rfl,_,_,_,_,rfl,rfl,SqT.of (g4 _ _ a),rfl,_,rfl,mI hy,⟨by show 4<=ax; omega,fun l5 hl5=>?_⟩⟩;have s5:=aD hl5 (.lst [V.str "send",V.str (ba (toString z)),V.str x,V.str (ba (toString y))]);refine ⟨_,rfl,l5,l4,_,_,rfl,rfl,ao,s5 _ _ h4,(by show 4 + 3<=ax; omega),fun l6 hl6=>?_⟩;refine ⟨_,l6,["send",ba (toString z),x,ba (toString y),s1,s2,s3],rfl,rfl,.inl (SqL.of ao),?_,q _ ((g4.trans s5).trans (aD hl6 _))⟩;have:=send_jsz hz hy lx f1.len f2.len f3.len;omega
 ·refine aB (bT ⟨_,rfl,_,_,_,_,rfl,rfl,SqT.of a,rfl,aG ?_⟩);dsimp only;refine aB (cE (fun Q q=>⟨_,rfl,q⟩) ks.2.1 (c7 ?_));dsimp only;refine aB (cE (fun Q q=>⟨_,rfl,q⟩) ks.2.2.1 (c7 ?_));dsimp only;refine aB (gg (fun Q q=>⟨_,rfl,q⟩) ?_);refine ⟨rfl,_,rfl,_,rfl,t,_,rfl,SqT.of a,(by show ¬ (HT.sIx 4 0 none=0/\HT.sIx 4 4 (some 3)=4); decide),fun t2 ht2=>?_⟩;refine ⟨_,t2,["pull",x,y],rfl,rfl,.inr (SqT.of ao),?_,q _ (aD ht2 _)⟩;have e0:jsz " " []=0:=rfl;have:("pull":Str).length=4:=by decide
  simp only [jsz_cons,sp1,e0];omega
 ·refine aB (bT ⟨_,rfl,_,_,_,_,rfl,rfl,SqT.of a,rfl,aG ?_⟩);dsimp only;refine aB (cE (fun Q q=>⟨_,rfl,q⟩) ks.1 (c7 ?_));dsimp only;refine aB (gg (fun Q q=>⟨_,rfl,q⟩) ?_);have e:("if ":Str).length=3:=by decide
  have:=hg.len;exact ⟨_,rfl,_,_,_,_,rfl,rfl,SqT.of a,rfl,g,z,rfl,hg,fun H1 g1=>⟨_,_,rfl,rfl,by omega,q _ g1⟩⟩
abbrev nDl:List Str:=["deeds","blanks","deeper","lines","deed"]
abbrev pDl:List Str:=["deeds","blanks"]
theorem scDl:cH nDl pDl (bf j6):=⟨rfl,rfl,rfl,by decide +kernel,rfl,by decide +kernel,by decide +kernel⟩
theorem dl_step {n:Nat} (hn:n<=20) (D:Df K mg "deed_lines" j6 pDl f fd) (DW:Df K mg "deed_words" jd pDw fW fdW) (GW:cQ P w K mg base CX0 16 fW fdW pDw spDw) (B:Bl mg) (GR:cQ P w K mg base CX0 (n + 17) f fd pDl (spDl n)):cQ P w K mg base CX0 (n + 18) f fd pDl (spDl (n + 1)):=by
 refine D.F.ok scDl (fun vs H Q E h=>?_) (fun cdv A outer s H vs Q E hr h=>?_)
 ·obtain ⟨l,b,us,rs,rfl,_⟩:=h;rfl
 obtain ⟨l,b,us,rs,rfl,_,hl,hp,hb,hc,q⟩:=h;have r16:dE 16 _:=hr.mono (by omega);refine ⟨_,aH (cq (i:=2) scDl.nd rfl (Or.inl rfl) (cb cD (pv 1) aO))
  (aH (cq (i:=3) scDl.nd rfl (Or.inl rfl) (cZ ak))
  (aH (jt cN rfl (eV (pv 0)) (cT (i:=4) scDl.nd rfl (Or.inl rfl)) (aH (dI (d9 aP bh bj dR (pv 3) (g9 (cb cD (pv 1) (bq GW r16 (by rfl) DW.m DW.F.kp DW.b .nil bQ (bI (pv 4) ak))) ak)))
  (aI (df (aZ d8 (bR cM (pv 4) aq (fun _ _=>rfl)) aO (bD _)) (aI (dI (d9 aP gQ gR oG (pv 3) (gT (bq GR hr (by rfl) D.m D.F.kp D.b .nil bQ (eK (bR cM (pv 4) aq (fun _ _=>rfl)) (bI (pv 2) ak))) ak)))) (aI (df (aZ d8 (bR cM (pv 4) aq (fun _ _=>rfl)) aO (bD _)) (aH (dI (d9 aP gQ gR oG (pv 3) (gT (bq GR hr (by rfl) D.m D.F.kp D.b .nil bQ (eK (bR cM (pv 4) aq (fun _ _=>rfl)) (bI (pv 2) ak))) ak)))
  (aH (dI (d9 aP bh bj dR (pv 3) (g9 (cb cD (pv 1) aO) ak)))
  (aI (dI (d9 aP gQ gR oG (pv 3) (gT (bq GR hr (by rfl) D.m D.F.kp D.b .nil bQ (eK (bR cM (pv 4) aq (fun _ _=>rfl)) (bI (pv 2) ak))) ak)))))) bO))))))
  (aI (bE (pv 3))))),?_⟩
 have big:10000 < ax:=by decide
 have els:("else":Str).length=4:=by decide
 have kpi:¬ ("if":Str)="pull":=by decide +kernel
 refine aB (bT ⟨_,rfl,_,_,rfl,rfl,by rw [two2]; omega,aG ?_⟩);dsimp only;refine aB (bT ⟨aR _,fun m hm=>aG ?_⟩);dsimp only;have sm:=aD hm (.lst []);have hlm:l≠m:=bw hl hm;refine aB ⟨_,rfl,l,rfl,⟨us,SqL.of (sm _ _ hl)⟩,gW (xs:=us) (fun i σ G=>∃ v4,σ=[some (.ref l),some (.str b),some (.str (b++"  ")),some (.ref m),v4]/\i<=us.length/\cB H G/\G m=some (.lst ((rowsL (rs.take i) b).map V.str))) ⟨none,rfl,aR _,sm,ao⟩ ?_ ?_ ?_⟩
 ·rintro i σ G hi ⟨v4,rfl,_,sg,_⟩;exact SqL.of (sg _ _ hl)
 ·rintro i u σ G hu ⟨v4,rfl,hi,sg,hG⟩;have hil:i < us.length:=(aQ.mp hu).1;obtain ⟨r,hr1,hd⟩:=fG hp hu;have hd0:=hd;have hd:=hd.tk sg;have lt:=take_len hp b i;have rle:=rows_le hr1;have done:∀ (G':Hp) (v4:Option V) (xs:List V),cB H G'->G' m=some (.lst xs)->xs=(rowsL (rs.take i) b).map V.str++(r.2 b).map V.str->∃ v4',[some (.ref l),some (.str b),some (.str (b++"  ")),some (.ref m),v4]=[some (.ref l),some (.str b),some (.str (b++"  ")),some (.ref m),v4']/\i + 1<=us.length/\cB H G'/\G' m=some (.lst ((rowsL (rs.take (i + 1)) b).map V.str)):=fun G' v4 xs s1 e1 e2=>⟨v4,rfl,hil,s1,by rw [e1,e2,rows_at hr1,rowsL_snoc,bA]⟩;refine aG ?_;dsimp only;obtain ⟨sw,hw,first⟩:∃ sw,WD G u sw/\∃ rest,r.2 b=(b++sw) :: rest:=by
   clear done rle hr1 hd0
   rcases hd with ⟨z,hz,rfl⟩ | ⟨t,l,x,y,vs,rs,n0,rfl,a,lx,ly,hl,hp,rfl⟩ | ⟨t,l1,l2,f,z,vs1,vs2,rs1,rs2,n0,rfl,a,hf,h1,h2,p1,p2,rfl⟩
   ·exact ⟨z,.inl hz,[],rfl⟩
   ·exact ⟨_,.inr (.inl ⟨t,x,y,_,rfl,a,lx,ly,rfl⟩),_,rfl⟩
   ·exact ⟨_,.inr (.inr ⟨t,f,z,_,_,rfl,a,hf,rfl⟩),_,rfl⟩
  have lw:=hw.len;refine aB ⟨_,rfl,.inl ⟨rfl,_,SqL.of hG⟩,_,rfl,_,rfl,u,sw,rfl,hw,fun G1 g1=>⟨_,_,rfl,rfl,by omega,m,_,_,rfl,rfl,g1 _ _ hG,by rw [aa]; omega,?_⟩⟩;dsimp only;have sg2:cB H (upd G1 m (.lst ((rowsL (rs.take i) b).map V.str++[V.str (b++sw)]))):=fv (sg.trans g1) hm;have hG2:upd G1 m (.lst ((rowsL (rs.take i) b).map V.str++[V.str (b++sw)])) m=some (.lst ((rowsL (rs.take i) b).map V.str++[V.str (b++sw)])):=ao;generalize upd G1 m (.lst ((rowsL (rs.take i) b).map V.str++[V.str (b++sw)]))=G2 at sg2 hG2 |-;obtain ⟨rest,er⟩:=first
  rcases hd0 with ⟨z,hz,e⟩ | ⟨t,l2,x,y,vs2,rs2,n0,rfl,a,lx,ly,hl2,hp2,e⟩ | ⟨t,l1,l2,f,z,vs1,vs2,rs1,rs2,n0,rfl,a,hf,h1,h2,p1,p2,e⟩
  ·obtain ⟨t,k,xs,rfl,a,k1,k2⟩:=hz.kind;have a:=sg2 _ _ a;have e2:rest=[]:=by
    rw [e] at er;exact (dv er).2.symm
   refine cE (fun Q q=>⟨_,rfl,_,_,_,_,rfl,rfl,SqT.of a,eZ (j:=0) rfl,q⟩) k1 ?_;refine cE (fun Q q=>⟨_,rfl,_,_,_,_,rfl,rfl,SqT.of a,eZ (j:=0) rfl,q⟩) k2 (c7 ?_);exact done G2 _ _ sg2 hG2 (by rw [er,e2]; rfl)
  ·have e2:rest=rowsL rs2 (b++"  "):=by
    rw [e] at er;exact (dv er).2.symm
   have e3:r.1=1 + rowsC rs2:=by rw [e]
   have a:=sg2 _ _ a;refine gg (fun Q q=>⟨_,rfl,_,_,_,_,rfl,rfl,SqT.of a,rfl,q⟩) ?_;have l2':=(rows_ok hp2 (b++"  ")).1;refine ⟨_,rfl,.inl ⟨rfl,_,SqL.of hG2⟩,_,rfl,_,_,_,_,rfl,rfl,SqT.of a,rfl,_,rfl,l2,b++"  ",vs2,rs2,rfl,n0,sg2 _ _ hl2,rows_same sg2 hp2,by rw [aL,two2]; omega,by omega,fun m3 G3 hm3 hm33 sg3=>?_⟩;refine ⟨m,m3,_,_,rfl,rfl,sg3 _ _ hG2,hm33,?_,?_⟩
   ·rw [ae,aa,aa];show _ + 1 + _<=_;omega
   ·exact done _ _ _ (fv (sg2.trans sg3) hm) ao (by rw [er,e2]; simp)
  ·have e2:rest=rowsL rs1 (b++"  ")++(b++"else") :: rowsL rs2 (b++"  "):=by
    rw [e] at er;exact (dv er).2.symm
   have e3:r.1=1 + rowsC rs1 + rowsC rs2:=by rw [e]
   have l1':=(rows_ok p1 (b++"  ")).1;have l2':=(rows_ok p2 (b++"  ")).1;have a2:=sg2 _ _ a;refine cE (fun Q q=>⟨_,rfl,_,_,_,_,rfl,rfl,SqT.of a2,rfl,q⟩) kpi ?_;refine gg (fun Q q=>⟨_,rfl,_,_,_,_,rfl,rfl,SqT.of a2,rfl,q⟩) ?_;refine aB ⟨_,rfl,.inl ⟨rfl,_,SqL.of hG2⟩,_,rfl,_,_,_,_,rfl,rfl,SqT.of a2,rfl,_,rfl,l1,b++"  ",vs1,rs1,rfl,n0,sg2 _ _ h1,rows_same sg2 p1,by rw [aL,two2]; omega,by omega,fun m3 G3 hm3 hm33 sg3=>?_⟩;refine ⟨m,m3,_,_,rfl,rfl,sg3 _ _ hG2,hm33,?_,?_⟩
   ·rw [ae,aa,aa];show _ + 1 + _<=_;omega
   dsimp only;have sg4:cB H (upd G3 m (.lst ((rowsL (rs.take i) b).map V.str++[V.str (b++sw)]++(rowsL rs1 (b++"  ")).map V.str))):=fv (sg2.trans sg3) hm;have hG4:upd G3 m (.lst ((rowsL (rs.take i) b).map V.str++[V.str (b++sw)]++(rowsL rs1 (b++"  ")).map V.str)) m=_:=ao;generalize upd G3 m (.lst ((rowsL (rs.take i) b).map V.str++[V.str (b++sw)]++(rowsL rs1 (b++"  ")).map V.str))=G4 at sg4 hG4 |-;refine aB ⟨_,rfl,.inl ⟨rfl,_,SqL.of hG4⟩,_,rfl,_,_,rfl,rfl,by rw [els]; omega,m,_,_,rfl,rfl,hG4,?_,?_⟩
   ·rw [ae,ae,aa,aa];show _ + 1 + _ < _;omega
   dsimp only;have sg5:cB H (upd G4 m (.lst ((rowsL (rs.take i) b).map V.str++[V.str (b++sw)]++(rowsL rs1 (b++"  ")).map V.str++[V.str (b++"else")]))):=fv sg4 hm;have hG5:upd G4 m (.lst ((rowsL (rs.take i) b).map V.str++[V.str (b++sw)]++(rowsL rs1 (b++"  ")).map V.str++[V.str (b++"else")])) m=_:=ao;generalize upd G4 m (.lst ((rowsL (rs.take i) b).map V.str++[V.str (b++sw)]++(rowsL rs1 (b++"  ")).map V.str++[V.str (b++"else")]))=G5 at sg5 hG5 |-;refine ⟨_,rfl,.inl ⟨rfl,_,SqL.of hG5⟩,_,rfl,_,_,_,_,rfl,rfl,SqT.of (sg5 _ _ a),rfl,_,rfl,l2,b++"  ",vs2,rs2,rfl,n0,sg5 _ _ h2,rows_same sg5 p2,by rw [aL,two2]; omega,by omega,fun m6 G6 hm6 hm66 sg6=>?_⟩;refine ⟨m,m6,_,_,rfl,rfl,sg6 _ _ hG5,hm66,?_,?_⟩
   ·rw [ae,ae,ae,aa,aa,aa];show _ + 1 + _ + 1 + _<=_;omega
   ·exact done _ _ _ (fv (sg5.trans sg6) hm) ao (by rw [er,e2]; simp)
 ·rintro σ G ⟨v4,rfl,hi,sg,hG⟩;refine ⟨_,rfl,?_⟩;rw [<- paired_len hp,bZ] at hG;exact q m G hm hG sg
theorem ok_dl (D:Df K mg "deed_lines" j6 pDl f fd) (DW:Df K mg "deed_words" jd pDw fW fdW) (GW:cQ P w K mg base CX0 16 fW fdW pDw spDw) (B:Bl mg):∀ n:Nat,n<=20->cQ P w K mg base CX0 (n + 17) f fd pDl (spDl n)
 | 0,_=>⟨fun vs H Q E h=>(by obtain ⟨l,b,us,rs,rfl,h,_⟩:=h; omega),fun A outer s H args us vs Q E a b c d h=>(by obtain ⟨l,b,us,rs,rfl,h,_⟩:=h; omega)⟩
 | n + 1,h=>dl_step (by omega) D DW GW B (ok_dl D DW GW B n (by omega))
end
section
variable {P:aS} {w:bN} {K:ai} {mg:Str->Option ag} {base:cI} {f fD fM:aj} {fd fdD fdM:cf}
seal L2.PS L2.PSs L2.PE L2.PA L2.PT L2.PW L2.PI L2.PG L2.PGs L2.PC
abbrev nMl:List Str:=["machine","lines","name","worth","sign","deeds"]
abbrev pMl:List Str:=["machine"]
theorem scMl:cH nMl pMl (bf iw):=⟨rfl,rfl,rfl,by decide +kernel,rfl,by decide +kernel,by decide +kernel⟩
theorem ndMl:((["draw"]:List Str)++nMl).Nodup:=by decide +kernel
inductive spMlI (vs:List V) (H:Hp) (Q:VK) (_e:XK):Prop where
 | mk (v:V) (M:Mc) (_:vs=[v]) (_:MI H M v) (_:McOk M) (_:∀ (m:aj) (H':Hp),H m=none->H' m=some (.lst (M.lines.map V.str))->cB H H'->Q (.ref m) H'):spMlI vs H Q _e
def spMl:Sp:=fun vs H Q _e=>spMlI vs H Q _e
theorem ok_ml (D:Df K mg "machine_lines" iw pMl f fd) (DD:Df K mg "deed_lines" j6 pDl fD fdD) (GD:cQ P w K mg base CX0 22 fD fdD pDl (spDl 5)) (B:Bl mg):cQ P w K mg base CX0 23 f fd pMl spMl:=by
 refine D.F.ok scMl (fun vs H Q E h=>?_) (fun cdv A outer s H vs Q E r22 h=>?_)
 ·obtain ⟨v,M,rfl,_⟩:=h;rfl
 obtain ⟨v,M,rfl,hM,ok,q⟩:=h;refine ⟨_,aH (cq (i:=1) scMl.nd rfl (Or.inl rfl) (cZ (g9 (cb cD aO (bR cM (pv 0) aq (fun _ _=>rfl))) ak)))
  (aH (jt cN rfl (eV (bR cM (pv 0) aq (fun _ _=>rfl))) (ux rfl (fU (cT (i:=2) scMl.nd rfl (Or.inl rfl)) (fU (cT (i:=3) scMl.nd rfl (Or.inl rfl)) o5))) (aI (dI (d9 aP bh bj dR (pv 1) (eJ (xu (xr (xt (pv 2) (xr (xt (pv 3) zZ))))) ak)))))
  (aH (jt cN rfl (eV (bR cM (pv 0) aq (fun _ _=>rfl))) (cT (i:=2) scMl.nd rfl (Or.inl rfl)) (aI (dI (d9 aP bh bj dR (pv 1) (eJ (xu (xr (xt (pv 2) zZ))) ak)))))
  (aH (df (uz (bR cM (pv 0) aq (fun _ _=>rfl)) (fun _=>rfl)) (aI (dI (d9 aP bh bj dR (pv 1) (gT (d9 bz cF cG ie aO (g9 (cb j3 (cZ (cS aO ak)) (kE ["draw"] (gE.open (NN:=nMl) (N:=nMl) (sc:=bf iw) rfl rfl (by decide +kernel) rfl (by decide +kernel) (by decide +kernel) rfl (by decide +kernel)) rfl (eV (bR cM (pv 0) aq (fun _ _=>rfl))) (fun _ _ _ _=>cT (i:=0) ndMl rfl (Or.inl rfl)) (fun _ _ _ _=>ic) (fun _ _ _ _=>fA eW (by rfl) B.str boot_str (bI (pv 0) ak)))) ak)) ak)))) bO)
  (aH (jt cN rfl (eV (bR cM (pv 0) aq (fun _ _=>rfl))) (ux rfl (fU (cT (i:=4) scMl.nd rfl (Or.inl rfl)) (fU (cT (i:=5) scMl.nd rfl (Or.inl rfl)) o5))) (aH (dI (d9 aP bh bj dR (pv 1) (eJ (xu (xr (xt (pv 4) zZ))) ak)))
  (aI (dI (d9 aP gQ gR oG (pv 1) (gT (bq GD r22 (by rfl) DD.m DD.F.kp DD.b .nil bQ (bI (pv 5) (cS aO ak))) ak))))))
  (aI (bE (pv 1))))))),?_⟩
 have big:10000 < ax:=by decide
 obtain ⟨t,lb,lq,ld,lh,bs,hs,rfl,a,h1,p1,h3,h4,h5,p6⟩:=hM;have lm:("machine ":Str).length=8:=by decide
 have nm:=ok.nm;refine aB (bT ⟨_,rfl,_,_,_,_,rfl,rfl,SqT.of a,rfl,_,_,rfl,rfl,by omega,⟨by show 1<=ax; omega,fun m hm=>aG ?_⟩⟩);dsimp only;have sm:=aD hm (.lst [V.str ("machine "++M.nm)]);have hm0:upd H m (.lst [V.str ("machine "++M.nm)]) m=some (.lst ([("machine ":Str)++M.nm].map V.str)):=ao;generalize upd H m (.lst [V.str ("machine "++M.nm)])=G0 at sm hm0 |-;have lb9:=ok.lb;have lq9:=ok.lq;have e1:("  box ":Str).length=6:=by decide
 have e2:("  queue ":Str).length=8:=by decide
 have e3:("  on ":Str).length=5:=by decide
 have e4:("    ":Str).length=4:=by decide
 have e5:("  draws":Str).length=7:=by decide
 have ee:Str.empty.length=0:=by decide
 refine aB ⟨_,rfl,_,_,_,_,rfl,rfl,SqT.of (sm _ _ a),rfl,lb,rfl,⟨bs,SqL.of (sm _ _ h1)⟩,gW (xs:=bs) (fun i σ G=>∃ u1 u2,σ=[some (.ref t),some (.ref m),u1,u2,none,none]/\cB H G/\G m=some (.lst (([("machine ":Str)++M.nm]++(M.bx.take i).map boxL).map V.str))) ⟨none,none,rfl,sm,hm0⟩ ?_ ?_ ?_⟩
 ·rintro i σ G hi ⟨u1,u2,rfl,sg,_⟩;exact SqL.of (sg _ _ h1)
 ·rintro i u σ G hu ⟨u1,u2,rfl,sg,hG⟩;obtain ⟨x,hx,tb,rfl,hb⟩:=fG p1 hu;obtain ⟨ox,oz⟩:=ok.bx x (bS hx);have sl:(shw x.2).length<=17:=gu oz;refine ⟨tb,_,rfl,SqT.of (sg _ _ hb),rfl,_,_,rfl,aG ⟨_,_,rfl,aG ⟨rfl,?_⟩⟩⟩;dsimp only;refine ⟨_,rfl,.inl ⟨rfl,_,SqL.of hG⟩,?_⟩;refine ⟨by rw [empty_app]; omega,_,rfl,x.1,.inl rfl,by omega,by rw [empty_app,aL]; omega,by rw [empty_app,aL,aL,sp1]; omega,_,rfl,shw x.2,.inr ⟨x.2,rfl,mI oz,rfl⟩,by omega,by rw [empty_app,aL,aL,aL,sp1]; omega,by rw [empty_app,aL,aL,aL,sp1]; omega,?_⟩;refine ⟨m,_,_,rfl,rfl,hG,by rw [aa,ae,aa,bP]; show 1 + min _ _ < _; omega,?_⟩;refine ⟨_,_,rfl,fv sg hm,?_⟩;rw [ao,cX,hx,empty_app];simp [boxL]
 rintro σ G1 ⟨u1,u2,rfl,sg1,hG1⟩;rw [<- paired_len p1,bZ] at hG1;refine aB ⟨_,rfl,_,_,_,_,rfl,rfl,SqT.of (sg1 _ _ a),rfl,lq,rfl,⟨_,SqL.of (sg1 _ _ h3)⟩,gW (xs:=M.qs.map V.str) (fun i σ G=>∃ u1,σ=[some (.ref t),some (.ref m),u1,u2,none,none]/\cB H G/\G m=some (.lst (([("machine ":Str)++M.nm]++M.bx.map boxL++(M.qs.take i).map queL).map V.str))) ⟨u1,rfl,sg1,by rw [hG1]; simp⟩ ?_ ?_ ?_⟩
 ·rintro i σ G hi ⟨u1,rfl,sg,_⟩;exact SqL.of (sg _ _ h3)
 ·rintro i u σ G hu ⟨u1,rfl,sg,hG⟩;obtain ⟨x,hx,rfl⟩:∃ x,M.qs[i]?=some x/\u=.str x:=by
   rw [cw] at hu;obtain ⟨x,h1,h2⟩:=c8.mp hu;exact ⟨x,h1,h2.symm⟩
  have ox:=ok.qs x (bS hx);refine aG ?_;dsimp only;refine ⟨_,rfl,.inl ⟨rfl,_,SqL.of hG⟩,?_⟩;refine ⟨by rw [empty_app]; omega,_,rfl,x,.inl rfl,by omega,by rw [empty_app,aL]; omega,by rw [empty_app,aL]; omega,?_⟩;refine ⟨m,_,_,rfl,rfl,hG,by rw [aa,ae,ae,aa,aa,bP]; show 1 + _ + min _ _ < _; omega,?_⟩;refine ⟨_,rfl,fv sg hm,?_⟩;rw [ao,cX,hx,empty_app];simp [queL]
 rintro σ G2 ⟨u1,rfl,sg2,hG2⟩;rw [aa,bZ] at hG2;have ld20:=ok.ld;dsimp only;refine aB (ifS_join (fun G3=>cB H G3/\G3 m=some (.lst (([("machine ":Str)++M.nm]++M.bx.map boxL++M.qs.map queL++drawL M.dr).map V.str))) ?_ ?_)
 ·rintro G3 ⟨sg3,hG3⟩;dsimp only;have ldr:(drawL M.dr).length<=1:=by
   unfold drawL
   split <;> simp
  refine aB ⟨_,rfl,_,_,_,_,rfl,rfl,SqT.of (sg3 _ _ a),rfl,lh,rfl,⟨hs,SqL.of (sg3 _ _ h5)⟩,gW (xs:=hs) (fun i σ G=>∃ u3 u4,σ=[some (.ref t),some (.ref m),u1,u2,u3,u4]/\i<=hs.length/\cB H G/\G m=some (.lst (([("machine ":Str)++M.nm]++M.bx.map boxL++M.qs.map queL++drawL M.dr++(M.hr.take i).flatMap hearL).map V.str))) ⟨none,none,rfl,aR _,sg3,by rw [hG3]; simp⟩ ?_ ?_ ?_⟩
  ·rintro i σ G hi ⟨u3,u4,rfl,_,sg,_⟩;exact SqL.of (sg _ _ h5)
  ·rintro i u σ G hu ⟨u3,u4,rfl,hi,sg,hG⟩;have hil:i < hs.length:=(aQ.mp hu).1;obtain ⟨x,hx,th,l,us,rfl,ht,hl,hp⟩:=fG p6 hu;obtain ⟨ox,oc⟩:=ok.hr x (bS hx);have lh9:=ok.lh;have lfl:((M.hr.take i).flatMap hearL).length<=9 * 41:=by
    have z:=flat_le (f:=hearL) (k:=41) (xs:=M.hr.take i) fun y hy=>by
     obtain ⟨j,hj⟩:=List.mem_iff_getElem?.mp (dC hy);have hjl:j < hs.length:=by
      rw [<- paired_len p6];exact (aQ.mp hj).1
     obtain ⟨y',hy',_,_,us',_,_,_,hp'⟩:=fG p6 (aN hjl);rw [hj] at hy'
     cases hy';have z1:=(rows_ok hp' "    ").1;have z2:=(ok.hr y (bS hj)).2;show _ + 1<=41;omega
    have z3:(M.hr.take i).length<=9:=by
     rw [bP];omega
    have z4:=ec 41 z3;omega
   have rl:=(rows_ok hp "    ").1;refine ⟨th,_,rfl,SqT.of (sg _ _ ht),rfl,_,_,rfl,aG ⟨_,_,rfl,aG ⟨rfl,?_⟩⟩⟩;dsimp only;refine aB ⟨_,rfl,.inl ⟨rfl,_,SqL.of hG⟩,?_⟩;refine ⟨by rw [empty_app]; omega,_,rfl,x.1,.inl rfl,by omega,by rw [empty_app,aL]; omega,by rw [empty_app,aL]; omega,?_⟩;refine ⟨m,_,_,rfl,rfl,hG,by rw [aa,ae,ae,ae,ae,aa,aa]; show 1 + _ + _ + _ + _ < _; omega,?_⟩;dsimp only;rw [empty_app];generalize hA:([("machine ":Str)++M.nm]++M.bx.map boxL++M.qs.map queL++drawL M.dr++(M.hr.take i).flatMap hearL).map V.str=As at hG |-;have lA:As.length<=400:=by
    rw [<- hA,aa,ae,ae,ae,ae,aa,aa];show 1 + _ + _ + _ + _<=_;omega
   have sg5:cB H (upd G m (.lst (As++[V.str ("  on "++x.1)]))):=fv sg hm;have hG5:upd G m (.lst (As++[V.str ("  on "++x.1)])) m=_:=ao;generalize upd G m (.lst (As++[V.str ("  on "++x.1)]))=G5 at sg5 hG5 |-;refine ⟨_,rfl,.inl ⟨rfl,_,SqL.of hG5⟩,_,rfl,l,"    ",us,x.2,rfl,by decide,sg5 _ _ hl,rows_same sg5 hp,by rw [e4]; omega,by omega,fun m6 G6 hm6 h6 sg6=>?_⟩;refine ⟨m,m6,_,_,rfl,rfl,sg6 _ _ hG5,h6,by rw [ae,aa]; show _ + 1 + _<=_; omega,?_⟩;refine ⟨_,_,rfl,hil,fv (sg5.trans sg6) hm,?_⟩;rw [ao,cX,hx,<- hA];simp [hearL]
  ·rintro σ G ⟨u3,u4,rfl,hi,sg,hG⟩;refine ⟨_,rfl,?_⟩;rw [<- paired_len p6,bZ] at hG;exact q m G hm hG sg
 ·intro hk;refine ⟨_,rfl,_,_,_,_,rfl,rfl,SqT.of (sg2 _ _ a),rfl,_,.inl ⟨_,SqL.of (sg2 _ _ h4),rfl⟩,?_⟩
  cases hdr:M.dr with
  | nil =>
   refine du (hk G2 ⟨sg2,?_⟩);rw [hG2,hdr];simp [drawL]
  | cons n ns =>
   refine cV ?_;rw [hdr] at h4;refine ⟨_,rfl,.inl ⟨rfl,_,SqL.of hG2⟩,rfl,⟨by show 1<=ax; omega,fun l5 hl5=>?_⟩⟩;have s5:=aD hl5 (.lst [V.str "  draws"]);have h5:upd G2 l5 (.lst [V.str "  draws"]) l5=_:=ao;generalize upd G2 l5 (.lst [V.str "  draws"])=G5 at s5 h5 |-;have s25:=sg2.trans s5;refine pj (K:=K) (xs:=(n :: ns).map V.int) (fun a' H1=>a'=ld/\H1=G5) (fun R hR=>⟨_,rfl,_,_,_,_,rfl,rfl,SqT.of (s25 _ _ a),rfl,hR ld G5 ⟨rfl,rfl⟩⟩) (fun a' H1 h=>by rw [h.1,h.2]; exact SqL.of (s25 _ _ h4))
    (fun a' H1 i ys G=>G=G5/\ys=(((n :: ns).take i).map shw).map V.str) (fun a' H1 h=>⟨h.2,rfl⟩) ?_ ?_ ?_
   ·rintro a' H1 ⟨rfl,rfl⟩ i ys G hi ⟨rfl,rfl⟩;refine ⟨SqL.of (s25 _ _ h4),?_⟩;rw [aa] at hi;rw [hdr] at ld20;rw [aa,aa,bP];omega
   ·rintro a' H1 ⟨rfl,rfl⟩ i u ys G hu ⟨rfl,rfl⟩;obtain ⟨z,hz,rfl⟩:∃ z,(n :: ns)[i]?=some z/\u=.int z:=by
     rw [cw] at hu;obtain ⟨x,h1,h2⟩:=c8.mp hu;exact ⟨x,h1,h2.symm⟩
    have oz:=ok.dr z (by rw [hdr]; exact bS hz);refine aG ⟨rfl,?_⟩;unfold rT;refine cV ?_;refine ⟨_,rfl,_,rfl,mI oz,rfl,?_⟩;rw [cX,hz,bA,bA];rfl
   ·rintro a' H1 ⟨rfl,rfl⟩ ys G ⟨rfl,rfl⟩ l6 hl6;rw [aa,bZ];have s6:=aD hl6 (.lst (((n :: ns).map shw).map V.str));have ji:=join_ints ok.ld ok.dr;rw [hdr] at ji ld20;have jn:jsz " " ("  draws" :: (n :: ns).map shw)<=500:=by
     rw [jsz_cons,e5,sp1];omega
    have jl:=iX " " ("  draws" :: (n :: ns).map shw);refine ⟨l5,l6,_,_,rfl,rfl,s6 _ _ h5,ao,?_,fun l7 hl7=>?_⟩
    ·rw [aa,aa];show 1 + _<=_;omega
    have s7:=aD hl7 (.lst ([V.str "  draws"]++((n :: ns).map shw).map V.str));refine ⟨_,l7,"  draws" :: (n :: ns).map shw,rfl,rfl,.inl (SqL.of ao),by omega,m,_,_,rfl,rfl,s7 _ _ (s6 _ _ (s5 _ _ hG2)),?_,?_⟩
    ·rw [aa,ae,ae,aa,aa];show 1 + _ + _ < _;omega
    ·refine hk _ ⟨fv ((s25.trans s6).trans s7) hm,?_⟩;rw [ao,hdr];have e6:("  draws":Str)++" "="  draws ":=by decide +kernel
     have e7:bB " " ("  draws" :: (n :: ns).map shw)="  draws "++bB " " ((n :: ns).map shw):=by
      rw [bu,cR,e6]
     rw [e7];simp [drawL]
abbrev nMt:List Str:=["machines","lines","machine"]
abbrev pMt:List Str:=["machines"]
theorem scMt:cH nMt pMt (bf lJ):=⟨rfl,rfl,rfl,by decide +kernel,rfl,by decide +kernel,by decide +kernel⟩
inductive spMtI (vs:List V) (H:Hp) (Q:VK) (_e:XK):Prop where
 | mk (l:aj) (ms:List V) (Ms:List Mc) (_:vs=[.ref l]) (_:H l=some (.lst ms)) (_:MsIn H Ms ms) (_:Ms.length<=6) (_:∀ H',cB H H'->Q (.str (textOf Ms)) H'):spMtI vs H Q _e
def spMt:Sp:=fun vs H Q _e=>spMtI vs H Q _e
theorem ok_mt (D:Df K mg "model_text" lJ pMt f fd) (DM:Df K mg "machine_lines" iw pMl fM fdM) (GM:cQ P w K mg base CX0 23 fM fdM pMl spMl) (B:Bl mg):cQ P w K mg base CX0 24 f fd pMt spMt:=by
 refine D.F.ok scMt (fun vs H Q E h=>?_) (fun cdv A outer s H vs Q E hr h=>?_)
 ·obtain ⟨l,ms,Ms,rfl,_⟩:=h;rfl
 obtain ⟨l,ms,Ms,rfl,hl,hM,l6,q⟩:=h;refine ⟨_,aH (cq (i:=1) scMt.nd rfl (Or.inl rfl) (cZ ak))
  (aH (jt cN rfl (eV (pv 0)) (cT (i:=2) scMt.nd rfl (Or.inl rfl)) (aI (dI (d9 aP gQ gR oG (pv 1) (gT (bq GM hr (by rfl) DM.m DM.F.kp DM.b .nil bQ (bI (pv 2) ak)) ak)))))
  (aI (bE (d9 bz cF cG ie aO (bI (pv 1) ak))))),?_⟩
 have big:10000 < ax:=by decide
 obtain ⟨b1,b2⟩:=ms_bound hM l6;refine aB (bT ⟨aR _,fun m hm=>aG ?_⟩);dsimp only;have sm:=aD hm (.lst []);refine aB ⟨_,rfl,l,rfl,⟨ms,SqL.of (sm _ _ hl)⟩,gW (xs:=ms) (fun i σ G=>∃ u2,σ=[some (.ref l),some (.ref m),u2]/\cB H G/\G m=some (.lst (((Ms.take i).flatMap Mc.lines).map V.str))) ⟨none,rfl,sm,ao⟩ ?_ ?_ ?_⟩
 ·rintro i σ G hi ⟨u2,rfl,sg,_⟩;exact SqL.of (sg _ _ hl)
 ·rintro i u σ G hu ⟨u2,rfl,sg,hG⟩;obtain ⟨M,hx,hM1,ok⟩:=fG hM hu;have lM:=(hM1.lines ok).1;have lT:((Ms.take i).flatMap Mc.lines).length<=2400:=by
   have e:(Ms.flatMap Mc.lines).length=((Ms.take i).flatMap Mc.lines).length + ((Ms.drop i).flatMap Mc.lines).length:=by
    conv=>lhs; rw [<- iO i Ms]
    rw [rJ,ae]
   omega
  refine aG ?_;dsimp only;refine ⟨_,rfl,.inl ⟨rfl,_,SqL.of hG⟩,_,rfl,u,M,rfl,hM1.same sg,ok,fun m1 G1 hm1 h1 s1=>?_⟩;refine ⟨m,m1,_,_,rfl,rfl,s1 _ _ hG,h1,by rw [aa,aa]; omega,?_⟩;refine ⟨_,rfl,fv (sg.trans s1) hm,?_⟩;rw [ao,cX,hx];simp
 ·rintro σ G ⟨u2,rfl,sg,hG⟩;rw [<- paired_len hM,bZ] at hG;exact ⟨rfl,_,rfl,_,m,_,rfl,rfl,.inl (SqL.of hG),b2,q _ sg⟩
end
theorem jn_two {m:Str} {a b:List Str} (ha:a≠[]) (hb:b≠[]):bB " " [m,jn a,jn b]=jn (m :: (a++b)):=by
 rw [jn_c (by simp [ha]),jn_a ha hb,cR];rfl
theorem gU.fi {H:Hp} {f:Fo} {v:V} (h:gU H f v):f.Ok->FI H f.n v (jn f.ws):=by
 induction h with
 | num e=>exact fun k=>.num e k
 | box e=>exact fun k=>.box e k
 | long e=>exact fun k=>.long e k
 | got e=>exact fun k=>.got e k
 | now e=>exact fun k=>.now e
 | @two t k m a b x y e _ _ ih1 ih2 =>
  intro k;have z:=FI.two (n:=1 + a.n + b.n) e k.1 (ih1 k.2.1) (ih2 k.2.2) (by omega);rw [jn_two a.ws_ne b.ws_ne] at z;exact z
theorem gU.fi15 {H:Hp} {f:Fo} {v:V} (h:gU H f v) (k:F15 f):FI H 15 v (jn f.ws):=(gU.fi h k.1).le k.2
def AsDs' (H:Hp) (n:Nat) (ds:List De) (vs:List V):Prop:=∃ rs:List Rw,cK (fun r v=>DI H n v r) rs vs/\rowsC rs=CnD n ds/\∀ e,rowsL rs (cu e)=LsD n e ds
theorem prs_rows {H:Hp} {m n:Nat} (one:∀ d v fp,DeF H m d v fp->OkD n d->∃ r:Rw,DI H n v r/\r.1=oR n d/\∀ e,r.2 (cu e)=lsD n e d) {ds:List De} {vs:List V} {fp:List aj} (h:Prs (DeF H m) ds vs fp):(∀ d∈ds,OkD n d)->AsDs' H n ds vs:=by
 induction h with
 | nil=>exact fun _=>⟨[],.nil,rfl,fun e=>rfl⟩
 | cons a _ ih =>
  intro ok;obtain ⟨r,h1,h2,h3⟩:=one _ _ _ a (ok _ aw);obtain ⟨rs,k1,k2,k3⟩:=ih fun x m=>ok x (ar _ m);refine ⟨r :: rs,.cons h1 k1,?_,fun e=>?_⟩
  ·rw [jy,<- h2,<- k2];rfl
  ·rw [hU,<- h3,<- k3];rfl
theorem DeF.di {H:Hp}:∀ {n m:Nat} {d:De} {v:V} {fp:List aj},DeF H m d v fp->OkD n d->∃ r:Rw,DI H n v r/\r.1=oR n d/\∀ e,r.2 (cu e)=lsD n e d
 | 0,_,_,_,_,_,o=>absurd o (fun z=>z)
 | _ + 1,0,_,_,_,h,_=>h.elim
 | n + 1,m + 1,d,v,fp,h,o=>by
  have sub:∀ {ds:List De} {vs:List V} {fq:List aj},Prs (DeF H m) ds vs fq->(∀ d∈ds,OkD n d)->AsDs' H n ds vs:=fun h=>prs_rows (fun d v fp a b=>DeF.di a b) h
  cases d with
  | fin =>
   obtain ⟨⟨t,rfl,e⟩,_⟩:=h;exact ⟨_,.inl ⟨_,.fin e,rfl⟩,rfl,fun e=>rfl⟩
  | three a b f =>
   obtain ⟨⟨t,u,rfl,e,e2⟩,_⟩:=h;obtain ⟨h1,h2,h3⟩:=o;refine ⟨_,.inl ⟨_,.three e (by simpa using h1) h2 (gU.fi15 e2 h3),rfl⟩,rfl,fun e=>?_⟩;show [cu e++bB " " [a,b,jn f.ws]]=[cu e++jn (a :: b :: f.ws)];rw [jn_c (by simp),jn_c f.ws_ne,cR];rfl
  | send z x f1 y f2 f3 =>
   obtain ⟨⟨t,u1,u2,u3,rfl,e,e1,e2,e3⟩,_⟩:=h;obtain ⟨h1,h2,h3,h4,h5,h6⟩:=o;refine ⟨_,.inl ⟨_,.send e h1 h2 h3 (gU.fi15 e1 h4) (gU.fi15 e2 h5) (gU.fi15 e3 h6),rfl⟩,rfl,fun e=>?_⟩;have n23:f2.ws++f3.ws≠[]:=by simp [f2.ws_ne]
   have n123:f1.ws++(f2.ws++f3.ws)≠[]:=by simp [f1.ws_ne]
   show [cu e++bB " " ["send",nt z,x,nt y,jn f1.ws,jn f2.ws,jn f3.ws]]=[cu e++jn ("send" :: nt z :: x :: nt y :: (f1.ws++(f2.ws++f3.ws)))];rw [jn_c (by simp),jn_c (by simp),jn_c (by simp),jn_c n123,jn_a f1.ws_ne n23,jn_a f2.ws_ne f3.ws_ne,cR,cR,cR,cR,cR,cR];rfl
  | pull x y ds =>
   obtain ⟨t,l,vs,as,rfl,e1,e2,e3,rfl⟩:=h;obtain ⟨h1,h2,h3,n0⟩:=o;obtain ⟨rs,k1,k2,k3⟩:=sub e3 h3;refine ⟨_,.inr (.inl ⟨t,l,x,y,vs,rs,n0,rfl,e1,h1,h2,e2,k1,rfl⟩),?_,fun e=>?_⟩
   ·show 1 + rowsC rs=1 + CnD n ds;rw [k2]
   ·show (cu e++bB " " ["pull",x,y]) :: rowsL rs (cu e++"  ")=ln e ["pull",x,y] :: LsD n (e + 1) ds;rw [blanks_succ,k3];rfl
  | iff f as bs =>
   obtain ⟨t,l1,l2,u,v1,v2,a1,a2,rfl,e1,ef,e2,e3,e4,e5,rfl⟩:=h;obtain ⟨h1,h2,h3,n0⟩:=o;obtain ⟨rs1,k1,k2,k3⟩:=sub e3 h2;obtain ⟨rs2,q1,q2,q3⟩:=sub e5 h3;refine ⟨_,.inr (.inr ⟨t,l1,l2,u,_,v1,v2,rs1,rs2,n0,rfl,e1,gU.fi15 ef h1,e2,e4,k1,q1,rfl⟩),?_,fun e=>?_⟩
   ·show 1 + rowsC rs1 + rowsC rs2=1 + (CnD n as + CnD n bs);rw [k2,q2];omega
   ·show (cu e++(("if ":Str)++jn f.ws)) :: (rowsL rs1 (cu e++"  ")++(cu e++"else") :: rowsL rs2 (cu e++"  "))=ln e ("if" :: f.ws) :: (LsD n (e + 1) as++ln e ["else"] :: LsD n (e + 1) bs);have e1:ln e ("if" :: f.ws)=cu e++(("if ":Str)++jn f.ws):=by
     unfold ln;rw [jn_c f.ws_ne,show ("if ":Str)="if"++" " by decide]
    rw [blanks_succ,k3,q3,e1];rfl
theorem hears_rows {H:Hp} {xs:List (Str×List De)} {hs:List V} {fp:List aj} (h:Prs (HrF H) xs hs fp):(∀ x∈xs,OkH x)->∃ hr:List (Str×List Rw),cK (HrI H) hr hs/\hr.map (·.1)=xs.map (·.1)/\(∀ x∈hr,rowsC x.2<=20)/\hr.flatMap hearL=(xs.map lsH).flatten:=by
 induction h with
 | nil=>exact fun _=>⟨[],.nil,rfl,(fun d m=>by cases m),rfl⟩
 | @cons x v a xs hs fq i _ ih =>
  intro ok;obtain ⟨t,l,us,as,rfl,e1,e2,p,rfl,_⟩:=i;obtain ⟨o1,o2,o3⟩:=ok x aw;obtain ⟨rs,k1,k2,k3⟩:=prs_rows (n:=5) (fun d v fp a b=>DeF.di a b) p o2;obtain ⟨hr,q1,q2,q3,q4⟩:=ih fun y m=>ok y (ar _ m);refine ⟨(x.1,rs) :: hr,.cons ⟨t,l,us,rfl,e1,e2,k1⟩ q1,?_,fun y m=>?_,?_⟩
  ·rw [bu,bu,q2]
  ·rcases au.mp m with rfl | m
   ·show rowsC rs<=20;omega
   ·exact q3 y m
  ·rw [bu,iZ,i4,q4];show ("  on "++x.1) :: rowsL rs "    "++_=ln 1 ["on",x.1] :: LsD 5 2 x.2++_;rw [<- k3,w_on,show cu 2="    " by decide]
theorem MoF.mi {H:Hp} {X:Mo} {v:V} {fp:List aj} (h:MoF H X v fp) (ok:OkM X):∃ M:Mc,MI H M v/\McOk M/\M.lines=lsM X:=by
 obtain ⟨t,lb,lq,ld,lh,bs,hs,fh,rfl,e1,e2,e3,e4,e5,e6,e7,rfl⟩:=h;obtain ⟨hr,q1,q2,q3,q4⟩:=hears_rows e7 ok.hr;have lr:=congrArg fZ q2;rw [aa,aa] at lr;have hn:∀ h∈hr,Nam h.1:=fun h m=>by
  have:h.1∈hr.map (·.1):=jA m;rw [q2] at this;obtain ⟨y,my,ey⟩:=cO.mp this;rw [<- ey];exact (ok.hr y my).1
 have l4:=ok.h4;refine ⟨⟨X.nm,X.bx,X.qs,X.dr,hr⟩,⟨t,lb,lq,ld,lh,bs,hs,rfl,e1,e2,e3,e4,e5,e6,q1⟩,⟨⟨ok.nm,ok.b6,ok.q3,by show hr.length<=4; omega,fun b m=>(ok.bx b m).1,ok.qs,fun z m=>(ok.dr z m).2,hn,ok.nd,by show (hr.map (·.1)).Nodup; rw [q2]; exact ok.ndh⟩,ok.nm.2.1,bC ok.b6 (by decide),fun q m=>⟨(ok.bx q m).1.2.1,(ok.bx q m).2⟩,bC ok.q3 (by decide),fun x m=>(ok.qs x m).2.1,ok.d20,fun z m=>(ok.dr z m).1,by show hr.length<=9; omega,fun h m=>⟨(hn h m).2.1,q3 h m⟩⟩,?_⟩;unfold lsM lB Mc.lines bxL qsL;dsimp only;rw [q4,w_machine,w_draws,bo,bo,bo];rw [show X.bx.map boxL=X.bx.map (fun b=>ln 1 ["box",b.1,nt b.2]) from mP fun b _=>w_box b,show X.qs.map queL=X.qs.map (fun q=>ln 1 ["queue",q]) from mP fun b _=>w_queue b];rfl
theorem ms_mi {H:Hp} {xs:List Mo} {us:List V} {fp:List aj} (h:Prs (MoF H) xs us fp):(∀ M∈xs,OkM M)->∃ Mt:List Mc,MsIn H Mt us/\Mt.flatMap Mc.lines=(xs.map lsM).flatten/\Mt.length=xs.length:=by
 induction h with
 | nil=>exact fun _=>⟨[],.nil,rfl,rfl⟩
 | cons a _ ih =>
  intro ok;obtain ⟨M,h1,h2,h3⟩:=MoF.mi a (ok _ aw);obtain ⟨Mt,k1,k2,k3⟩:=ih fun x m=>ok x (ar _ m);exact ⟨M :: Mt,.cons ⟨h1,h2⟩ k1,by rw [bu,iZ,i4,h3,k2],by rw [aE,aE,k3]⟩
end My.Dr
namespace HT
open PySem PyProof.Rows
open PySem.SeqAt
open PySem.AutoSeq1 (wpAny_loadPart')
open PySem.MeetsSeq PySem.MeetsSeq2 PySem.MeetsSeq3
def RmAt (A:bJ) (s:ah) (its:Array ag) (x:ag) (j:Nat):Prop:=∀ m (h:m < its.size),m<=j->EqAt A s its[m] x (decide (m=j))
theorem zq (l:aj) (its:Array ag) (n:Nat) (x:ag) (j:Nat) (hj:j < its.size) (hz:its.size<=ax) :
  ∀ (d i:Nat),i + d=j->Meets (km.«list.remove.loop» ⟨[.ref l,x,kX i],[]⟩)
   (fun A R s=>(s.heap.get? l=some ⟨.type "list",none,.seq its n,#[]⟩/\RmAt A.in1 s its x j)/\R (.ok (.ret .none)) {s with heap:=s.heap.update l (j0 fun ys=>ys.eraseIdxIfInBounds j)})
 | 0,i,e=>by
  intro prog w A R s h;obtain ⟨hp,g,dd,tk,os⟩:=s;obtain ⟨⟨hl,he⟩,h⟩:=h;have ei:i=j:=by omega
  subst ei;have hi:its[((i:Nat):Int).toNat]?=some its[i]:=by simp [hj]
  have small:(its.eraseIdxIfInBounds i).size<=ax + 1:=bC (size_erased its _) (by omega);have q:=he i hj (aF _);rw [decide_eq_true rfl] at q
  wp_walk using eC hl
  rw [hi];refine af (q prog w _ _ ?_)
  wp_walk using (wpAny_updateSeq hl rfl (hz:=hz) (_hz':=small)),eC hl
  simpa using h
 | d + 1,i,e=>by
  intro prog w A R s h;obtain ⟨hp,g,dd,tk,os⟩:=s;obtain ⟨⟨hl,he⟩,h⟩:=h;have li:i < its.size:=by omega
  have hi:its[((i:Nat):Int).toNat]?=some its[i]:=by simp [li]
  have up:((i:Int) + 1)=((i + 1:Nat):Int):=by omega
  have q:=he i li (by omega);rw [decide_eq_false (show ¬ i=j by omega)] at q
  wp_walk using eC hl
  rw [hi];refine af (q prog w _ _ ?_)
  wp_walk
  rw [up];refine ⟨qm plain_remove_loop _,rG entry_remove_loop ?_⟩;rw [i5 plain_remove_loop _];exact zq l its n x j hj hz d (i + 1) (by omega) prog w A R _ ⟨⟨hl,he⟩,h⟩
theorem rm_all (l:aj) (its:Array ag) (n:Nat) (x:ag) (j:Nat) (hj:j < its.size) (hz:its.size<=ax) :
  Meets (km.«list.remove» ⟨[.ref l,x],[]⟩)
   (fun A R s=>(s.heap.get? l=some ⟨.type "list",none,.seq its n,#[]⟩/\RmAt A.in1 s its x j)/\R (.ok (.ret .none)) {s with heap:=s.heap.update l (j0 fun ys=>ys.eraseIdxIfInBounds j)}):=by
 intro prog w A R s h;obtain ⟨hp,g,dd,tk,os⟩:=s;obtain ⟨⟨hl,he⟩,h⟩:=h
 wp_walk using eC hl
 refine ⟨qm plain_remove_loop _,rG entry_remove_loop ?_⟩;rw [i5 plain_remove_loop _];exact zq l its n x j hj hz j 0 (by omega) prog w A R _ ⟨⟨hl,he⟩,h⟩
end HT
namespace L2
open PySem PySem.Spec PyProof.Rows
section
variable {X:Cx}
def Gg:V->List V->Hp->VK->Prop:=fun x vs H Q=>∃ l xs y j n,x=.ref l/\vs=[y]/\H l=some (.lst xs)/\j < xs.length/\n<=20/\(∀ m z,m<=j->xs[m]?=some z->BEq H n z y (decide (m=j)))/\Q .non (upd H l (.lst (xs.eraseIdx j)))
theorem Cf (hu:X.A.units + 50 < gp):MtM X "list.remove" Gg:=by
 intro pins s σ H x vs v us Q I rx rv h;obtain ⟨l,xs,y,j,nn,rfl,rfl,hH,hj,hn,hb,q⟩:=h
 cases rx;obtain ⟨u,rfl,ru⟩:=rv.one;obtain ⟨z,its,n,r,hl,e⟩:=I.lstM hH;have ll:=r.length;have hit:HT.RmAt X.A.in1 s its.toArray u j:=fun m hm hmj=>by
  have lm:m < its.length:=by simpa using hm
  have lx:m < xs.length:=by omega
  obtain ⟨w',hw,rw'⟩:=r.get (aN lx);have ew:its.toArray[m]=w':=by
   have:=(aQ.mp hw).2;simpa using this
  rw [ew];exact Dx I.hok (by show X.A.units + 1 + nn < gp; omega) (hb m _ hmj (aN lx)) rw' ru
 refine o9 F.slot_list_remove ⟨_,e,rfl⟩ F.entry_list_remove (F.args_list_remove_2 _ _) (HT.rm_all l its.toArray n u j (by rw [aA]; omega) (by rw [aA]; omega)) ⟨⟨e,hit⟩,?_⟩;refine ⟨.non,_,I.lset (its':=its.eraseIdx j) hH e ?_ (r.eraseIdx j) ?_,rfl,q⟩
 ·simp
 ·rw [List.length_eraseIdx]
  split <;> omega
end
section
variable {X:Cx}
theorem Cg:MtR X "str.lstrip" (fun x vs H Q=>∃ t z,x=.str t/\vs=[.str z]/\t.length<=ax/\Q (.str (vQ t z)) H):=by
 intro pins s σ H x vs v us Q I rx rv h;obtain ⟨t,z,rfl,rfl,hl,q⟩:=h;obtain ⟨k,rfl⟩:=rx;obtain ⟨u,rfl,ru⟩:=rv.one;obtain ⟨k2,rfl⟩:=ru;exact call_gives F.slot_str_lstrip (mj _ _ _) F.entry_str_lstrip (F.args_str_lstrip_2 _ _) (gives_str_lstrip_chars t z k k2) (post_val_or_made (fun _=>fits_stripped _ _ _ hl) fun t' k'=>⟨.str _,H,I.tok _,⟨t',rfl⟩,q⟩)
theorem EJ {K:ai} {a:aj} {xs:List V} {n:Nat} {g:TG} {tc:TT} {te:TE} {σ:St} {H:Hp} {Q:VK} (Pv:Nat->List V->Hp->Prop) (h0:Pv 0 [] H) (hl:∀ i ys H,i<=xs.length->Pv i ys H->SqL K H a xs/\ys.length < ax)
  (hs:∀ i x ys H,xs[xs.length - 1 - i]?=some x->i < xs.length->Pv i ys H->g x (aJ n none++σ) H fun σ2 H2=>σ2.drop n=σ/\tc σ2 H2 fun b H3=>if b=true then te σ2 H3 fun y H4=>Pv (i + 1) (ys++[y]) H4 else Pv (i + 1) ys H3)
  (hd:∀ ys H,Pv xs.length ys H->∀ p,H p=none->Q (.ref p) (upd H p (.lst ys))) :
  ∃ W:Nat->Nat->List V->Hp->Prop,(∃ m,W 0 m [] H)/\∀ i m ys H,W i m ys H->ys.length < ax/\(((Itv K a xs).stop i H/\∀ p,H p=none->Q (.ref p) (upd H p (.lst ys))) \/
   ((Itv K a xs).go i H/\∃ N:List V->Hp->Prop,(∀ ys' H',N ys' H'->∃ m',m' < m/\W (i + 1) m' ys' H')/\∀ v H',(Itv K a xs).yld i H v H'->g v (aJ n none++σ) H' fun σ2 H2=>σ2.drop n=σ/\tc σ2 H2 fun b H3 =>
    if b=true then te σ2 H3 fun y H4=>N (ys++[y]) H4 else N ys H3)):=by
 refine ⟨fun i m ys H=>m=xs.length - i/\i<=xs.length/\Pv i ys H,⟨xs.length,by simp,aR _,h0⟩,?_⟩;rintro i m ys H ⟨rfl,hi,p⟩;obtain ⟨hq,hz⟩:=hl i ys H hi p;refine ⟨hz,?_⟩
 by_cases hlt:i < xs.length
 ·refine .inr ⟨⟨hq,hlt⟩,Pv (i + 1),fun ys' H' p'=>⟨xs.length - (i + 1),by omega,rfl,hlt,p'⟩,fun v H' y=>?_⟩;obtain ⟨rfl,y⟩:=y;exact hs i v ys _ y hlt p
 ·have e:i=xs.length:=by omega
  subst e;exact .inl ⟨rfl,hd ys H p⟩
end
end L2
namespace My.Dr
open PySem L2
theorem sl_to (x:Str) (k:Nat) (h:k<=x.length):(dP x none (some (k:Int))).cps.toList=x.cps.toList.take k:=by
 have lx:x.cps.toList.length=x.length:=bY;rw [beq_iff_eq.mp (PyProof.Rows.slice_closes_to (x:=x) (j:=(k:Int)) ⟨by omega,by omega⟩)];simp
theorem str_of {x y:Str} (h:x.cps.toList=y.cps.toList):x=y:=kz (hV.mp h)
theorem blanks_inj {a b:Nat} (h:cu a=cu b):a=b:=by
 have:=congrArg C1 h;rw [gi,gi] at this;omega
theorem take_rep {a:Nat} {t:List Nat} (na:a≠32):∀ m:Nat,((aJ m 32++a :: t).takeWhile (#[32]:Array Nat).contains).length=m
 | 0=>by
  rw [Cj,lY,Ck,if_neg]
  ·rfl
  ·simp [na]
 | m + 1=>by
  rw [dy,kU,Ck,if_pos (by simp),aE,take_rep na m]
theorem strip_ln {e:Nat} {ws:List Str} (g:GL ws):vQ (ln e ws) " "=jn ws:=by
 obtain ⟨a,t,ha,na⟩:=g.head;have hb:(cu e).cps.toList=aJ (2 * e) 32:=eR e;have hx:(ln e ws).cps.toList=aJ (2 * e) 32++a :: t:=by
  unfold ln;rw [dX,hb,ha]
 have lo:PySem.stripLo (" ":Str).cps.contains true (ln e ws)=2 * e:=by
  show ((ln e ws).cps.toList.takeWhile (#[32]:Array Nat).contains).length=_;rw [hx,take_rep na]
 have ll:(ln e ws).length=2 * e + (jn ws).length:=by unfold ln; rw [aL,gi]
 have st:Gh (" ":Str).cps.contains true false (ln e ws)=jn ws:=by
  unfold Gh;rw [lo];refine str_of ?_;show ((ln e ws).cps.extract (2 * e) (ln e ws).length).toList=_;rw [qT,ll];show ((ln e ws).cps.toList.drop (2 * e)).take (2 * e + (jn ws).length - 2 * e)=_;rw [zB,hx,List.drop_left' (by rw [cW]),<- ha,da (by exact zI bY)]
 unfold vQ Txt.stripBy
 split
 ·rename_i c
  unfold PySem.stripSame at c;rw [lo,dA,beq_iff_eq] at c;have e0:e=0:=by omega
  subst e0;refine str_of ?_;rw [hx,ha];rfl
 ·exact st
theorem cut_ln {e:Nat} {ws:List Str}:dP (ln e ws) none (some ((2 * e:Nat):Int))=cu e:=by
 have ll:(ln e ws).length=2 * e + (jn ws).length:=by unfold ln; rw [aL,gi]
 refine str_of ?_;rw [sl_to _ _ (by omega)];unfold ln;rw [dX,Gi (by rw [eR,cW])]
theorem if_yes {ws:List Str} (ne:ws≠[]):dP (jn ("if" :: ws)) none (some 3)="if ":=by
 have e:jn ("if" :: ws)="if "++jn ws:=by rw [jn_c ne,show ("if":Str)++" "="if " by decide]
 have l3:("if ":Str).length=3:=by decide
 rw [e];refine str_of ?_;rw [show (3:Int)=((3:Nat):Int) from rfl,sl_to _ _ (by rw [aL,l3]; omega),dX,Gi (by decide)]
theorem kind_if:∀ w∈[("end":Str),"put","push","draw","send","pull","box","queue","draws","on","machine","else"],w.cps.toList.head?≠some 105:=by decide +kernel
theorem slice_head {x:Str} (h:x.cps.toList.head?≠some 105):dP x none (some 3)≠"if ":=fun z=>by
 have lx:x.cps.toList.length=x.length:=bY;have l3:("if ":Str).cps.toList=[105,102,32]:=by decide
 have l3':("if ":Str).length=3:=by decide
 by_cases c:3<=x.length
 ·have:=sl_to x 3 c;rw [show ((3:Nat):Int)=3 from rfl,z,l3] at this;have h2:=congrArg nU this;rw [List.head?_take,if_neg (by decide)] at h2;exact h h2.symm
 ·have:=tZ x none (some 3);rw [z] at this;omega
theorem jn_head {w:Str} {r:List Str} (h:w.cps.toList≠[]):(jn (w :: r)).cps.toList.head?=w.cps.toList.head?:=by
 cases r with
 | nil=>rfl
 | cons a r =>
  rw [jn_c (by simp),dX,dX]
  cases e:w.cps.toList with
  | nil=>exact absurd e h
  | cons b t=>rfl
theorem if_no {w:Str} {r:List Str} (h:w∈[("end":Str),"put","push","draw","send","pull","box","queue","draws","on","machine","else"]):dP (jn (w :: r)) none (some 3)≠"if ":=by
 refine slice_head ?_;rw [jn_head]
 ·exact kind_if w h
 ·have:=HG w;revert h this;intro h this;simp only [au,kW,or_false] at h
  rcases h with rfl | rfl | rfl | rfl | rfl | rfl | rfl | rfl | rfl | rfl | rfl | rfl <;> decide
theorem else_no {ws:List Str} (g:GL ws) (n:ws≠[("else":Str)]):jn ws≠"else":=fun z=>by
 have:ln 0 ws=ln 0 ["else"]:=by
  unfold ln;rw [z];rfl
 exact n (ln_inj g ir this).2
theorem rep_le:∀ {m n:Nat},m<=n->¬ (aJ n 32 < aJ m 32)
 | 0,n,_=>by
  rw [Cj];exact List.not_lt_nil _
 | m + 1,0,h=>absurd h (by omega)
 | m + 1,n + 1,h=>by
  rw [dy,dy,List.cons_lt_cons_iff];rintro (z | ⟨_,z⟩)
  ·exact absurd z (by decide)
  ·exact rep_le (by omega) z
theorem sorted_os {O os:List Nat} {ss:List Str} (p:O.Perm os) (d:Dec 5 2 os) (hp:ss.Perm (O.map cu)) (hs:PyProof.Rows.sortedS ss=true):ss=(os.map cu).reverse:=by
 refine List.Perm.eq_of_pairwise (le:=fun a b:Str=>a.cps.toList<=b.cps.toList) (fun _ _ _ _ a b=>L2.str_same (List.le_antisymm a b)) (L2.sorted_pw hs) ?_ (hp.trans ((p.map cu).trans (List.reverse_perm _).symm));rw [List.pairwise_reverse,List.pairwise_map];refine d.1.imp fun {a b} h=>?_;rw [eR,eR];exact rep_le (by omega)
theorem er_map {α β:Type} (f:α->β) (xs:List α) (i:Nat):(xs.map f).eraseIdx i=(xs.eraseIdx i).map f:=by
 rw [t8,t8,bA,lC,yh]
theorem comp_revT {K:ai} {n:Nat} {ta:TA} {g:TG} {tc:L2.TT} {te:TE} {σ:St} {H:Hp} {Q:VK} {xs:List V} (PP:aj->Hp->Prop) (hi:∀ R:List V->Hp->Prop,(∀ a H1,PP a H1->R [.ref a] H1)->ta σ H R) (hx:∀ a H1,PP a H1->SqL K H1 a xs) (Pv:aj->Hp->Nat->List V->Hp->Prop) (h0:∀ a H1,PP a H1->Pv a H1 0 [] H1)
  (hl:∀ a H1,PP a H1->∀ i ys G,i<=xs.length->Pv a H1 i ys G->SqL K G a xs/\ys.length < ax)
  (hs:∀ a H1,PP a H1->∀ i x ys G,xs[xs.length - 1 - i]?=some x->i < xs.length->Pv a H1 i ys G->g x (aJ n none++σ) G fun σ2 H2=>σ2.drop n=σ/\tc σ2 H2 fun b H3=>if b=true then te σ2 H3 fun y H4=>Pv a H1 (i + 1) (ys++[y]) H4 else Pv a H1 (i + 1) ys H3)
  (hd:∀ a H1,PP a H1->∀ ys G,Pv a H1 xs.length ys G->∀ p,G p=none->Q (.ref p) (upd G p (.lst ys))):nG n (iRev K ta) g tc te σ H Q:=
 hi _ fun a H1 p=>⟨a,xs,rfl,hx a H1 p,EJ (Pv a H1) (h0 a H1 p) (hl a H1 p) (hs a H1 p) (hd a H1 p)⟩
section
variable {P:aS} {w:bN} {K:ai} {mg:Str->Option ag} {base:cI} {f:aj} {fd:cf}
seal L2.PS L2.PSs L2.PE L2.PA L2.PT L2.PW L2.PI L2.PG L2.PGs L2.PC L2.PSC L2.PSsC L2.PEC L2.PAC L2.PPs
abbrev nCl:List Str:=["_law_lines_here","_law_open_ones","_law_line","_law_word","_law_ahead"]
abbrev pCl:List Str:=["_law_lines_here"]
theorem scCl:cH nCl pCl (bf kb):=⟨rfl,rfl,rfl,by decide +kernel,rfl,by decide +kernel,by decide +kernel⟩
abbrev nnCl:List Str:=["_law_lines_here","_law_open_ones","_law_line","_law_word","-"]
theorem ndCl:((["_law_ahead"]:List Str)++nnCl).Nodup:=by decide +kernel
inductive spClI (vs:List V) (H:Hp) (Q:VK) (_e:XK):Prop where
 | mk (l:aj) (ls:List Str) (O os:List Nat) (_:vs=[.ref l]) (_:H l=some (.lst (ls.map V.str))) (_:Opn [] ls O) (_:O.Perm os) (_:Dec 5 2 os) (_:(∀ o∈os,o<=7)) (_:ls.length<=10000) (_:(∀ x∈ls,x.length<=5000)) (_:∀ (m:aj) (H':Hp),H' m=some (.lst ((ls++elseL os).map V.str))->cB H H'->Q (.ref m) H'):spClI vs H Q _e
def spCl:Sp:=fun vs H Q _e=>spClI vs H Q _e
theorem ok_cl (D:Df K mg "_law_closed" kb pCl f fd) (MR:mg "reversed"=none) (MS:mg "sorted"=none) (B:Bl mg):cQ P w K mg base CX0 1 f fd pCl spCl:=by
 refine D.F.ok scCl (fun vs H Q E h=>?_) (fun cdv A outer s H vs Q E hr h=>?_)
 ·obtain ⟨l,ls,O,os,rfl,_⟩:=h;rfl
 obtain ⟨l,ls,O,os,rfl,hl,op,pm,dc,o7,l10,x3,q⟩:=h;have h50:=Fn hr;have big:100000 < ax:=by decide
 refine ⟨_,aH (cq (i:=1) scCl.nd rfl (Or.inl rfl) (cZ ak))
  (aH (jt cN rfl (eV (pv 0)) (cT (i:=2) scCl.nd rfl (Or.inl rfl)) (aH (cq (i:=3) scCl.nd rfl (Or.inl rfl) (d9 bz PySem.F.slot_str_lstrip PySem.F.type_str_lstrip Cg (pv 2) (cS aO ak)))
  (aH (cq (i:=4) scCl.nd rfl (Or.inl rfl) (gM xI (pv 2) i7 (ib (cb qa (cY i8 (by rfl) B.len bX (bI (pv 2) ak)) (cY i8 (by rfl) B.len bX (bI (pv 3) ak))))))
  (aH (df (aZ d8 (gM xI (pv 3) i7 (ib aq)) aO (bD _)) (aI (dI (d9 aP bh bj dR (pv 1) (bI (pv 4) ak)))) bO)
  (aI (df (aZ d8 (pv 3) aO (bD _)) (aI (dI (d9 aP PySem.F.slot_list_remove PySem.F.type_list_remove (Cf h50) (pv 1) (bI (pv 4) ak)))) bO))))))
  (aI (bE (cb j3 (pv 0) (kE ["_law_ahead"] (gE.open (NN:=nnCl) (N:=nCl) (sc:=bf kb) rfl rfl (by decide +kernel) rfl (by decide +kernel) (by decide +kernel) rfl (by decide +kernel)) rfl (DJ (by rfl) MR (gT (cY (xF rfl) (by rfl) MS PyProof.Rows.boot_sorted (bI (pv 1) ak)) ak)) (fun _ _ _ _=>cT (i:=0) ndCl rfl (Or.inl rfl)) (fun _ _ _ _=>ic) (fun _ _ _ _=>cb cD (pv 0) aO)))))),?_⟩
 refine aB (bT ⟨aR _,fun m hm=>aG ?_⟩);dsimp only;have sm:=aD hm (.lst []);refine aB ⟨_,rfl,l,rfl,⟨ls.map V.str,SqL.of (sm _ _ hl)⟩,gW (xs:=ls.map V.str) (fun i σ G=>∃ (Oi:List Nat) (v2 v3 v4:Option V),σ=[some (.ref l),some (.ref m),v2,v3,v4]/\cB H G/\G m=some (.lst ((Oi.map cu).map V.str))/\Opn Oi (ls.drop i) O/\Oi.length<=i) ⟨[],none,none,none,rfl,sm,ao,op,aR _⟩ ?_ ?_ ?_⟩
 ·rintro i σ G hi ⟨Oi,v2,v3,v4,rfl,sg,_⟩;exact SqL.of (sg _ _ hl)
 ·rintro i u σ G hu ⟨Oi,v2,v3,v4,rfl,sg,hG,opi,li⟩;obtain ⟨x,hx,rfl⟩:∃ x,ls[i]?=some x/\u=.str x:=by
   rw [cw] at hu;obtain ⟨x,h1,h2⟩:=c8.mp hu;exact ⟨x,h1,h2.symm⟩
  have xl:=x3 x (bS hx);have il:=(aQ.mp hx).1;have ed:ls.drop i=x :: ls.drop (i + 1):=by
   rw [oA il,(aQ.mp hx).2]
  rw [ed] at opi;refine aG ?_;dsimp only;have nx:∀ {O':List Nat} {G':Hp} {v3 v4:Option V},cB H G'->G' m=some (.lst ((O'.map cu).map V.str))->Opn O' (ls.drop (i + 1)) O->O'.length<=i + 1->∃ (Oi:List Nat) (w2 w3 w4:Option V),[some (.ref l),some (.ref m),some (.str x),v3,v4]=[some (.ref l),some (.ref m),w2,w3,w4]/\cB H G'/\G' m=some (.lst ((Oi.map cu).map V.str))/\Opn Oi (ls.drop (i + 1)) O/\Oi.length<=i + 1:=fun a b c d=>⟨_,_,_,_,rfl,a,b,c,d⟩;have go:∀ {e:Nat} {ws:List Str},x=ln e ws->GL ws->(jn ws).length<=x.length/\(x.length:Int) - ((jn ws).length:Int)=((2 * e:Nat):Int):=fun {e ws} z _=>by
   have ll:(ln e ws).length=2 * e + (jn ws).length:=by unfold ln; rw [aL,gi]
   rw [z];omega
  cases opi with
  | @iff _ e ws _ _ g ne k =>
   obtain ⟨g1,g2⟩:=go rfl g;refine aB (bT ⟨_,rfl,rfl,_,_,rfl,rfl,by omega,aG ?_⟩);rw [strip_ln g];dsimp only;refine aB (bT ⟨_,rfl,_,rfl,_,rfl,by omega,_,rfl,_,rfl,by omega,_,_,rfl,rfl,_,rfl,_,rfl,by omega,aG ?_⟩);rw [g2,cut_ln];dsimp only;refine aB ⟨_,rfl,_,rfl,_,rfl,by omega,rfl,_,rfl,?_⟩;rw [if_yes ne,decide_eq_true rfl];refine cV ⟨_,rfl,.inl ⟨rfl,_,SqL.of hG⟩,_,rfl,m,_,_,rfl,rfl,hG,by rw [aa,aa]; omega,?_⟩;refine ⟨_,rfl,rfl,_,rfl,?_⟩;rw [decide_eq_false (fun z=>else_no g (fun z=>absurd (b0 (congrArg nU z)) (by decide)) (V.str.inj z))];refine du ?_;dsimp only [dY];exact nx (fv sg hm) (by rw [ao]; simp) k (by rw [ae]; show _ + 1<=_; omega)
  | @els _ e _ _ me k =>
   obtain ⟨g1,g2⟩:=go rfl ir;refine aB (bT ⟨_,rfl,rfl,_,_,rfl,rfl,by omega,aG ?_⟩);rw [strip_ln ir];dsimp only;refine aB (bT ⟨_,rfl,_,rfl,_,rfl,by omega,_,rfl,_,rfl,by omega,_,_,rfl,rfl,_,rfl,_,rfl,by omega,aG ?_⟩);rw [g2,cut_ln];dsimp only;refine aB ⟨_,rfl,_,rfl,_,rfl,by omega,rfl,_,rfl,?_⟩;rw [decide_eq_false (fun z=>if_no (by decide) (V.str.inj z))];refine du ?_;dsimp only [dY];refine ⟨_,rfl,rfl,_,rfl,?_⟩;rw [show jn ["else"]=("else":Str) from rfl,decide_eq_true rfl];have ij:=List.idxOf_lt_length_of_mem me;refine cV ⟨_,rfl,.inl ⟨rfl,_,SqL.of hG⟩,_,rfl,m,_,_,Oi.idxOf e,0,rfl,rfl,hG,by rw [aa,aa]; exact ij,by decide,fun j z hj hz=>?_,?_⟩
   ·rw [cw,cw] at hz
    cases eo:Oi[j]? with
    | none=>rw [eo] at hz; cases hz
    | some o =>
     rw [eo] at hz
     cases hz;refine .inr ⟨_,_,rfl,rfl,?_⟩
     by_cases c:j=Oi.idxOf e
     ·subst c;rw [aN ij,List.getElem_idxOf] at eo
      cases eo;rw [decide_eq_true rfl,decide_eq_true rfl]
     ·rw [decide_eq_false c,decide_eq_false];intro z;have z:=blanks_inj z;subst z;have jl:=(aQ.mp eo);obtain ⟨jl,je⟩:=jl;have:=List.not_of_lt_findIdx (p:=(· == o)) (xs:=Oi) (i:=j) (show j < Oi.idxOf o by omega);rw [je] at this;simp at this
   ·refine nx (fv sg hm) ?_ k (bC (List.length_erase_le ..) (ET li));rw [ao,er_map,er_map,<- List.erase_eq_eraseIdx_of_idxOf rfl]
  | @oth _ e w r _ _ g mk k =>
   obtain ⟨g1,g2⟩:=go rfl g;refine aB (bT ⟨_,rfl,rfl,_,_,rfl,rfl,by omega,aG ?_⟩);rw [strip_ln g];dsimp only;refine aB (bT ⟨_,rfl,_,rfl,_,rfl,by omega,_,rfl,_,rfl,by omega,_,_,rfl,rfl,_,rfl,_,rfl,by omega,aG ?_⟩);rw [g2,cut_ln];dsimp only;refine aB ⟨_,rfl,_,rfl,_,rfl,by omega,rfl,_,rfl,?_⟩;rw [decide_eq_false (fun z=>if_no (by
    simp only [au,kW,or_false] at mk |-
    rcases mk with h | h | h | h | h | h | h | h | h | h | h <;> simp [h]) (V.str.inj z))]
   refine du ?_;dsimp only [dY];refine ⟨_,rfl,rfl,_,rfl,?_⟩;rw [decide_eq_false (fun z=>else_no g (fun z=>by
    have:=b0 (congrArg nU z);rw [this] at mk;exact absurd mk (by decide)) (V.str.inj z))]
   exact du (nx sg hG k (ET li))
 ·rintro σ G ⟨Oi,v2,v3,v4,rfl,sg,hG,opi,li⟩;rw [aa,uq] at opi
  cases opi;have lO:=pm.length_eq;dsimp only;have l5:=dc.2.2;have le4:("else":Str).length=4:=by decide
  refine eS ⟨_,rfl,comp_revT (K:=K) (xs:=((os.map cu).reverse).map V.str) (fun p G2=>cB H G2/\G2 p=some (.lst (((os.map cu).reverse).map V.str))) (fun R hR=>⟨_,rfl,m,O.map cu,rfl,.inl hG,by rw [aa]; omega,fun p ss hp pp sp=>?_⟩) (fun p G2 h=>SqL.of h.2) (fun p G2 i ys G'=>G'=G2/\i<=os.length/\ys=((elseL os).take i).map V.str) (fun p G2 h=>⟨rfl,aR _,rfl⟩) ?_ ?_ ?_⟩
  ·have es:=sorted_os pm dc pp sp;subst es;exact hR p _ ⟨sg.trans (aD hp (.lst (((os.map cu).reverse).map V.str))),ao⟩
  ·rintro p G2 ⟨sp2,hp2⟩ i ys G' hi ⟨rfl,hi2,rfl⟩;refine ⟨SqL.of hp2,?_⟩;rw [aa,bP];omega
  ·rintro p G2 ⟨sp2,hp2⟩ i u ys G' hu hi ⟨rfl,hi2,rfl⟩;rw [aa,fk,aa] at hu hi;refine aG ⟨rfl,?_⟩;unfold rT;refine cV ?_;rw [cw,Aj (by rw [aa]; omega),aa,cw,show os.length - 1 - (os.length - 1 - i)=i by omega,aN hi] at hu
   cases hu;refine ⟨_,rfl,_,_,rfl,rfl,?_,rfl,hi,?_⟩
   ·rw [gi,le4];have:=o7 os[i] (kS hi);omega
   ·rw [cX,bA];unfold elseL;rw [cw,aN hi];rfl
  ·rintro p G2 ⟨sp2,hp2⟩ ys G' ⟨rfl,hi2,rfl⟩ c hc;rw [aa,fk,aa,da (by unfold elseL; rw [aa]; exact aF _)];have s3:=sp2.trans (aD hc (.lst ((elseL os).map V.str)));refine ⟨l,c,_,_,rfl,rfl,s3 _ _ hl,ao,?_,fun d hd=>?_⟩
   ·unfold elseL;rw [aa,aa,aa];omega
   ·refine q d _ ?_ (s3.trans (aD hd _));rw [ao,bA]
end
end My.Dr
namespace L2
open PySem PySem.Spec PyProof.Rows
section
variable {X:Cx}
theorem Jk (hu:X.A.units + 50 < gp):OpR X (dF .Eq) (fun x y H Q=>∃ p q xs,x=.ref p/\y=.ref q/\H p=some (.lst xs)/\H q=some (.lst [])/\Q (.bl xs.isEmpty) H):=by
 intro pins s σ H x y v u Q I rx ry h;obtain ⟨p,q,xs,rfl,rfl,h1,h2,k⟩:=h
 cases xs with
 | nil=>exact IJ hu pins s σ H _ _ v u Q I rx ry ⟨1,by decide,.inr (.inl ⟨p,q,[],[],rfl,rfl,h1,h2,.nil⟩),k⟩
 | cons a xs =>
  cases rx
  cases ry;obtain ⟨us,r1,i1⟩:=fc I.hok h1;obtain ⟨vs,r2,i2⟩:=fc I.hok h2
  cases r2;have hl:=r1.length;exact SeqAt.RcAt.lists_lengths i1 i2 (by
   cases us with
   | nil=>cases hl
   | cons b us=>simp) (by omega) X.prog X.w _ _ ⟨.bl false,H,I,rfl,k⟩
end
end L2
namespace My.Dr
open PySem L2
section
variable {P:aS} {w:bN} {K:ai} {mg:Str->Option ag} {base:cI} {f fLl:aj} {fd fdLl:cf}
seal L2.PS L2.PSs L2.PE L2.PA L2.PT L2.PW L2.PI L2.PG L2.PGs L2.PC L2.PSC L2.PSsC L2.PEC L2.PAC L2.PPs
abbrev nFe:List Str:=["_law_machines_here","_law_few_here","_law_machine_here"]
abbrev pFe:List Str:=["_law_machines_here"]
theorem scFe:cH nFe pFe (bf qG):=⟨rfl,rfl,rfl,by decide +kernel,rfl,by decide +kernel,by decide +kernel⟩
abbrev txt (Ms:List Mc):Str:=bB "\n" (Ms.flatMap Mc.lines)
inductive spFeI (vs:List V) (H:Hp) (Q:VK) (_e:XK):Prop where
 | mk (l:aj) (ms:List V) (Ms:List Mc) (_:vs=[.ref l]) (_:H l=some (.lst ms)) (_:MsIn H Ms ms) (_:Ms.length<=6) (_:∀ (m:aj) (us:List V) (Mt:List Mc) (H':Hp),cB H H'->H' m=some (.lst us)->MsIn H' Mt us->Mt.Sublist Ms->(txt Mt).length<=9000->Q (.ref m) H'):spFeI vs H Q _e
def spFe:Sp:=fun vs H Q _e=>spFeI vs H Q _e
theorem ok_fe (D:Df K mg "_law_few" qG pFe f fd) (DLl:Df K mg "_law_lines" jM pLl fLl fdLl) (GLl:cQ P w K mg base CX0 28 fLl fdLl pLl spLl) (B:Bl mg):cQ P w K mg base CX0 29 f fd pFe spFe:=by
 refine D.F.ok scFe (fun vs H Q E h=>?_) (fun cdv A outer s H vs Q E r28 h=>?_)
 ·obtain ⟨l,ms,Ms,rfl,_⟩:=h;rfl
 obtain ⟨l,ms,Ms,rfl,hl,hMs,l6,q⟩:=h;refine ⟨_,aH (cq (i:=1) scFe.nd rfl (Or.inl rfl) (cZ ak))
  (aH (jt cN rfl (eV (pv 0)) (cT (i:=2) scFe.nd rfl (Or.inl rfl)) (aI (df (aZ pw (cY i8 (by rfl) B.len bX (gT (d9 bz cF cG ie aO (gT (bq GLl r28 (by rfl) DLl.m DLl.F.kp DLl.b .nil bQ (g9 (cb j3 (pv 1) (cZ (bI (pv 2) ak))) ak)) ak)) ak)) aq (bD _)) (aI (dI (d9 aP bh bj dR (pv 1) (bI (pv 2) ak)))) bO)))
  (aI (bE (pv 1)))),?_⟩
 have big:10000 < ax:=by decide
 refine aB (bT ⟨aR _,fun m hm=>aG ?_⟩);dsimp only;have sm:=aD hm (.lst []);refine aB ⟨_,rfl,l,rfl,⟨ms,SqL.of (sm _ _ hl)⟩,gW (xs:=ms) (fun i σ G=>∃ (us:List V) (Mt:List Mc) (v2:Option V),σ=[some (.ref l),some (.ref m),v2]/\i<=ms.length/\cB H G/\G m=some (.lst us)/\MsIn H Mt us/\Mt.Sublist (Ms.take i)/\(txt Mt).length<=9000) ⟨[],[],none,rfl,aR _,sm,ao,.nil,jB _,aR _⟩ ?_ ?_ ?_⟩
 ·rintro i σ G hi ⟨us,Mt,v2,rfl,_,sg,_⟩;exact SqL.of (sg _ _ hl)
 ·rintro i u σ G hu ⟨us,Mt,v2,rfl,hi,sg,hG,pM,sub,lt⟩;obtain ⟨M,hx,hM,ok⟩:=fG hMs hu;have il:i < ms.length:=(aQ.mp hu).1;have lM:=sub.length_le;rw [bP,paired_len hMs] at lM;have lms:=paired_len hMs;have lus:=paired_len pM;have l6':(Mt++[M]).length<=6:=by rw [ae]; show _ + 1<=6; omega
  have sub':(Mt++[M]).Sublist (Ms.take (i + 1)):=by
   rw [cX,hx];exact sub.append (jB _)
  have subl:Mt.Sublist (Ms.take (i + 1)):=by
   rw [cX,hx];exact sub.trans (List.sublist_append_left _ _)
  refine aG ?_;dsimp only;refine ⟨rfl,_,rfl,_,rfl,⟨by show 1<=ax; omega,fun l4 hl4=>?_⟩⟩;have s4:=aD hl4 (.lst [u]);refine ⟨m,l4,_,_,rfl,rfl,s4 _ _ hG,ao,by show _ + 1<=_; omega,fun m5 hm5=>?_⟩;have s5:=(sg.trans s4).trans (aD hm5 (.lst (us++[u])));have s45:=s4.trans (aD hm5 (.lst (us++[u])));have pM5:MsIn (upd (upd G l4 (.lst [u])) m5 (.lst (us++[u]))) (Mt++[M]) (us++[u]):=paired_imp (psnoc pM ⟨hM,ok⟩) fun _ _ h=>⟨h.1.same s5,h.2⟩;obtain ⟨b1,b2⟩:=ms_bound pM5 l6';refine ⟨m5,_,_,rfl,ao,pM5,l6',fun m6 G6 hm6 h6 s6=>⟨_,m6,_,rfl,rfl,.inl (SqL.of h6),b2,?_⟩⟩;have hG6:=s6 _ _ (s45 _ _ hG);have s06:=s5.trans s6;refine ⟨_,rfl,bC (iX _ _) b2,_,_,rfl,rfl,_,rfl,Iz (fun c=>?_) (fun _=>?_)⟩
  ·have c:=GV c;refine ⟨_,rfl,.inl ⟨rfl,_,SqL.of hG6⟩,_,rfl,m,us,u,rfl,rfl,hG6,by omega,?_⟩;refine ⟨us++[u],Mt++[M],_,rfl,il,fv s06 hm,ao,psnoc pM ⟨hM,ok⟩,sub',?_⟩;have c':((txt (Mt++[M])).length:Int) < 9000:=c;omega
  ·exact ⟨us,Mt,_,rfl,il,s06,hG6,pM,subl,lt⟩
 ·rintro σ G ⟨us,Mt,v2,rfl,hi,sg,hG,pM,sub,lt⟩;rw [<- paired_len hMs,bZ] at sub;exact ⟨_,rfl,q m us Mt G sg hG (paired_imp pM fun _ _ h=>⟨h.1.same sg,h.2⟩) sub lt⟩
end
end My.Dr
namespace L2
open PySem PySem.Spec PyProof.Rows
section
variable {X:Cx}
theorem Bq {tg e:cA} {te:TE} {g:TG} {pos:Pos} (he:PEC X e te) (hg:PG X tg g) (hs:swapsWithSole [tg] e pos.line X.env=pure false:=by rfl) (hw:swappedStores [tg] e X.env=pure none:=by rfl)
  (h1:(jD [tg] X.env).map (·.2)=[nV tg X.env]:=by rfl):PSC X (.Assign [tg] e pos) (yo te g):=by
 intro pins s σ H D I h;rw [exec_Assign_arm];refine cJ (bU ?_);rw [hs];refine cJ (av ?_);rw [if_neg (by decide)];refine e8 (pJ (he pins s σ H _ I h) fun v s1 ⟨x,H1,I1,r1,q1⟩=>toC ?_);rw [hw];refine af (av ?_);rw [h1];exact af (thn (hg pins s1 σ H1 x v _ I1 r1 q1) fun _ s2 q=>av q)
end
end L2
namespace My
open PySem L2
structure Oth (K:ai) (mg:Str->Option ag) (C D' CFault CNoMark CNoModel CNoRoom CTooLate:aj):Prop where
 mF:mg "Fault"=some (.ref CFault)
 mN:mg "NoMark"=some (.ref CNoMark)
 mM:mg "NoModel"=some (.ref CNoModel)
 mR:mg "NoRoom"=some (.ref CNoRoom)
 mT:mg "TooLate"=some (.ref CTooLate)
 mE:mg "MomentError"=some (.ref D')
 no:uX K (.ref C) [.ref CFault,.ref CNoMark,.ref CNoModel,.ref CNoRoom,.ref CTooLate]=some false
 yes:mB K (.ref C) (.ref C)=some true
 ve:mB K (.ref C) (.type "ValueError")=some true
 ex:qr K (.ref C) (.ref D')=some true
end My
namespace My.Dr
open PySem L2
theorem pe_joinK {X:Cx} {o e:cA} {es:List cA} {to:TE} {t:TA} {apos cpos:Pos} (K:ai) (hK:X.K=K) (ho:PE X o to) (ha:PA X (e :: es) t) (hbase:jm o "join" X.env (d6 o X.env)=d6 o X.env:=by rfl)
  (hfew:((fg cpos (bM (e :: es) X.env)).all (fun x=>!x.1) && (qO cpos (kC [] X.env)).all (fun x=>x.1.isSome) && decide ((e :: es).length + ([]:List rh).length + (if ([]:List rh).isEmpty then 0 else 1) < 30))=true:=by rfl)
  (hline:(apos.endLine == cpos.line)=true:=by rfl) (hs:bM (e :: es) X.env=(false,d6 e X.env) :: bM es X.env:=by rfl) (hplain:(fg cpos (bM es X.env)).any (·.1)=false:=by rfl) :
  PE X (.Call (.Attribute o "join" apos) (e :: es) [] cpos) (tBM K "str" (Dl K) to t):=by
 subst hK;exact d9 bz cF cG ie ho ha hbase hfew hline hs hplain
section
variable {P:aS} {w:bN} {K:ai} {mg:Str->Option ag} {base:cI} {f fR fIn C D' CFault CNoMark CNoModel CNoRoom CTooLate:aj} {fd fdR fdIn:cf}
seal L2.PS L2.PSs L2.PE L2.PA L2.PT L2.PW L2.PI L2.PG L2.PGs L2.PC L2.PSC L2.PSsC L2.PEC L2.PAC L2.PPs
abbrev nTr:List Str:=["_law_lines_here","_law_found","_law_caught","e"]
abbrev pTr:List Str:=["_law_lines_here"]
theorem scTr:cH nTr pTr (bf nM):=⟨rfl,rfl,rfl,by decide +kernel,rfl,by decide +kernel,by decide +kernel⟩
inductive spTrI (vs:List V) (H:Hp) (Q:VK) (_e:XK):Prop where
 | mk (l:aj) (ls:List Str) (_:vs=[.ref l]) (_:H l=some (.lst (ls.map V.str))) (_:LOk ls) (_:linesOf (bB "\n" ls)=ls) (_:jsz "\n" ls<=16777216) (_:(bB "\n" ls).length<=100000) (_:(∀ m r H',rdM ls=.error m->cB H H'->H' r=some (.lst [.non,.int m])->Q (.ref r) H')) (_:(∀ ml us fp ms r H',rdM ls=.ok ms->cB H H'->H' ml=some (.lst us)->Prs (MoF H') ms us fp->H' r=some (.lst [.ref ml,.int 0])->Q (.ref r) H')):spTrI vs H Q _e
def spTr:Sp:=fun vs H Q _e=>spTrI vs H Q _e
theorem ok_tr (D:Df K mg "_law_tried" nM pTr f fd) (DR:Df K mg "read_model" j7 pRm fR fdR) (GR:dU P w K mg base (CXl P w) 78 fR fdR pRm (spRm C)) (N:NT K mg C D' fIn fdIn) (O:Oth K mg C D' CFault CNoMark CNoModel CNoRoom CTooLate) (B:Bl mg) (MV:mg "ValueError"=none):dU P w K mg base CX0 79 f fd pTr spTr:=by
 have mME:=O.mE;have mFault:=O.mF;have mNoMark:=O.mN;have mNoModel:=O.mM;have mNoRoom:=O.mR;have mTooLate:=O.mT;refine D.F.okC scTr (fun vs H Q E h=>?_) (fun cdv A outer s H vs Q E hr h=>?_)
 ·obtain ⟨l,ls,rfl,_⟩:=h;rfl
 obtain ⟨l,ls,rfl,hl,lok,lj,js,jl,qe,q⟩:=h;have r78:dE 78 _:=hr
 let TT:aj->Nat->St->Hp->Prop:=fun C' m σ G=>C'=C/\rdM ls=.error m/\cB H G/\σ=[some (.ref l),some .non,some .non,none]
 refine ⟨_,aV (cq (i:=1) scTr.nd rfl (Or.inl rfl) dD).c
  (aV (cq (i:=2) scTr.nd rfl (Or.inl rfl) dD).c
  (aV (Ea TT (fun _=>j4 (ig (i:=1) scTr.nd rfl (Or.inl rfl) (BY GR r78 (by rfl) DR.m DR.F.kp DR.b yS (gT (pe_joinK K (by rfl) aO (bI (pv 0) ak)) ak)))) (FL 3 (by rfl) mME scTr.nd rfl rfl (fun _=>aI (cq (i:=2) scTr.nd rfl (Or.inl rfl) (pv 3))) D0))
  (aH (df (aZ iR (pv 2) dD (bD _)) (aI (bE (cZ (bI (pv 1) (cS aq ak))))) bO)
  (aH (df ((jj (o4 (jC (cY si (by rfl) B.isi va (bI (pv 2) (bI (jT (v:=.ref C) (by rfl) N.m rfl) ak))))) (iP (o4 (jC (cY si (by rfl) B.isi va (bI (pv 2) (bI (EW (v:=.ty "ValueError") (by rfl) MV uU rfl) ak))))))).pt) (aI (bE (cZ (cS dD (eJ (AD w9 aq) ak))))) bO)
  (aH (df (jC (cY vM (by rfl) B.isi va (bI (pv 2) (vc (fz (bI (jT (v:=.ref CFault) (by rfl) mFault rfl) (bI (jT (v:=.ref CNoMark) (by rfl) mNoMark rfl) (bI (jT (v:=.ref CNoModel) (by rfl) mNoModel rfl) (bI (jT (v:=.ref CNoRoom) (by rfl) mNoRoom rfl) (bI (jT (v:=.ref CTooLate) (by rfl) mTooLate rfl) ak)))))) ak)))) (aI (bE (cZ (cS dD (eJ (AD w9 aq) ak))))) bO)
  (aI (bE (cZ (cS dD (eJ (FM N.cl (pv 2) (by rfl)) ak)))))))).c)),?_⟩
 have big:=dG;refine aB (bT (aG ?_));dsimp only;refine aB (bT (aG ?_));dsimp only;refine aB ⟨?_,?_⟩
 ·refine bT ⟨rfl,?_⟩;dsimp only [gX];refine ⟨_,rfl,_,l,ls,rfl,rfl,.inl (SqL.of hl),js,?_⟩;refine ⟨bB "\n" ls,rfl,jl,by rw [lj]; exact lok,fun m H' e sm=>?_,fun ml us fp H' ms e sm hml pr nd nw l6=>aG ?_⟩
  ·rw [lj] at e;exact ⟨C,m,rfl,rfl,rfl,e,sm,rfl⟩
  ·rw [lj] at e;show By _ _ _ _ _;refine aB ⟨_,rfl,rfl,_,rfl,cV (eS ⟨_,rfl,by show 2<=ax; omega,fun r hr=>?_⟩)⟩;have sr:=aD hr (.lst [.ref ml,.int 0]);exact q ml us fp ms r _ e (sm.trans sr) (sr _ _ hml) (pr.mono fun _ _ _ _ i=>MoF.kx (Kx.of_same sr) i) ao
 ·rintro C' m σ' G _ ⟨rfl,e,sm,rfl⟩;refine .inl ⟨O.ex,fun ea dd h1 h2 hne=>bT ⟨_,rfl,aG ?_⟩⟩;dsimp only [DC,Br];have s1:cB G (upd (upd G dd (LD dd m)) ea (XE ea C' dd)):=(aD h2 _).trans (aD (by rw [aX (eU hne)]; exact h1) _);have qe1:(upd (upd G dd (LD dd m)) ea (XE ea C' dd)) ea=some (XE ea C' dd):=ao;have qd:(upd (upd G dd (LD dd m)) ea (XE ea C' dd)) dd=some (LD dd m):=by rw [aX hne,ao]
  refine aB ⟨_,rfl,rfl,_,rfl,du ?_⟩;dsimp only [dY];refine aB ⟨_,rfl,ea,C',dd,m,_,_,true,rfl,rfl,fun _ z=>z,qe1,qd,N.cl.x,O.yes,_,rfl,du ?_⟩;refine ⟨_,rfl,ea,C',dd,m,_,_,true,rfl,rfl,fun _ z=>z,qe1,qd,N.cl.x,O.ve,_,rfl,du ?_⟩;dsimp only [dY];refine aB ⟨_,rfl,by show 5<=ax; omega,fun tp htp=>?_⟩;have s2:=aD htp (.tup [.ref CFault,.ref CNoMark,.ref CNoModel,.ref CNoRoom,.ref CTooLate]);refine ⟨ea,C',dd,m,tp,[CFault,CNoMark,CNoModel,CNoRoom,CTooLate],false,rfl,ao,s2 _ _ qe1,s2 _ _ qd,N.cl.x,O.no,_,rfl,du ?_⟩;dsimp only [dY];refine eS ⟨_,rfl,ea,dd,m,rfl,s2 _ _ qe1,s2 _ _ qd,by show 2<=ax; omega,fun r hr=>qe m r _ e (((sm.trans s1).trans s2).trans (aD hr _)) ao⟩
end
theorem ms_mo {H:Hp} {Mt:List Mc} {us:List V} (h:MsIn H Mt us):∃ Xs:List Mo,(∀ M∈Xs,OkM M)/\(Xs.map lsM).flatten=Mt.flatMap Mc.lines/\Xs.map (·.nm)=Mt.map (·.nm):=by
 induction h with
 | nil=>exact ⟨[],(fun M m=>by cases m),rfl,rfl⟩
 | cons a _ ih =>
  obtain ⟨X,fp,h1,h2,h3,h4⟩:=a.1.mo a.2;obtain ⟨Xs,k2,k3,k4⟩:=ih;refine ⟨X :: Xs,fun M m=>?_,?_,?_⟩
  ·rcases au.mp m with rfl | m
   ·exact h2
   ·exact k2 M m
  ·rw [bu,iZ,i4,h3,k3]
  ·rw [bu,bu,h4,k4]
theorem lg_lines {ls:List Str} (lg:∀ x∈ls,LG x):linesOf (bB "\n" ls)=ls:=by
 refine vt (fun z=>?_) fun x m=>(lg x m).nl;have:=lg "" (by rw [z]; exact az.mpr rfl);obtain ⟨e,ws,h,g,_⟩:=this;obtain ⟨a,t,ha,_⟩:=g.head;have h2:=congrArg (fun x:Str=>x.cps.toList.length) h;unfold ln at h2;rw [dX,ae,ha,aE,show ("":Str).cps.toList.length=0 by decide] at h2;omega
theorem nl1:("\n":Str).length=1:=by decide
theorem join_pre {a b:List Str} (ha:a≠[]):(bB "\n" a).length<=(bB "\n" (a++b)).length:=by
 by_cases hb:b=[]
 ·rw [hb,bW];exact aF _
 ·rw [qt "\n" ha hb,cR,aL,aL];omega
theorem lg_jsz {ls:List Str} (lg:∀ x∈ls,LG x) (n:ls.length<=2500):jsz "\n" ls<=16777216:=by
 have k:=AA lg (by omega);have h2:=sW (z:="\n") k.len;rw [nl1] at h2;have:ls.length * (5000 + 1)<=2500 * 5001:=ec _ n;omega
theorem els_7 {os:List Nat} {A:List Str} (lg:∀ x∈A++elseL os,LG x):∀ o∈os,o<=7:=fun o m=>by
 obtain ⟨e,ws,h,g,e7,_⟩:=lg (ln o ["else"]) (aT _ (jA m));rw [(ln_inj ir g h).1];exact e7
theorem els_len {os:List Nat} (h:∀ o∈os,o<=7) (l:os.length<=5):(bB "\n" (elseL os)).length<=200:=by
 have h1:=iX "\n" (elseL os);have h2:=sW (z:="\n") (ys:=elseL os) (k:=18) fun x m=>by
  obtain ⟨o,mo,rfl⟩:=cO.mp m;have:=h o mo;unfold ln;rw [aL,gi,show (jn ["else"]).length=4 by decide];omega
 rw [nl1,show (elseL os).length=os.length from aa ..] at h2;have:os.length * (18 + 1)<=5 * 19:=ec _ l;omega
section
variable {P:aS} {w:bN} {K:ai} {mg:Str->Option ag} {base:cI} {f fP fT fMs fFe fLl fCl fTr fMt:aj} {fd fdP fdT fdMs fdFe fdLl fdCl fdTr fdMt:cf}
seal L2.PS L2.PSs L2.PE L2.PA L2.PT L2.PW L2.PI L2.PG L2.PGs L2.PC L2.PSC L2.PSsC L2.PEC L2.PAC L2.PPs
abbrev nL:List Str:=["_law_script","_law_purse_here","_law_lines_here","_law_k","_law_some","_law_full","_law_found","_law_line","_law_whole"]
abbrev pL:List Str:=["_law_script"]
theorem scL:cH nL pL (bf Eg):=⟨rfl,rfl,rfl,by decide +kernel,rfl,by decide +kernel,by decide +kernel⟩
inductive spLawI (K:ai) (vs:List V) (H:Hp) (Q:VK) (_e:XK):Prop where
 | mk (a:aj) (ns:List Int) (_:vs=[.ref a]) (_:SqL K H a (ns.map V.int)) (_:ns.length<=63) (_:(∀ x∈ns,gP x<=1048576)) (_:∀ H',Q (.bl true) H'):spLawI K vs H Q _e
def spLaw (K:ai):Sp:=fun vs H Q _e=>spLawI K vs H Q _e
theorem ok_law (D:Df K mg "law" Eg pL f fd) (DP:Df K mg "_law_purse" nK pP fP fdP) (DT:Df K mg "_law_take" fC pT fT fdT) (DMs:Df K mg "_law_machines" iW pMs fMs fdMs) (GMs:cQ P w K mg base CX0 31 fMs fdMs pMs spMs) (DFe:Df K mg "_law_few" qG pFe fFe fdFe) (DLl:Df K mg "_law_lines" jM pLl fLl fdLl) (GLl:cQ P w K mg base CX0 28 fLl fdLl pLl spLl)
  (DCl:Df K mg "_law_closed" kb pCl fCl fdCl) (DTr:Df K mg "_law_tried" nM pTr fTr fdTr) (GTr:dU P w K mg base CX0 79 fTr fdTr pTr spTr) (DMt:Df K mg "model_text" lJ pMt fMt fdMt) (GMt:cQ P w K mg base CX0 24 fMt fdMt pMt spMt) (MR:mg "reversed"=none) (MS:mg "sorted"=none) (B:Bl mg):dU P w K mg base CX0 80 f fd pL (spLaw K):=by
 have GP:cQ P w K mg base CX0 1 fP fdP pP (A4 K):=Ei DP B;have GT:cQ P w K mg base CX0 1 fT fdT pT oo:=nO DT B;have GFe:cQ P w K mg base CX0 29 fFe fdFe pFe spFe:=ok_fe DFe DLl GLl B;have GCl:cQ P w K mg base CX0 1 fCl fdCl pCl spCl:=ok_cl DCl MR MS B;refine D.F.okC scL (fun vs H Q E h=>?_) (fun cdv A outer s H vs Q E hr h=>?_)
 ·obtain ⟨a,ns,rfl,_⟩:=h;rfl
 obtain ⟨a,ns,rfl,hS,hlen,hbits,q⟩:=h;have r1:dE 1 _:=hr.mono (by decide);have r24:dE 24 _:=hr.mono (by decide);have r28:dE 28 _:=hr.mono (by decide);have r29:dE 29 _:=hr.mono (by decide);have r31:dE 31 _:=hr.mono (by decide);have r79:dE 79 _:=hr;have h50:=Fn hr;refine ⟨_,aV (cq (i:=1) scL.nd rfl (Or.inl rfl) (bq GP r1 (by rfl) DP.m DP.F.kp DP.b .nil bQ (bI (pv 0) ak))).c
  (aV (cq (i:=2) scL.nd rfl (Or.inl rfl) (bq GLl r28 (by rfl) DLl.m DLl.F.kp DLl.b .nil bQ (gT (bq GFe r29 (by rfl) DFe.m DFe.F.kp DFe.b .nil bQ (gT (bq GMs r31 (by rfl) DMs.m DMs.F.kp DMs.b .nil bQ (bI (pv 1) ak)) ak)) ak))).c
  (aV (df (aZ (Jk h50) (pv 2) (cZ ak) (bD _)) (aI (bE ym)) bO).c
  (aV (AW cN rfl (lV (by rfl) B.range (cS aq ak)) (cT (i:=3) scL.nd rfl (Or.inl rfl)) (aV (cq (i:=4) scL.nd rfl (Or.inl rfl) (gM nC (pv 2) i7 (ib (cb gx aq (cb qb (bq GT r1 (by rfl) DT.m DT.F.kp DT.b .nil bQ (bI (pv 1) (cS aq ak))) (cY (dN K (by rfl)) (by rfl) B.len bX (bI (pv 2) ak))))))).c
  (aV (cq (i:=5) scL.nd rfl (Or.inl rfl) (bq GCl r1 (by rfl) DCl.m DCl.F.kp DCl.b .nil bQ (bI (pv 4) ak))).c
  (aV (Bq (dW GTr r79 (by rfl) DTr.m DTr.F.kp DTr.b .nil bQ (bI (pv 4) ak)) (Ed rfl (fU (cT (i:=6) scL.nd rfl (Or.inl rfl)) (fU (cT (i:=7) scL.nd rfl (Or.inl rfl)) o5))))
  (aV (df ((jj (aZ rP (rQ iR (pv 6) dD (bD _)) (rQ tf (cY (dN K (by rfl)) (by rfl) B.len bX (bI (pv 5) ak)) (cY (dN K (by rfl)) (by rfl) B.len bX (bI (pv 4) ak)) (bD _)) (bD _)) (iP ((p9 (aZ iR (pv 6) dD (bD _)) (oZ (aZ rP (pv 7) (cb gx (cY (dN K (by rfl)) (by rfl) B.len bX (bI (pv 4) ak)) aq) (bD _)))).pt))).pt) (aI (bE ym)) bO).c
  (aV (df ((p9 (aZ AI (pv 6) dD (bD _)) (oZ (aZ rP (bq GMt r24 (by rfl) DMt.m DMt.F.kp DMt.b .nil bQ (bI (pv 6) ak)) (d9 bz cF cG ie aO (bI (pv 4) ak)) (bD _)))).pt) (aI (bE ym)) bO).c
  (aV (Bq (dW GTr r79 (by rfl) DTr.m DTr.F.kp DTr.b .nil bQ (bI (pv 5) ak)) (Ed rfl (fU (cT (i:=8) scL.nd rfl (Or.inl rfl)) (fU (cT (i:=7) scL.nd rfl (Or.inl rfl)) o5))))
  (aI (df ((jj (aZ iR (pv 8) dD (bD _)) (iP (aZ rP (bq GMt r24 (by rfl) DMt.m DMt.F.kp DMt.b .nil bQ (bI (pv 8) ak)) (d9 bz cF cG ie aO (bI (pv 5) ak)) (bD _)))).pt) (aI (bE ym)) bO)).c)))))))
  (aI (bE ym)).c))),?_⟩
 have big:=dG;refine aB (bT ⟨_,rfl,a,ns,rfl,hS,hlen,hbits,fun p G1 hp pu s1=>aG ?_⟩);dsimp only;refine aB (bT ⟨_,rfl,p,rfl,pu,fun l ms Ms G2 hl hMs l6 nd pu2=>⟨l,ms,Ms,rfl,hl,hMs,l6,fun m us Mt G3 s3 hm pM sub lt=>⟨m,us,Mt,rfl,hm,pM,bC sub.length_le l6,fun m4 G4 hm4 h4 s4=>aG ?_⟩⟩⟩);dsimp only;have mt6:Mt.length<=6:=bC sub.length_le l6;have pu4:=(pu2.same s3).same s4;have n4:m4≠p:=om (pu2.same s3) hm4;obtain ⟨b1,b2⟩:=ms_bound pM mt6;obtain ⟨Xs,oX,eL,eN⟩:=ms_mo pM;have ndX:(Xs.map (·.nm)).Nodup:=by
  rw [eN];exact e9 (sub.map _) nd
 have lX:Xs.length<=6:=by
  have:=congrArg fZ eN;rw [aa,aa] at this;omega
 have lg:=(tN oX).2;have lt:(bB "\n" (Mt.flatMap Mc.lines)).length<=9000:=lt;rw [<- eL] at h4 b1 lt;clear eL eN pM hm s3 s4 hm4 b2;have cl:=fun k (h:k<=(Xs.map lsM).flatten.length)=>closed_is oX h ndX lX;generalize (Xs.map lsM).flatten=L at h4 b1 lg lt cl;refine aB ⟨_,rfl,⟨aR _,fun l0 hl0=>?_⟩⟩;have t0:=aD hl0 (.lst []);refine ⟨m4,l0,_,rfl,rfl,t0 _ _ h4,ao,_,rfl,?_⟩;have h5:=t0 _ _ h4;have pu5:=pu4.same t0;generalize upd G4 l0 (.lst [])=G5 at h5 pu5
 by_cases eL:L=[]
 ·rw [eL];exact cV (eS (q _))
 rw [show (L.map V.str).isEmpty=false by cases L with
  | nil=>exact absurd rfl eL
  | cons a b=>rfl]
 refine du ?_;dsimp only [dY];have n1:=fj.mpr eL;refine aB ⟨5,rfl,by decide,by decide,qz (n:=5) (fun i σ G=>∃ v3 v4 v5 v6 v7 v8:Option V,σ=[some (.ref a),some (.ref p),some (.ref m4),v3,v4,v5,v6,v7,v8]/\G m4=some (.lst (L.map V.str))/\ff G p) ⟨none,none,none,none,none,none,rfl,h5,pu5⟩ ?_ ?_⟩
 ·rintro i σ G hi ⟨v3,v4,v5,v6,v7,v8,rfl,hG,puG⟩;refine aG ?_;dsimp only;refine aB (bT ⟨_,rfl,_,rfl,p,4000,rfl,puG,by decide,by decide,fun r G1 r0 r1 pu1 b1=>?_⟩);have hG1:=b1 _ _ hG n4;refine ⟨_,rfl,m4,_,rfl,.inl (SqL.of hG1),r,_,rfl,rfl,by rw [aa]; omega,1,_,rfl,rfl,_,rfl,m4,_,rfl,SqL.of hG1,fun c hc=>aG ?_⟩;rw [aa];have e1:=iM r (b:=(L.length:Int)) (by omega);have e2:=gG r (b:=(L.length:Int)) (by omega);obtain ⟨k,hk⟩:∃ k:Nat,1 + r % (L.length:Int)=(k:Int):=⟨(1 + r % (L.length:Int)).toNat,by omega⟩;rw [hk,cut_take (by omega) (by omega),eI];have k1:1<=k:=by omega
  have kl:k<=L.length:=by omega
  dsimp only;have sc:=aD hc (.lst ((L.take k).map V.str));have hG2:=sc _ _ hG1;have pu2:=pu1.same sc;have hc2:(upd G1 c (.lst ((L.take k).map V.str))) c=some (.lst ((L.take k).map V.str)):=ao;generalize upd G1 c (.lst ((L.take k).map V.str))=G2 at hG2 pu2 hc2;obtain ⟨xs,os,O,nx,x6,ox,ex,dc,op,pm⟩:=cl k kl;have lgx:=(tN ox).2;have rdx:=rd_ok (ms:=xs) (fun z=>by
   rw [z] at ex;have:=congrArg fZ ex;rw [ae,bP] at this;have:0=_:=this;omega) x6 ox nx
  have rfx:∀ o os',os=o :: os'->rdM (L.take k)=.error ((L.take k).length + 1):=fun o os' z=>ref_ok (by rw [<- z]; exact ex) x6 ox nx;rw [ex] at lgx rdx;have o7:=els_7 lgx;have tx:∀ {G':Hp} {us:List V} {fq:List aj},Prs (MoF G') xs us fq->∃ Mt:List Mc,MsIn G' Mt us/\Mt.length<=6/\textOf Mt=bB "\n" (L.take k++elseL os):=fun {G' us fq} h=>by
   obtain ⟨Mt,h1,h2,h3⟩:=ms_mi h ox;exact ⟨Mt,h1,by omega,by unfold textOf; rw [h2,ex]⟩
  clear ex;have ne:L.take k≠[]:=fun z=>by
   have:=congrArg fZ z;rw [bP] at this;have:_=0:=this;omega
  have ls:=join_pre (a:=L.take k) (b:=L.drop k) ne;rw [iO] at ls;have la:(L.take k).length<=2400:=by
   rw [bP];omega
  have lga:∀ x∈L.take k,LG x:=fun x m=>lg x (dC m);generalize L.take k=S at hc2 lgx rfx o7 tx ne ls la lga op rdx;have oc:=dc.2.2;have le:(elseL os).length=os.length:=aa ..;have lf:(bB "\n" (S++elseL os)).length<=10000:=by
   by_cases h0:os=[]
   ·rw [h0];show (bB "\n" (S++[])).length<=_;rw [bW];omega
   ·have h2:=els_len o7 oc;rw [qt "\n" ne (by unfold elseL; simpa using h0),cR,aL,aL,nl1];have:(bB "\n" [bB "\n" (elseL os)]).length=(bB "\n" (elseL os)).length:=rfl;omega
  have lk:=AA lga (by omega);refine aB (bT ⟨_,rfl,c,S,O,os,rfl,hc2,op,pm,dc,o7,by omega,lk.len,fun d G3 hd s3=>aG ?_⟩);dsimp only;have lkf:=AA lgx (by rw [ae,le]; omega);have jf:=lg_jsz lgx (by rw [ae,le]; omega);have js:=lg_jsz lga (by omega);have hG3:=s3 _ _ hG2;have pu3:=pu2.same s3;have tail:∀ {D:Ends} {G':Hp} {w3 w6 w7 w8:Option V},cB G3 G'->(∀ σ H,(∃ v3 v4 v5 v6 v7 v8:Option V,σ=[some (.ref a),some (.ref p),some (.ref m4),v3,v4,v5,v6,v7,v8]/\H m4=some (.lst (L.map V.str))/\ff H p)->D.nx σ H) ->
    By (yo (vY spTr [] E0 (gX (kH 5) rg)) (gLst K 2 (Cz (rN 8) (Cz (rN 7) gNil)))) (vA (tOr (qg (tOp (fun x y H Q=>y=V.non/\Q (V.bl (decide (x=V.non))) H) (kH 8) (tC V.non))) (qg (tOp rNe (vY spMt [] E0 (gX (kH 8) rg)) (tBM K "str" (Dl K) (tC (V.str "\n")) (gX (kH 5) rg))))) (uw (tC (V.bl false))) dY) D [some (.ref a),some (.ref p),some (.ref m4),w3,some (.ref c),some (.ref d),w6,w7,w8] G':=fun {D G' w3 w6 w7 w8} sg hD=>by
   have hd':=sg _ _ hd;refine aB (bT ⟨_,rfl,d,_,rfl,hd',lkf,lg_lines lgx,jf,by omega,fun m r H' e=>?_,fun ml us fq ms r H' e s5 h1 h2 h3=>?_⟩)
   ·rw [rdx] at e
    cases e
   rw [rdx] at e
   cases e;obtain ⟨Mt,z1,z2,z3⟩:=tx h2;refine ⟨r,_,rfl,SqL.of h3,rfl,_,_,rfl,aG ⟨_,_,rfl,aG ?_⟩⟩;refine ⟨rfl,?_⟩;dsimp only [Br];refine ⟨_,rfl,rfl,_,rfl,du ⟨_,rfl,ml,us,Mt,rfl,h1,z1,z2,fun H6 s6=>⟨rfl,_,rfl,_,d,_,rfl,rfl,.inl (SqL.of (s6 _ _ (s5 _ _ hd'))),jf,rfl,_,rfl,?_⟩⟩⟩;rw [z3,decide_eq_true rfl];refine du ?_;dsimp only [dY];exact hD _ _ ⟨_,_,_,_,_,_,rfl,s6 _ _ (s5 _ _ (sg _ _ hG3)),((pu3.same sg).same s5).same s6⟩
  have hc3:=s3 _ _ hc2
  cases os with
  | nil =>
   have e0:S++elseL []=S:=bW S;rw [e0] at hd rdx tx;refine aB (bT ⟨_,rfl,c,_,rfl,hc3,lk,lg_lines lga,js,by omega,fun m r H' e=>?_,fun ml us fq ms r H' e s5 h1 h2 h3=>?_⟩)
   ·rw [rdx] at e
    cases e
   rw [rdx] at e
   cases e;obtain ⟨Mt,z1,z2,z3⟩:=tx h2;refine ⟨r,_,rfl,SqL.of h3,rfl,_,_,rfl,aG ⟨_,_,rfl,aG ⟨rfl,?_⟩⟩⟩;dsimp only [Br];refine aB ⟨_,rfl,rfl,_,rfl,d,_,rfl,.inl (SqL.of (s5 _ _ hd)),_,rfl,c,_,rfl,.inl (SqL.of (s5 _ _ hc3)),_,_,rfl,rfl,rfl,_,rfl,?_⟩;rw [show (!decide (V.bl (decide (V.ref ml=V.non))=V.bl (decide (((S.map V.str).length:Int) < ((S.map V.str).length:Int)))))=false by
    rw [decide_eq_false (Int.lt_irrefl _)];rfl]
   refine du ⟨_,rfl,rfl,_,rfl,du (du ?_)⟩;dsimp only [dY];refine aB ⟨_,rfl,rfl,_,rfl,cV ⟨_,rfl,ml,us,Mt,rfl,h1,z1,z2,fun H6 s6=>⟨rfl,_,rfl,_,c,_,rfl,rfl,.inl (SqL.of (s6 _ _ (s5 _ _ hc3))),js,rfl,_,rfl,?_⟩⟩⟩;rw [z3,decide_eq_true rfl];refine du ?_;dsimp only [dY];exact tail (s5.trans s6) fun _ _ z=>z
  | cons o os =>
   have e:=rfx o os rfl;refine aB (bT ⟨_,rfl,c,_,rfl,hc3,lk,lg_lines lga,js,by omega,fun m r H' e' s5 h3=>?_,fun ml us fq ms r H' e'=>?_⟩)
   ·rw [e] at e'
    cases e';refine ⟨r,_,rfl,SqL.of h3,rfl,_,_,rfl,aG ⟨_,_,rfl,aG ⟨rfl,?_⟩⟩⟩;dsimp only [Br];refine aB ⟨_,rfl,rfl,_,rfl,d,_,rfl,.inl (SqL.of (s5 _ _ hd)),_,rfl,c,_,rfl,.inl (SqL.of (s5 _ _ hc3)),_,_,rfl,rfl,rfl,_,rfl,?_⟩;rw [show (!decide (V.bl (decide (V.non=V.non))=V.bl (decide (((S.map V.str).length:Int) < (((S++elseL (o :: os)).map V.str).length:Int)))))=false by
     rw [decide_eq_true (show ((S.map V.str).length:Int) < (((S++elseL (o :: os)).map V.str).length:Int) by
      rw [aa,aa,ae,le,aE];omega)]
     rfl]
    refine du ⟨_,rfl,rfl,_,rfl,cV ⟨_,rfl,_,rfl,c,_,rfl,.inl (SqL.of (s5 _ _ hc3)),_,_,rfl,rfl,rfl,_,rfl,?_⟩⟩;rw [aa,decide_eq_true (show V.int (((S.length + 1:Nat)):Int)=V.int ((S.length:Int) + 1) from rfl)];refine du ?_;dsimp only [dY];refine aB ⟨_,rfl,rfl,_,rfl,du (du ?_)⟩;dsimp only [dY];exact tail s5 fun _ _ z=>z
   ·rw [e] at e'
    cases e'
 ·rintro σ G ⟨v3,v4,v5,v6,v7,v8,rfl,_⟩;dsimp only;exact eS (q _)
end
end My.Dr
namespace My
open PySem L2
theorem sD {α:Type} {n:Nat} {us:List α} (h:us.length=n + 1):∃ a l,us=a :: l/\l.length=n:=by
 cases us with
 | nil=>cases h
 | cons a l=>exact ⟨a,l,rfl,EO h⟩
theorem xX {α:Type} {us:List α} (h:us.length=1):∃ a,us=[a]:=by
 obtain ⟨a,l,rfl,h⟩:=sD h
 cases l with
 | nil=>exact ⟨a,rfl⟩
 | cons b l=>cases h
theorem xY {α:Type} {us:List α} (h:us.length=2):∃ a b,us=[a,b]:=by
 obtain ⟨x,l,rfl,h'⟩:=sD h;obtain ⟨a1,rfl⟩:=xX h';exact ⟨x,a1,rfl⟩
theorem xZ {α:Type} {us:List α} (h:us.length=3):∃ a b c,us=[a,b,c]:=by
 obtain ⟨x,l,rfl,h'⟩:=sD h;obtain ⟨a1,b1,rfl⟩:=xY h';exact ⟨x,a1,b1,rfl⟩
theorem x5 {α:Type} {us:List α} (h:us.length=4):∃ a b c d,us=[a,b,c,d]:=by
 obtain ⟨x,l,rfl,h'⟩:=sD h;obtain ⟨a1,b1,c1,rfl⟩:=xZ h';exact ⟨x,a1,b1,c1,rfl⟩
theorem Bt {α:Type} {us:List α} (h:us.length=5):∃ a b c d e,us=[a,b,c,d,e]:=by
 obtain ⟨x,l,rfl,h'⟩:=sD h;obtain ⟨a1,b1,c1,d1,rfl⟩:=x5 h';exact ⟨x,a1,b1,c1,d1,rfl⟩
def Dn (K:ai) (x:Str) (st:dw) (f:aj):Prop:=cC K bF x=some (some (.ref f))/\∃ fd,Fun K x x st f fd
def Mn (K:ai) (C:aj) (x q:Str) (st:dw) (f:aj):Prop:=(bV K (.ref C) x=some (some (.ref f))/\jW K (.ref f)=true)/\∃ fd,Fun K x q st f fd
structure Cn (K:ai) (C:aj):Prop where
 c:Cls K C
 m:tP K C=true
 k:dZ K (.ref C)=true
theorem dn_i {K:ai} {x:Str} {st:dw} {f:aj} {oc:ag} {od an:Option aj} {sl:Array (Option ag)} {kV dc pm cd ct:ag} (a:cC K bF x=some (some (.ref f))) (l:K.lookup f=some ⟨oc,od,.func (eY x x (lI st) (jz st) (bf st) .none kV dc pm an cd ct),sl⟩) (c:jY K cd x=true) (k:dZ K (.ref f)=true):Dn K x st f:=⟨a,_,C7 l c k⟩
theorem mn_i {K:ai} {x q:Str} {st:dw} {f C:aj} {oc:ag} {od an:Option aj} {sl:Array (Option ag)} {kV dc pm cd ct:ag} (a:bV K (.ref C) x=some (some (.ref f))) (i:jW K (.ref f)=true) (l:K.lookup f=some ⟨oc,od,.func (eY x q (lI st) (jz st) (bf st) .none kV dc pm an cd ct),sl⟩) (c:jY K cd q=true) (k:dZ K (.ref f)=true):Mn K C x q st f:=⟨⟨a,i⟩,_,C7 l c k⟩
theorem dfx {K:ai} {h:cI} {mg:Str->Option ag} {x:Str} {st:dw} {f:aj} (ps:List Str) (X:K.In h) (G:h.Ns bF mg) (a:Dn K x st f) (hb:∀ (kV doc pm:ag) (an:Option aj) (cdv ct:ag) (us:List ag),us.length=ps.length->vD (eY x x (lI st) (jz st) (bf st) .none kV doc pm an cdv ct) ⟨us,[]⟩=pure (ps.zip us):=by intro _ _ _ _ _ _ us hl; first | (obtain ⟨a,rfl⟩:=xX hl; rfl) | (obtain ⟨a,b,rfl⟩:=xY hl; rfl) | (obtain ⟨a,b,c,rfl⟩:=xZ hl; rfl) | (obtain ⟨a,b,c,d,rfl⟩:=x5 hl; rfl) | (obtain ⟨a,b,c,d,e,rfl⟩:=Bt hl; rfl)):∃ fd,Df K mg x st ps f fd:=by
 obtain ⟨a,fd,F⟩:=a;exact ⟨fd,F,F.binds hb,eT X G a⟩
theorem mfx {K:ai} {x q:Str} {st:dw} {f C:aj} (ps:List Str) (a:Mn K C x q st f) (hb:∀ (kV doc pm:ag) (an:Option aj) (cdv ct:ag) (us:List ag),us.length=ps.length->vD (eY x q (lI st) (jz st) (bf st) .none kV doc pm an cdv ct) ⟨us,[]⟩=pure (ps.zip us):=by intro _ _ _ _ _ _ us hl; first | (obtain ⟨a,rfl⟩:=xX hl; rfl) | (obtain ⟨a,b,rfl⟩:=xY hl; rfl) | (obtain ⟨a,b,c,rfl⟩:=xZ hl; rfl) | (obtain ⟨a,b,c,d,rfl⟩:=x5 hl; rfl) | (obtain ⟨a,b,c,d,e,rfl⟩:=Bt hl; rfl)):∃ fd,Fun K x q st f fd/\Binds K fd ps []/\BC K C x f:=by
 obtain ⟨⟨a,i⟩,fd,F⟩:=a;exact ⟨fd,F,F.binds hb,a,i,F.kp⟩
theorem law_b {K:ai} {x q:Str} {st:dw} {f:aj} {fd:cf} {y:Str} (F:Fun K x q st f fd) (hb:∀ (kV doc pm:ag) (an:Option aj) (cdv ct v:ag),vD (eY x q (lI st) (jz st) (bf st) .none kV doc pm an cdv ct) ⟨[v],[]⟩=pure [(y,v)]) (s:ah) (v:ag):tD s fd ⟨[v],[]⟩ [(y,v)]:=by
 obtain ⟨oc,od,kV,doc,pm,an,cdv,ct,osl,rfl,_⟩:=F.ex;exact .of_eq (hb kV doc pm an cdv ct v)
theorem all_mk {l:Cv} {w:bN} {K:ai} {h:cI} {mg:Str->Option ag} {fa f1 f2 f3 f4 f5 f6 f7 f8 f9 f10 f11 f12 f13 f14 f15 f16 f17 f18 f19 f20 f21 f22 f23 f24 f25 f26 f27 f28 f29 f30 f31 f32 f33 f34 f35 f36 f37 f38 f39 C f40 f41 f42 f43 f44:aj} {aK aW CN D' fIn CFault CNoMark CNoModel CNoRoom CTooLate:aj} {tMP:Tok} (X:K.In h) (G:h.Ns bF mg) (hfa:mg "law"=some (.ref fa))
  (a1:Dn K "formula_words" gJ f1) (a2:Dn K "formulas_in" iB f2) (a3:Dn K "leaf_of" qE f3) (a4:Dn K "parts_in" mD f4) (a5:Dn K "lines_of" pf f5) (a6:Dn K "is_name" jI f6) (a7:Dn K "worth_in" mG f7) (a8:Dn K "number_in" iU f8) (a9:Dn K "model_text" lJ f9) (a10:Dn K "machine_lines" iw f10) (a11:Dn K "deed_lines" j6 f11) (a12:Dn K "deed_words" jd f12) (a13:Dn K "read_model" j7 f13) (a14:Dn K "machine_from" iV f14) (a15:Dn K "boxes_from" j8 f15) (a16:Dn K "queues_from" kF f16) (a17:Dn K "draws_from" j9 f17) (a18:Dn K "hears_from" ka f18) (a19:Dn K "deeds_from" jg f19) (a20:Dn K "deed_from" kM f20) (a21:Dn K "deed_of" oM f21) (a22:Dn K "send_of" qF f22) (a23:Dn K "_law_purse" nK f23) (a24:Dn K "_law_take" fC f24) (a25:Dn K "_law_names" jJ f25) (a26:Dn K "_law_worth" ia f26) (a27:Dn K "_law_formula" iC f27) (a28:Dn K "_law_deed" mH f28) (a29:Dn K "_law_deeds" jK f29) (a30:Dn K "_law_machine" iD f30) (a31:Dn K "_law_machines" iW f31) (a32:Dn K "_law_words" jL f32) (a33:Dn K "_law_deed_lines" gZ f33) (a34:Dn K "_law_deeds_lines" gf f34) (a35:Dn K "_law_lines" jM f35) (a36:Dn K "_law_few" qG f36) (a37:Dn K "_law_tried" nM f37) (a38:Dn K "_law_closed" kb f38) (a39:Dn K "law" Eg f39) (aC:cC K bF "Lines"=some (some (.ref C))) (a40:Mn K C "__init__" "Lines.__init__" lK f40) (a41:Mn K C "is_behind" "Lines.is_behind" gd f41) (a42:Mn K C "words" "Lines.words" gq f42) (a43:Mn K C "named" "Lines.named" gr f43) (a44:Mn K C "pass_by" "Lines.pass_by" dQ f44) (pC:Cn K C) (nClines:bV K (.ref C) "lines"=some none) (nCplace:bV K (.ref C) "place"=some none) (nCdeed_count:bV K (.ref C) "deed_count"=some none) (gFault:cC K bF "Fault"=some (some (.ref CFault))) (gNoMark:cC K bF "NoMark"=some (some (.ref CNoMark))) (gNoModel:cC K bF "NoModel"=some (some (.ref CNoModel))) (gNoRoom:cC K bF "NoRoom"=some (some (.ref CNoRoom))) (gTooLate:cC K bF "TooLate"=some (some (.ref CTooLate))) (gMomentError:cC K bF "MomentError"=some (some (.ref D'))) (gNoText:cC K bF "NoText"=some (some (.ref CN))) (hmro:(iA K CN).any (fun cd=>cd.mro == [.ref CN,.ref D',.type "ValueError",.type "Exception",.type "BaseException",.type "object"] && cd.hasDict)=true) (hmade:(K.lookup CN).any (fun ob=>ob.cls == .type "type" && (match ob.data,ob.slots.toList with | .cls cd,[_,_,_,_,some (.builtin n),_]=>n == "ValueError.__new__" && !cd.hasDel | _,_=>false))=true) (htail:qX K D' ID "ValueError.__new__"=true) (hinit:bV K (.ref CN) "__init__"=some (some (.ref fIn))) (hfn:jW K (.ref fIn)=true) (hkp:dZ K (.ref CN)=true) (hsa:bV K (.ref CN) "__setattr__"=some (some (.builtin "object.__setattr__"))) (hnl:bV K (.ref CN) "line"=some none) (xga:bV K (.ref CN) "__getattribute__"=some (some (.builtin "BaseException.__getattribute__"))) (xgh:bV K (.ref CN) "__getattr__"=some none) (xcl:bV K (.ref CN) "__class__"=some (some (.builtin "object.__class__"))) (xcn:rR K (.builtin "object.__class__") "__get__"=some (some (.builtin "getset_descriptor.__get__"))) (xck:tQ K (.builtin "object.__class__")=some true) (xob:nY K CN (.type "object")=some true) (xbe:nY K CN (.type "BaseException")=some true) (ono:uX K (.ref CN) [.ref CFault,.ref CNoMark,.ref CNoModel,.ref CNoRoom,.ref CTooLate]=some false) (oyes:mB K (.ref CN) (.ref CN)=some true) (ove:mB K (.ref CN) (.type "ValueError")=some true) (oex:qr K (.ref CN) (.ref D')=some true) (aIn:Mn K CN "__init__" "NoText.__init__" oj fIn) (aWo:cC K bF "WORDS"=some (some (.ref aW))) (hTab:Tab K aW oN) (aKi:cC K bF "KINDS"=some (some (.ref aK))) (hTK:Tab K aK wF) (aMp:cC K bF "MOST_PARTS"=some (some (.int 15 tMP))) (zlen:cC K bF "len"=some none) (zabs:cC K bF "abs"=some none) (zisinstance:cC K bF "isinstance"=some none) (zlist:cC K bF "list"=some none) (ztuple:cC K bF "tuple"=some none) (zstr:cC K bF "str"=some none) (zint:cC K bF "int"=some none) (zbool:cC K bF "bool"=some none) (zrange:cC K bF "range"=some none) (zmax:cC K bF "max"=some none) (zdict:cC K bF "dict"=some none) (zenumerate:cC K bF "enumerate"=some none) (zall:cC K bF "all"=some none) (zValueError:cC K bF "ValueError"=some none) (zreversed:cC K bF "reversed"=some none) (zsorted:cC K bF "sorted"=some none) :
  ∃ fd:cf,(∀ (s:ah) (v:ag),tD s fd ⟨[v],[]⟩ [("_law_script",v)])/\∀ base:cI,K.In base->base.Ns bF mg->dU l.prog w K mg base CX0 80 fa fd ["_law_script"] (Dr.spLaw K):=by
 obtain ⟨_,D1⟩:=dfx ["formula"] X G a1;obtain ⟨_,D2⟩:=dfx ["words","count"] X G a2;obtain ⟨_,D3⟩:=dfx ["word"] X G a3;obtain ⟨_,D4⟩:=dfx ["formula"] X G a4;obtain ⟨_,D5⟩:=dfx ["text"] X G a5;obtain ⟨_,D6⟩:=dfx ["word"] X G a6;obtain ⟨_,D7⟩:=dfx ["word"] X G a7;obtain ⟨_,D8⟩:=dfx ["word","least","most"] X G a8;obtain ⟨_,D9⟩:=dfx ["machines"] X G a9;obtain ⟨_,D10⟩:=dfx ["machine"] X G a10;obtain ⟨_,D11⟩:=dfx ["deeds","blanks"] X G a11;obtain ⟨_,D12⟩:=dfx ["deed"] X G a12;obtain ⟨_,D13⟩:=dfx ["text"] X G a13;obtain ⟨_,D14⟩:=dfx ["lines","name"] X G a14;obtain ⟨_,D15⟩:=dfx ["lines"] X G a15;obtain ⟨_,D16⟩:=dfx ["lines","names"] X G a16;obtain ⟨_,D17⟩:=dfx ["lines"] X G a17;obtain ⟨_,D18⟩:=dfx ["lines"] X G a18;obtain ⟨_,D19⟩:=dfx ["lines","depth"] X G a19;obtain ⟨_,D20⟩:=dfx ["lines","depth"] X G a20;obtain ⟨_,D21⟩:=dfx ["words"] X G a21;obtain ⟨_,D22⟩:=dfx ["words"] X G a22;obtain ⟨_,D23⟩:=dfx ["_law_script"] X G a23;obtain ⟨_,D24⟩:=dfx ["_law_purse_here","_law_many"] X G a24;obtain ⟨_,D25⟩:=dfx ["_law_purse_here","_law_many"] X G a25;obtain ⟨_,D26⟩:=dfx ["_law_purse_here"] X G a26;obtain ⟨_,D27⟩:=dfx ["_law_purse_here","_law_names_here","_law_most"] X G a27;obtain ⟨_,D28⟩:=dfx ["_law_purse_here","_law_names_here","_law_left","_law_deep"] X G a28;obtain ⟨_,D29⟩:=dfx ["_law_purse_here","_law_names_here","_law_left","_law_deep"] X G a29;obtain ⟨_,D30⟩:=dfx ["_law_purse_here","_law_name"] X G a30;obtain ⟨_,D31⟩:=dfx ["_law_purse_here"] X G a31;obtain ⟨_,D32⟩:=dfx ["_law_formula_here"] X G a32;obtain ⟨_,D33⟩:=dfx ["_law_deed_here","_law_ahead"] X G a33;obtain ⟨_,D34⟩:=dfx ["_law_deeds_here","_law_ahead"] X G a34;obtain ⟨_,D35⟩:=dfx ["_law_machines_here"] X G a35;obtain ⟨_,D36⟩:=dfx ["_law_machines_here"] X G a36;obtain ⟨_,D37⟩:=dfx ["_law_lines_here"] X G a37;obtain ⟨_,D38⟩:=dfx ["_law_lines_here"] X G a38;obtain ⟨_,D39⟩:=dfx ["_law_script"] X G a39;obtain ⟨_,FLi,bLi,mLi⟩:=mfx ["self","text"] a40;obtain ⟨_,FBe,bBe,mBe⟩:=mfx ["self"] a41;obtain ⟨_,FWd,bWd,mWd⟩:=mfx ["self","depth"] a42;obtain ⟨_,FNd,bNd,mNd⟩:=mfx ["self","depth","kind","count","names"] a43;obtain ⟨_,FPb,bPb,mPb⟩:=mfx ["self"] a44;have MC:Mk K C _:=⟨pC.m,mLi.at_,mLi.fn,pC.k⟩;have e:=hfa.symm.trans D39.m
 cases e;have B:Bl mg:=⟨cP X G zlen,cP X G zabs,cP X G zisinstance,cP X G zlist,cP X G ztuple,cP X G zstr,cP X G zint,cP X G zbool,cP X G zrange,cP X G zmax,cP X G zdict⟩;obtain ⟨fdIn,FIn,bIn,mIn⟩:=mfx ["self","line"] aIn;have N:NT K mg CN D' fIn fdIn:=⟨⟨hmro,hmade,htail,hinit,hfn,hkp,hsa,hnl,⟨xga,xgh,xcl,xcn,xck,xob,xbe⟩⟩,FIn,bIn,(eT X G gNoText)⟩;have O:Oth K mg CN D' CFault CNoMark CNoModel CNoRoom CTooLate:=⟨(eT X G gFault),(eT X G gNoMark),(eT X G gNoModel),(eT X G gNoRoom),(eT X G gTooLate),(eT X G gMomentError),ono,oyes,ove,oex⟩;have MS:mg "sorted"=none:=cP X G zsorted;have hW:mg "WORDS"=some (.ref aW):=eT X G aWo;have T:LT K mg C:=⟨pC.c,nClines,nCplace,nCdeed_count,eT X G aC⟩;have hK:mg "KINDS"=some (.ref aK):=eT X G aKi;have hMP:mg "MOST_PARTS"=some (.int 15 tMP):=eT X G aMp;have ME:mg "enumerate"=none:=cP X G zenumerate;have MA:mg "all"=none:=cP X G zall;have MV:mg "ValueError"=none:=cP X G zValueError;have MR:mg "reversed"=none:=cP X G zreversed;have tBe:Mt K C "is_behind" "Lines.is_behind" gd pBe _ _:=⟨FBe,bBe,mBe⟩;have tWd:Mt K C "words" "Lines.words" gq pWd _ _:=⟨FWd,bWd,mWd⟩;have tNd:Mt K C "named" "Lines.named" gr pNd _ _:=⟨FNd,bNd,mNd⟩;have tPb:Mt K C "pass_by" "Lines.pass_by" dQ pPb _ _:=⟨FPb,bPb,mPb⟩;have tLi:Mt K C "__init__" "Lines.__init__" lK pLi _ _:=⟨FLi,bLi,mLi⟩;exact ⟨_,law_b D39.F fun _ _ _ _ _ _ _=>rfl,fun base _ _=>Dr.ok_law D39 D23 D24 D31 (Dr.ok_ms D31 D24 D25 D30 (Dr.ok_ma D30 D24 D26 D25 D29 (Dr.ok_dsde D28 D29 D24 D26 D27 B 5).2 B) B) D36 D35 (Dr.ok_ll D35 D34 (Dr.ok_slel D33 D34 D32 B 5).2 B) D38 D37 (Dr.ok_tr D37 D13 (ok_rm D13 MC (ok_li tLi D5 T) bLi tNd (Ba tNd tWd (wL tWd tBe T B) D6 T B MA) tPb tBe D14 (ok_mf D14 D15 (ok_bf D15 tNd (Ba tNd tWd (wL tWd tBe T B) D6 T B MA) tPb D7 (Hh D7 D8 B MV) T B) D16 (ok_qf D16 tNd (Ba tNd tWd (wL tWd tBe T B) D6 T B MA) tPb T B) D17 (ok_df D17 tWd (wL tWd tBe T B) tPb D8 (Ew D8 B MV) T B) D18 (ok_hf D18 tNd (Ba tNd tWd (wL tWd tBe T B) D6 T B MA) tPb D19 (Bk D20 D19 D21 (ok_do D21 D22 (ok_so D22 D8 (Ew D8 B MV) D6 D2 (Hk D2 D3 (Hi D3 D7 D8 D6 B MV MA) D4 B MR hK hTK hMP) B MA) D6 D2 (Hk D2 D3 (Hi D3 D7 D8 D6 B MV MA) D4 B MR hK hTK hMP) B MA) tWd (wL tWd tBe T B) tPb N T B 5).2 T B) T B) N T B) N O B MV) D9 (Dr.ok_mt D9 D10 (Dr.ok_ml D10 D11 (Dr.ok_dl D11 D12 (Dr.ok_dw D12 D1 B hW hTab) B 5 (by decide)) B) B) MR MS B⟩
theorem walk {l:Cv} {q:aS} {loose:List Str} {XP:(Str->Option ag)->cI->Prop} {YP:bN->cI->Prop} {d:IM} {K:Params->ai} (hn:l.most=some 63) (hdf:d.params.defaults=[])
  (hY:∀ (w:bN) (h:cI),YP w h->(K w.params).In h)
  (F:∀ (w:bN) (mg:Str->Option ag) (fa:aj) (h:cI),(K w.params).In h->h.Ns bF mg->mg d.name=some (.ref fa) ->
   ∃ fd:cf,(∀ (s:ah) (u:ag),tD s fd ⟨[u],[]⟩ [("_law_script",u)])/\∀ base:cI,(K w.params).In base->base.Ns bF mg->dU l.prog w (K w.params) mg base CX0 80 fa fd ["_law_script"] (Dr.spLaw (K w.params))) :
  L2.WalkC q loose XP YP l.row.toRowW d:=
 L2.walkC_of (n:=63) (k:=80) (x:="_law_script") (CX:=fun _=>CX0) (sp:=fun w=>Dr.spLaw (K w.params)) hn (by decide) hdf ⟨rfl,by decide,by decide⟩ hY F (fun _ _ a ns hl hb hS=>⟨a,ns,rfl,hS,hl,hb,fun _=>rfl⟩) fun _ _ _ _ _ z=>z
end My
namespace PySem.W.Fast
def tw8631820403086669653:=0
def tw9589238959990798328:=0
def tw10079400093743176157:=0
def tw12027707420300029083:=0
def tw5141569705721442149:=0
def tw14942305930713063278:=0
def tw8793332494010169197:=0
def tw688628544567694288:=0
def tw4617942726522419547:=0
def tw16537679178362778026:=0
def tw7505625243594988441:=0
def tw8297294419022023290:=0
def tw11554356505085031726:=0
def tw16853369746664810658:=0
def tw2712826417113295048:=0
def tw1029054883351591986:=0
def tw12915582430233115141:=0
def tw5416957228287308429:=0
def tw1622269329328017614:=0
def tw1458464538155975565:=0
def tw17468857126258192408:=0
def tw6226129280478625493:=0
def tw12022339086266864218:=0
def tw11258722915789136833:=0
def tw2015580762757512395:=0
def tw8085948474461325802:=0
def tw10220606527195606598:=0
def tw18127377142692877660:=0
def tw13659722194896160218:=0
def tw7479730354256711437:=0
def tw13427601759256911224:=0
def tw3153612054898717709:=0
def tw11975973318858150160:=0
def tw3426066431543279657:=0
def tw16549328332140754857:=0
def tw3738268163425559536:=0
def tw17743244039095434897:=0
def tw5386051489300342744:=0
def tw13012430550878170484:=0
def tw18350342316213041396:=0
def tw10819846184499136711:=0
def tw8188719382454141293:=0
def tw3245728153382191921:=0
def tw15722018550249942237:=0
def tw9179621619873770430:=0
def tw14927064669336965515:=0
def tw12974165366106719595:=0
def tw18441462378876695022:=0
def tw11913040203472365540:=0
def tw2157363920975297334:=0
def tw14763483901729678352:=0
def tw6148978266212535293:=0
def tw2247390446920624508:=0
def tw8632242965486174376:=0
def tw16756989711315480948:=0
def tw10449347904376627341:=0
def tw4323554707501359378:=0
def tw224681399683855158:=0
def tw16399952825362305908:=0
def tw5492546895854158455:=0
def tw7062947938058894519:=0
def tw14601649197487905162:=0
def tw16401138683131171469:=0
def tw5789416274526029060:=0
def tw1344731784822150195:=0
def tw3736211272549752888:=0
def tw12215829232616591564:=0
def tw3109815701566385605:=0
def tw16201127706397304943:=0
def tw13813000122027228148:=0
def tw5854454702623284979:=0
def tw4589518886091818819:=0
def tw12431237215384010507:=0
def tw11023350471386717371:=0
def tw13865034111672585652:=0
def tw4631224756741941101:=0
def tw18020685687376100016:=0
def tw3220686014076785697:=0
def tw8423300923104435496:=0
def tw12177427145227726938:=0
def tw1218457115543694245:=0
def tw3890716549388976044:=0
def tw14412042002888903750:=0
def tw763719266479794229:=0
def tw5680410567817294914:=0
def tw14590739294620482593:=0
def tw17691006547317482749:=0
def tw14295273040013006154:=0
def tw10448965965771145804:=0
def tw10882991530765570420:=0
def tw11565227088838575068:=0
def tw15282084097735190559:=0
def tw13635334897066249170:=0
def tw7262403570941261976:=0
def tw13123920950199676942:=0
def tw6042918827255423818:=0
def tw10736189207750053528:=0
def tw14606283833032923737:=0
def tw10012585790996746252:=0
def tw7145953894398106788:=0
def tw13644775592891151369:=0
def tw5423568333601600892:=0
def tw10853387493614240645:=0
def tw12189549725240487547:=0
def tw6869484979251589756:=0
def tw8081076436224171356:=0
def tw5631438643139510374:=0
def tw16856630485972142204:=0
def tw2656682014585141276:=0
def tw4474552978206326036:=0
def tw17414962742451479931:=0
def tw15435112708701414344:=0
def tw8032338822643686898:=0
def tw8211577265219108329:=0
def tw14006044781461020947:=0
def tw1916367889870081933:=0
def tw17757759472500875678:=0
def tw8894853437749020319:=0
def tw9221769865065511472:=0
def tw3994647013831289071:=0
def tw12174479590000571925:=0
def tw15676616716307473527:=0
def tw5065220919255671284:=0
def tw7907050587162206592:=0
def tw16557519607556425087:=0
def tw17100356406699504526:=0
def tw8039246937898179485:=0
def tw5482046898820280744:=0
def tw2123739575212354093:=0
def tw3122332207701051838:=0
def tw6277281740218455434:=0
def tw17686677610224024485:=0
def tw8312587896432325811:=0
def tw13566223948712259532:=0
def tw9361909156153831268:=0
def tw8312939478170010725:=0
def tw7452467568605921451:=0
def tw12588655285748216360:=0
def tw17317220528400190886:=0
def tw17898964166252852679:=0
def tw7803600659159821412:=0
def tw501555887794791099:=0
def tw12582863832359838216:=0
def tw15774780762752610319:=0
def tw1200299361617528053:=0
def tw7759968852111565091:=0
def tw3536657860013156053:=0
def tw13855713262275716800:=0
def tw2940411475831295225:=0
def tw13436588961637631990:=0
def tw13328753838584797430:=0
def tw1750463057641389282:=0
def tw14334300780906325317:=0
def tw13763454781469223824:=0
def tw14360088885549718291:=0
def tw10945138961354346477:=0
def tw1418688727555654093:=0
def tw1744572666848025655:=0
def tw9196747248682113085:=0
def tw6268388288212205387:=0
def tw8497944397998301260:=0
def tw895323165549426290:=0
def tw13632657995555247688:=0
def tw9049227607889741100:=0
def tw7057723880564831622:=0
def tw5053944005968271631:=0
def tw16651993168316928877:=0
def tw5368608142900947064:=0
def tw15960566228891506628:=0
def tw15810154039945464033:=0
def tw9225102518930584303:=0
def tw3814359297265995425:=0
def tw10406589227352729395:=0
def tw8227096409132323410:=0
def tw5475134113018942316:=0
def tw13383007143038244440:=0
def tw11425936136521687425:=0
def tw6221687489130337531:=0
def tw3522215120584554451:=0
def tw17455446699712969048:=0
def tw16187682333890622907:=0
def tw11075511970729738090:=0
def tw13560673973211368313:=0
def tw11571978438652341121:=0
def tw7892242911361985226:=0
def tw2696990731778289339:=0
def tw6618472372318885312:=0
def tw13512893527045143419:=0
def tw17200472521287511262:=0
def tw7214959423214824085:=0
def tw5385222433836150249:=0
def tw11073339825013193324:=0
def tw14302488619191970915:=0
def tw17515087072405954518:=0
def tw15717700123893284438:=0
def tw5231218298995652694:=0
def tw6404760953935469600:=0
def tw17602100274581462132:=0
def tw3153342130858258314:=0
def tw3762043477412232189:=0
def tw1641935096666096440:=0
def tw8620705110211934601:=0
def tw7436182734449874191:=0
def tw12978210930387964798:=0
def tw8818502727711911124:=0
def tw7725200985425277912:=0
def tw35049996606606888:=0
def tw12590400734459629665:=0
def tw6854188782083846317:=0
def tw2948134760787334346:=0
def tw379504475134300435:=0
def tw12372362522472374724:=0
def tw9009837198714049498:=0
def tw8493953753658932908:=0
def tw1332405991842432950:=0
def tw794257279021286141:=0
def tw10320890521497890085:=0
def tw18108164122912572896:=0
def tw5192924118906747077:=0
def tw4957217934367157746:=0
def tw636503223034055647:=0
def tw5683598275589325371:=0
def tw12070885591156601093:=0
def tw8253853654238650963:=0
def tw11354344876300253151:=0
def tw16428692598088657396:=0
def tw5438309188988641892:=0
end PySem.W.Fast
namespace My
open PySem PySem.W L2
theorem PySem.W.holds_open {r:OpenRow} {q:aS} {loose:List Str} {Xt:ah->Bool} {XP:(Str->Option ag)->cI->Prop} {α:Type} {Yf:ah->α} {Ya:bN->α} {YP:bN->cI->Prop} {d:IM} {kwd:List (Str×cA)} {N:Nat} (left:LeftO r.prog q loose Xt Yf Ya N) (hY:∀ w s,Yf s=Ya w->YP w s.heap)
  (hYk:∀ w h h',YP w h->(∀ b o,h.get? b=some o->h'.get? b=some o)->YP w h') (hX:∀ s,Xt s=true->XP (s.heap.nsMap bF) s.heap) (hXk:∀ mg h h',XP mg h->(∀ b o,h.get? b=some o->h'.get? b=some o)->XP mg h') (hdef:defOf q r.name=some (d,kwd)) (hp:r.prog.theDef r.name=some (d.params,d.body,d.scope))
  (hk:kwWritten? d.params.kwonlyargs d.params.kw_defaults=some kwd) (hRf:∀ s,Xt s=true->RecFacts r.records s.heap) (hwr:(!r.writes || r.records.isEmpty)=true) (k1:r.wellSaid=true) (ok:(chainsOk q && opensWell r.prog && (frees r.toRowW && r.within.isEmpty))=true) (hb:r.prog.bare) (hw:r.toRowW.promised) (rO:WalkC q loose XP YP r.toRowW d):r.Holds:=
 headC left hY hYk hX hXk hdef hp hk hRf hwr k1 ok hb hw rO
open PyProof.Rows
set_option maxRecDepth 100000 in
set_option maxHeartbeats 0 in
theorem aux:PySem.Challenge.rw_momentloom_k74_whole_beginnings_of_model.Holds:=by
 w_on; o_law; k_head; (case hw=>w_witness2)
 k_fill
 refine My.walk (l:=Jl) rfl rfl (fun w h Y=>PySem.W.kIn_of Y) ?F
 case F =>
  intro w mg fa h KX G hmg;refine' My.all_mk KX G hmg ?a1 ?a2 ?a3 ?a4 ?a5 ?a6 ?a7 ?a8 ?a9 ?a10 ?a11 ?a12 ?a13 ?a14 ?a15 ?a16 ?a17 ?a18 ?a19 ?a20 ?a21 ?a22 ?a23 ?a24 ?a25 ?a26 ?a27 ?a28 ?a29 ?a30 ?a31 ?a32 ?a33 ?a34 ?a35 ?a36 ?a37 ?a38 ?a39 ?aC ?a40 ?a41 ?a42 ?a43 ?a44 ?pC ?nClines ?nCplace ?nCdeed_count ?gFault ?gNoMark ?gNoModel ?gNoRoom ?gTooLate ?gMomentError ?gNoText ?hmro ?hmade ?htail ?hinit ?hfn ?hkp ?hsa ?hnl ?xga ?xgh ?xcl ?xcn ?xck ?xob ?xbe ?ono ?oyes ?ove ?oex ?aIn ?aWo ?hTab ?aKi ?hTK ?aMp ?zlen ?zabs ?zisinstance ?zlist ?ztuple ?zstr ?zint ?zbool ?zrange ?zmax ?zdict ?zenumerate ?zall ?zValueError ?zreversed ?zsorted
  case a1 | a2 | a3 | a4 | a5 | a6 | a7 | a8 | a9 | a10 | a11 | a12 | a13 | a14 | a15 | a16 | a17 | a18 | a19 | a20 | a21 | a22 | a23 | a24 | a25 | a26 | a27 | a28 | a29 | a30 | a31 | a32 | a33 | a34 | a35 | a36 | a37 | a38 | a39=>
   refine' My.dn_i ?a ?l ?c ?k
   case a=>k_is
   case l=>k_is
   case c=>k_is
   case k=>k_is
  case aC=>k_is
  case a40 | a41 | a42 | a43 | a44=>
   refine' My.mn_i ?a ?i ?l ?c ?k
   case a=>k_is
   case i=>k_is
   case l=>k_is
   case c=>k_is
   case k=>k_is
  case pC=>exact ⟨⟨by k_is,by k_is,by k_is,by k_is⟩,by k_is,by k_is⟩
  case nClines | nCplace | nCdeed_count | zlen | zabs | zisinstance | zlist | ztuple | zstr | zint | zbool | zrange | zmax | zdict | zenumerate | zall | zValueError | zreversed | zsorted=>k_is
  case gFault | gNoMark | gNoModel | gNoRoom | gTooLate | gMomentError | gNoText | aWo | aKi | aMp=>k_is
  case hmro | hmade | hinit | hfn | hkp | hsa | hnl | xga | xgh | xcl | xcn | xck | xob | xbe | ono | oyes | ove | oex | hTab | hTK=>(first | k_is | rfl | decide | decide +kernel)
  case htail=>k_exc
  case aIn=>(refine' My.mn_i ?a ?i ?l ?c ?k; (case a=>k_is); (case i=>k_is); (case l=>k_is); (case c=>k_is); (case k=>k_is))
end My
theorem PySem.Challenge.cw_momentloom_k74_whole_beginnings_of_model_holds : PySem.Challenge.rw_momentloom_k74_whole_beginnings_of_model.Holds := by
 exact My.aux

