import PyProof.Rows.All
import Wide.All
import OpenK.AllK
import Wide.FinOn
import Lean
import PyProof.EqAt
import PyProof.EqKinds
import PyProof.TupleCall
import KE.KDictOf
import PyProof.AttrMissSeq
import PyProof.DictCopy
import PyProof.NeKinds
import PyProof.DictWalks
import PyProof.MinMaxWalk
import PyProof.MeetsDictList
import PyProof.DictFindH
import PyProof.DictTruth
import KE.KRevSl
import PyProof.DictItems
import KE.KDictSum
import PyProof.Rows.SortStr
import PyProof.Rows.SortWalk
import PyProof.ExcArgsOwn
import PyProof.NsDelKeeps
import PyProof.EnumMake
import PyProof.EnumFor
import PyProof.EnumStmt
import PyProof.Rows.EnumRows
import PyProof.Rows.SortRev
import KE.KSortTup
import KE.KTab
import PyProof.Rows.SortShell
import PyProof.Rows.SetFrom
import PyProof.FactsAll.set
import PyProof.DictIter
import KE.KDictList
import PySem.Challenge.RW_momentloom_k53_whole_reasons_of_beginnin
open Option renaming some->Z8,none->Z7
theorem Z9.{u}{α:Sort u}{a:α}:a=a:=rfl
set_option hygiene false
local macro_rules
| `(#[1])=>`(by decide +kernel)
local macro_rules
| `(#[2])=>`(by omega)
local macro_rules
| `(#[3])=>`(fun vs H Q E h=>?_)
local macro_rules
| `(#[4])=>`(aS X.prog X.w)
local macro_rules
| `(#[5])=>`(by simp)
local macro_rules
| `(#[6])=>`(tW D9 kw g MtR (j8 (cf:=(pU CN CG U V M O)) MtR W D1 D3 D4 D2 Y J Z B) ku lp (Ag lp MtR (j8 (cf:=(pU CN CG U V M O)) MtR W D1 D3 D4 D2 Y J Z B) lr Y J Z B) I (xn I MtR (j8 (cf:=(pU CN CG U V M O)) MtR W D1 D3 D4 D2 Y J Z B) g Y J Z B) D (Ai D MtR (j8 (cf:=(pU CN CG U V M O)) MtR W D1 D3 D4 D2 Y J Z B) W Y J Z B) lr Y Z 5)
local macro_rules
| `(#[7])=>`(by rfl)
local macro_rules
| `(#[8])=>`((s.heap.update a (cN fun _=>#[])).push (dH "tuple" vs.toArray 0))
local macro_rules
| `({$x:term,*})=>`(⟨$x,*⟩)
open PySem renaming wpAny_bind->aa,Addr->ae,Value->af,Shared->ai,wpAny_pure->ax,sizeLine->aD,Program->aI,Paired->aN,wpAny->aP,model->aS,World->aY,Around->bJ,mainGlobals->bP,FuncData->bY,Heap->cb,starEach->cz,boot_len->cA,Expr->cK,wpAny_loadPart'->cQ,wpAny_holding->cU,Stmt->df,cLine->dM,compareOp->eB,wpAny_call_entry->eE,sysModules->eF,Builtin->eK,wpAny_newObj_type->eM,wpAny_setState_of->eN,wpAny_mono->eQ,bootBuiltins->eV,intKind->fi,eval->fY,SetTable->gb,codeAny_builtin->gj,wpAny_ite_split->gm,rawInt->gN,mem_of_lookup->gP,wpAny_richCompare_same_room->ig,binaryOp->ji,wpAny_forIn_list->jj,wpAny_callSpecial?_slot->jk,wpAny_setField->jo,codeAny_mono->jD,wpAny_Call_Name_kw->jE,wpAny_passesOwn->jO,backTo->jZ,wpAny_truthy_bool->j1,keywordEach->j9,scanBound->ko,wpAny_askSetting->kr,Scope->kM,behindInMarks->kN,plainId_quiet->kP,codeAny->kS,NameKind->lQ,wpAny_pyIter_slot->lT,swapsWith->mE,assignEach->mH,attributeBase->nr,wpAny_newList->nv,sizeLine_eq->nA,wpAny_field->nC,sliceBounds->nF,call_meetsIn->oJ,getMethod->o5,pyNext->o9,backToKw->px,atKey->pA,wpAny_rule->pB,holding->qb,foldedSetIterable->qc,richCompare->qe,valueAt->qf,wpAny_dictEntries->qg,fits_of_scanBound->qm,wpAny_isInstance->rF,pickOrder->rH,richCompare_meets_room->sE,wpAny_typeOf->sF,call_meets->sI,wpAny_execs_nil->sV,letOwnedTupleGo->sW,builtinLookup_eq_fast->tN,wpAny_seqItems->uy,unbindBehindTheSuite->uC,wpAny_fieldsOf->uU,BindsTo->uY,getItem->vc,eqIsQuiet->vt,call->vz,ExceptHandler->vV,wpAny_attempt->wG,wpAny_call->w5,stored->w9,tupleKind_room_in1->xb,setEntries->xO,standAt->x6,wpAny_pyIter_list->x8,callerA->yf,tupleKeyHash->yn,relayAll->yq,tupleKind->zx,assign->zz,IsPart->zO,IsRangeIter->AK,subscripted->AM,Within->A2,wpAny_specialOf->Ba,typeLookup_type->Bk,leaving->B5,setNext->Cb,Result->Cm,callWith->Co,bindArgs->Cs,wpAny_newFunctionEnv_cells->Cv,entryFor->CT,entryFor_alias->C2,wpAny_newTuple->C5,checkCount->C7,isSubtype_type->DQ,setsByText->DV,evalArgs_none->Eu,wpAny_standAt->FG,call->FW,bindL->Ht,bindC->Hu,cellsFrom->Hv,wpAny_Call_method0_late->Hx,DictEntry->Hy,noteFrame->Hz,isTrue->HG,pyIter->HP,wpAny_pyNext_list_item->HQ,wpAny_pyNext_range_end->HR,wpAny_pyIter_rangeiter->HS,rule->HX,seqIndex_neg->Io,wpAny_Assign_Subscript->IE,MeetsIn->IM,ElemsOf->KM,wpAny_isTrue_Compare1->Lq,wpAny_pyNext_list_end->Lr,codeAny_call_function->Ls,GenState->LA,Model->LB,Operator->LF,seqIndex_of->LP,wpAny_of_eq->NO,KeyKind->Oe,builtinsNs->PQ,wpAny_Name->PU,wpAny_load->PZ,wpAny_pyIter_range->P1,typeLookup->P7,wpAny_getItem_heap->Qg,wpAny_setItem_heap->Qh,IsTupleKey->Rp,wpAny_pyHash_tuple->Rq,wpAny_eqBool_tuple->Rr,table->RM,CmpOp->RN,wpAny_assign_Name->RO,Keyword->RQ,slot_list_getitem->RT,storedH->RW,wpAny_storeSet_of->R3,wpAny_setEpoch_of->R4
open PySem.W renaming Frag->ag,findIn->aZ,nsIn->cq,mg_none_of->cL,exmOne->dE,excIn->dU,mg_of->eX,kia_one->eY,emptyDict->fj,fnOf->fu,keepIn->gX,kitOne->gY,instObj->ik,codeIn->kA,methodCall_KW->kT,looks_findIn->lF,callWith_K->mJ,katRev->mR,plainGet->oH,isFn->pj,cellsFrom_some->pz,hideAll->pV,lookIn->qx,plainGet_of->rD,methodObj->tf,hasDictIn->tD,takerIn->vA,makesIn->vB,OpenLaw->vE,InstAt->wX,mroIn->x9,hideAll_get->B2,callWith_K0->B4,of_hideAll->Cc,codeRec_of->Cu,plainOver->En,specialIn->Eo,kitx_list->Ep,kitx_dict->Er,handedIn->FM,kdl_dict->GX,takesIn->Hs,exm_one->HB,typeIn->Ie,notCls->IW,WalkO->Lu,kas_rev->R0
open List renaming length_map->ah,mem_cons_of_mem->aj,mem_cons->aq,length_append->au,getElem?_eq_getElem->aw,mem_cons_self->aB,getElem?_eq_some_iff->aC,size_toArray->aH,mem_singleton->aK,not_mem_nil->aV,length_cons->aX,map_append->bA,mem_of_getElem?->bC,length_take->bD,map_cons->bK,mem_append_right->bL,lookup_cons_self->bS,getElem?_map->bT,mem_append->cj,take_add_one->cm,take_length->cu,replicate->cy,mem_map->cB,lookup_cons->cC,getD_eq_getElem?_getD->cG,nodup_cons->cH,length_nil->cI,append_nil->cO,pairwise_iff_getElem->cT,getElem?_of_mem->c9,getElem?_append_right->dh,pairwise_cons->dv,getElem?_eq_none->dB,map_map->dC,getElem?_append_left->d8,pairwise_singleton->eG,getElem?_set_self->eP,pairwise_append->fh,zip_cons_cons->gf,nodup_append->gI,range->gK,map_congr_left->gR,take_append_drop->ij,find?_cons->iF,mem_append_left->iI,getElem?_set_ne->iJ,getElem?_take_of_lt->iN,mem_range->iX,nodup_nil->iY,length->i5,length_filter_le->jB,foldl_append->jL,append_assoc->jM,take_zero->jW,dropLast_subset->jY,getElem_map->j2,length_reverse->j7,map_nil->kU,pairwise_map->kW,length_replicate->lG,length_drop->lN,getElem_mem->lO,any_cons->lS,lookup->lW,length_dropLast->lX,flatMap_append->ng,mem_filterMap->nX,take_take->oq,ext_getElem?->oM,length_range->o4,getElem?_replicate->pX,any_eq_true->pY,toArray->qh,of_mem_zip->qy,length_zip->qN,nil_append->qV,contains_iff_mem->rj,mem_of_mem_take->rR,mem_iff_getElem->rT,filterMap_cons->sU,mem_map_of_mem->sY,take_sublist->uZ,reverse_perm->vk,eraseIdxIfInBounds_toArray->vC,cons_append->vR,map_reverse->wx,ext_getElem->wH,all_eq_true->wI,length_set->xW,foldl_cons->xY,drop_zero->yR,length_eraseIdx_of_lt->zm,getElem?_zip_eq_some->zY,drop_eq_getElem_cons->Aj,getLast?_eq_none_iff->Am,length_erase_of_mem->AU,Pairwise->AX,take_of_length_le->B7,length_pos_of_mem->B9,length_singleton->CJ,mem_erase_of_ne->EN,dropLast_concat->E1,getLast?_concat->E2,length_pos_iff->GK,zip_nil_right->Hw,getElem?_drop->HA,zip_nil_left->Ij,reverse_cons->Iw,drop_length->Lv,perm_middle->Lw,mem_filter->Lx,all_cons->Qc,map_take->QL,map_set->R1
open Nat renaming le_refl->ay,ne_of_lt->aM,zero_le->aW,lt_of_lt_of_le->bf,le_trans->cZ,lt_succ_of_lt->dY,le_succ->eD,ne_of_gt->gW,lt_irrefl->hU,lt_succ_self->ia,lt_of_le_of_lt->jm,lt_trans->jn,lt_or_ge->jq,lt_of_succ_lt_succ->jr,not_lt_zero->jz,le_of_lt->ny,succ_pos->nU,min_self->qW,add_le_add_left->tI,sub_self->vH,le_add_right->xp,min_eq_left->yw,mul_le_mul_right->GV,add_sub_cancel->IQ,lt_or_gt_of_ne->IZ,mod_lt->JM,one_le_two_pow->JX
open PySem.Heap renaming get?_push_of_some->aE,lt_size->aO,get?_push_size->aU,get?_update_self->dP,get?_update_other->d9,size_push->gB,get?_push_ne->gG,SameBut->gU,size_update->hZ,ExtBut->rV,get?_update_ne->Gh,MadeExcOf->Ox
open PySem.Paired renaming length->aL,snoc->dy
open Bool renaming false_ne_true->aT,and_eq_true->gi,false_eq_true->jf,eq_iff_iff->qv,and_eq_true_iff->rO,noConfusion->vU,true_and->AN,not_true->AQ,and_false->Ou,or_false->Qa
open PySem.F renaming plainAttrs_list->bV,slot_list_append->cD,type_list_append->cE,called_set->gc,slot_dict_getitem->xX,plain_extend_loop->xZ,args_tuple_add_2->yc,entry_tuple_add->yJ,args_tuple_gt_2->yT,slot_dict_items->yV,plain_list_iadd->zo,slot_tuple_add->zL,entry_tuple_gt->z6,slot_tuple_gt->AO,slot_list_pop->AV,type_list_pop->AW,plain_set_new->AY,slot_set_iter->AZ
open Array renaming length_toList->bZ,getElem?_eq_getElem->eR,getD->iL,getElem?_toList->jy,perm_iff_toList_perm->jR,getElem?_eq_none->kO,getElem?_eq_some_iff->nJ,toList_push->HE,toList->PV
open PySem.SetTable renaming below->cg,grown->jC,Probe->HD,fits->KW
open PySem.PassesOwn renaming never->cw
open Option.some renaming inj->cF
open PySem.Obj renaming mapSeq->cN,data_mapFields->dA,isFreed_of_fields->iq,mapFields->iS,cls_mapFields->o6,putSet->KP
open False renaming elim->cY
open PySem.Builtin.Range renaming rangeSize->c5,small->pR
open PyProof.Rows renaming seqObj->dH,IntsAre->dQ,callWith_type1->iZ,slot_tuple_getitem->kj,AllBare->p8,firstMet->rG,entry_list_sort->sX,IsTup->uk,envOfC->uv,slot_list_sort->uD,boot_sorted->vy,listUpdate_at->wg,size_push'->xj,step_dedup->xM,plain_sorted->yj,entry_sorted->yk,seqEpoch_at->AR,kind_sorted->AS,tuples'->B8,Constant_none->FF,subscriptTail->FP,sortedAll->HC,floordiv_int->HY,subscriptTail_builtinR->Iq,call_function_entry_kw->IX,wpAny_call_entry_kw->OE,Subscript_->P8,args_list_sort_rev->Qp,firstMet_length_le->Rx
open Option renaming map_eq_some_iff->dI,map_some->kd,isSome_map->kL,getD_none->ve,isSome_iff_exists->yH
open Ne renaming symm->fb
open PySem.Builtin.Int renaming intBits->fg
open PySem.Around renaming under_plainId->gu,under->AL
open PySem.Heap.SameBut renaming update->gx
open PySem.Str renaming ofString->gy
open Int renaming toNat_natCast->gL,emod_lt_of_pos->kH,emod_nonneg->m7,zero_add->vJ,fdiv_eq_ediv_of_nonneg->zD,lt_irrefl->R5
open PySem.Builtin.Tuple renaming tupleCompareSizes->ib,tupleExact->jF
open Sum.inr renaming inj->iu
open PySem.AutoSeq1 renaming sub_tuple_tuple->iD,list_insert_list_int_val_1->RY
open PySem.Builtin.Slice renaming slicePlaces->ju,sliceAdjust->lR,sliceApplied->tF
open PyProof.Rows.F renaming plain_set_update_loop->jx,entry_set_update_loop->o7
open PySem.SetTable.below renaming go->j3
open List.Perm renaming refl->kn
open Function renaming comp->kX
open PySem.Builtin.List renaming listExtendWith->lC,listTooLong->mC,listLengthHint->ua,listFitsIndex->uh,listSameRef->vx
open PySem.W.WData renaming weight->mQ,weightAll->xg
open Classical renaming choose_spec->pT,byContradiction->v9,choose->Ef
open PySem.Calls renaming callWith_builtin->p6,Name_function_global->x5,call_function_entry->zk,evalArgs_plain->CH
open PySem.SetTable.probe renaming go->qj
open Sum.inl renaming inj->qp
open PySem.SeqAt.EqAt renaming int_int->q9,int_str->AI,str_int->AJ,same->CA
open List.cons renaming inj->rp
open PySem.Value renaming isInt->rC,isInt_shape->uj,isStrOf->Od
open PySem.Builtin.Frozenset renaming sizeOf->sS,newClass->NP,updateFrom->NR,slot0->NU
open PySem.Code renaming quiet_builtin->ug,isFrame->B3
open PySem.Builtin.Dict renaming dictSlotArgs->uz,updateFrom->vD,pairItems->vX,samePairs->vZ
open PySem.SeqAt renaming EqAt->ya
open PyProof renaming noPylong_of_log2->yg,noPylong_small->zE
open PySem.pickOrder renaming go->yt
open And renaming imp->zd
open Nat.succ renaming inj->zl
open PySem.EntryCells renaming newEntry->zU
open PySem.Heap.DictOf renaming new->B6
open PySem.IsTupleKey renaming keeps->Ca,inj->Fj
open PyProof.Rows.IsTup renaming new->Im
open PyProof.Rows.IntsAre renaming length->KZ
open PySem.IsRange renaming new->Oh
open Std.Legacy.Range renaming forIn_eq_forIn_range'->Oz,size->OA
open PySem.Challenge renaming rw_momentloom_k53_whole_reasons_of_beginnin->RL
open PySem.Walks renaming range->RP
open PySem.Heap.IsSliceOf renaming new->RR
open PySem.W.WShape renaming has->RV
open PySem.Heap.UpToSlots renaming of_keeps->RX
open PyProof.Rows.SortSt renaming mk'->RZ
open Prod renaming ext_iff->Sa
-- CHANGE: your row's module here, as the last of these rows
set_option Elab.async false
set_option linter.all false
set_option maxRecDepth 100000
namespace L2
open PySem PySem.Spec PyProof.Rows
abbrev Key:=Sum Int Str
def yy:Key->af->Bool
 |.inl k,v=>rC k v
 |.inr x,v=>Od x v
def keyH(w:aY):Key->Int
 |.inl k=>hashInt k
 |.inr x=>hashStr w x
theorem gQ:∀{k:Key} {v:af},yy k v=true->(∃i t,k=Sum.inl i/\v=Value.int i t)\/(∃x t,k=Sum.inr x/\v=Value.str x t)
 |.inl i,v,h=>by
  obtain⟨t,e⟩:=uj (k:=i) (v:=v) h;exact .inl ⟨i,t,Z9,e⟩
 |.inr x,v,h=>by
  obtain⟨t,e⟩:=Value.isStrOf_shape (x:=x) (v:=v) h;exact .inr ⟨x,t,Z9,e⟩
theorem FC(i:Int)(t:Tok):yy (.inl i) (.int i t)=true:=by simp[yy,rC]
theorem FD(x:Str)(t:Tok):yy (.inr x) (.str x t)=true:=by simp[yy,Od]
theorem PL(a b:Int):decide ((Sum.inl a:Key)=Sum.inl b)=(a==b):=by
 by_cases e:a=b
 ·subst e;simp
 ·have h:¬(Sum.inl a:Key)=Sum.inl b:=fun q=>e (qp q);rw[decide_eq_false h];exact (beq_eq_false_iff_ne.mpr e).symm
theorem PM(a b:Str):decide ((Sum.inr a:Key)=Sum.inr b)=decide (a=b):=by
 by_cases e:a=b
 ·subst e;simp
 ·have h:¬(Sum.inr a:Key)=Sum.inr b:=fun q=>e (iu q);rw[decide_eq_false h,decide_eq_false e]
theorem PN(a:Int)(b:Str):decide ((Sum.inl a:Key)=Sum.inr b)=false:=decide_eq_false (fun q=>nomatch q)
theorem PP(a:Str)(b:Int):decide ((Sum.inr a:Key)=Sum.inl b)=false:=decide_eq_false (fun q=>nomatch q)
def cP(prog:aI)(w:aY):Oe prog w Key where
 is:=yy
 hash:=keyH w
 inj:=fun v a b ha hb=>by
  rcases gQ ha with⟨i,t,rfl,rfl⟩|⟨x,t,rfl,rfl⟩
  ·rcases gQ hb with⟨j,u,rfl,e⟩|⟨y,u,rfl,e⟩
   ·injection e with Z _;rw[Z]
   ·exact nomatch e
  ·rcases gQ hb with⟨j,u,rfl,e⟩|⟨y,u,rfl,e⟩
   ·exact nomatch e
   ·injection e with Z _;rw[Z]
 byValue:=fun k v h=>by
  rcases gQ h with⟨i,t,rfl,rfl⟩|⟨x,t,rfl,rfl⟩<;>rfl
 pyHash:=fun hv h=>by
  rcases gQ hv with⟨i,t,rfl,rfl⟩|⟨x,t,rfl,rfl⟩
  ·exact wpAny_pyHash_int h
  ·exact wpAny_pyHash_str h
 eqBool:=fun hu hv h=>by
  rcases gQ hu with⟨i,t,rfl,rfl⟩|⟨x,t,rfl,rfl⟩
  ·rcases gQ hv with⟨j,u,rfl,rfl⟩|⟨y,u,rfl,rfl⟩
   ·rw[PL]at h;exact wpAny_eqBool_int h
   ·rw[PN]at h;exact AI i t y u _ _ _ _ h
  ·rcases gQ hv with⟨j,u,rfl,rfl⟩|⟨y,u,rfl,rfl⟩
   ·rw[PP]at h;exact AJ x t j u _ _ _ _ h
   ·rw[PM]at h;exact wpAny_eqBool_str h
 «strs»:=fun k x t v h=>by
  rcases gQ h with⟨i,u,rfl,e⟩|⟨y,u,rfl,e⟩
  ·exact nomatch e
  ·injection e with Z _;subst Z
   cases v<;>rfl
theorem A0(prog:aI)(w:aY)(i:Int)(t:Tok):(cP prog w).is (.inl i) (.int i t)=true:=FC i t
theorem A1(prog:aI)(w:aY)(x:Str)(t:Tok):(cP prog w).is (.inr x) (.str x t)=true:=FD x t
inductive V where
 |non|bl (b:Bool)|int (i:Int)|str (x:Str)|byt (b:Array UInt8)|flt (b:UInt64)|ref (a:ae)|ty (n:String)
 deriving DecidableEq
def RelV:V->af->Prop
 |.non,u=>u=Value.none
 |.bl b,u=>u=Value.bool b
 |.int i,u=>∃t,u=Value.int i t
 |.str x,u=>∃t,u=Value.str x t
 |.byt b,u=>∃t,u=Value.bytes b t
 |.flt b,u=>∃t,u=Value.float b t
 |.ref a,u=>u=Value.ref a
 |.ty n,u=>u=Value.type n
abbrev cW:List V->List af->Prop:=aN RelV
theorem cW.length(r:cW xs us):xs.length=us.length:=aL r
theorem cW.get:∀{xs:List V} {us:List af} {i:Nat} {x:V},cW xs us->xs[i]?=Z8 x->∃u,us[i]?=Z8 u/\RelV x u
 |_,_,_,_,.nil,e=>by simp at e
 |_,_,0,_,.cons r _,e=>by simp at e;subst e;exact{_,Z9,r}
 |_,_,i+1,x,.cons _ t,e=>by
  obtain⟨u,h1,h2⟩:=cW.get (i:=i) (x:=x) t (by simpa using e);exact{u,by simpa using h1,h2}
theorem cW.set(r:RelV x u):∀{xs:List V} {us:List af} (i:Nat),cW xs us->cW (xs.set i x) (us.set i u)
 |_,_,_,.nil=>.nil
 |_,_,0,.cons _ t=>.cons r t
 |_,_,i+1,.cons q t=>.cons q (cW.set r i t)
theorem cW.append:∀{xs ys:List V} {us Z:List af},cW xs us->cW ys Z->cW (xs++ys) (us++Z)
 |_,_,_,_,.nil,s=>s
 |_,_,_,_,.cons r t,s=>.cons r (cW.append t s)
theorem cW.take:∀{xs:List V} {us:List af} (n:Nat),cW xs us->cW (xs.take n) (us.take n)
 |_,_,0,_=>.nil
 |_,_,_+1,.nil=>.nil
 |_,_,n+1,.cons r t=>.cons r (cW.take n t)
theorem cW.drop:∀{xs:List V} {us:List af} (n:Nat),cW xs us->cW (xs.drop n) (us.drop n)
 |_,_,0,r=>r
 |_,_,_+1,.nil=>.nil
 |_,_,n+1,.cons _ t=>cW.drop n t
def p5:Option V->Option af->Prop
 |some v,Z8 u=>RelV v u
 |none,Z7=>True
 |_,_=>False
def KV{κ:Type}:List (κ×V)->List (κ×af)->Prop:=aN fun (p:κ×V) (q:κ×af)=>p.1=q.1/\RelV p.2 q.2
def kV:Key->V
 |.inl i=>.int i
 |.inr x=>.str x
inductive HO where
 /-- a list -/
 |lst(xs:List V)
 /-- a tuple (never changes) -/
 |tup(xs:List V)
 /-- a dict whose keys are ints and texts; one whose keys are tuples of ints and texts (the empty one is both) -/
 |dK(kvs:List (Key×V))|dT (kvs:List (List Key×V))
 /-- a set of ints: its members, its size -/
 |set(S:Int->Bool)(n:Nat)
 /-- an instance of the class at C, its dict at dx, its attributes -/
 |ins(C dx:ae)(fs:List (Str×V))
 /-- the dict of the instance at x -/
 |own(x:ae)
 /-- the dict of an exception -/
 |xd(fs:List (Str×V))
 /-- a bound method, f of x -/
 |met(f x:ae)
 /-- a range object lo, lo + 1, .. below hi -/
 |rng(lo hi:Int)
 /-- a thing that is known to the object (the script; a dict while a loop walks it): read, never written while it is so -/
 |frz(o:Obj)(u:HO)
 /-- a code object's RM -/
 |tbl(ps:Array af)
 /-- any other thing, by what is true of its one object (a def of one's own: SetO a S n := HO.ext fun h => ..) -/
 |ext(φ:cb->Prop)
abbrev Hp:=ae->Option HO
def upd(H:Hp)(a:ae)(o:HO):Hp:=fun b=>if b=a then Z8 o else H b
theorem ak:upd H a o a=Z8 o:=by unfold upd;rw[if_pos rfl]
theorem aQ(h:b≠a):upd H a o b=H b:=by unfold upd;rw[if_neg h]
theorem Eh:upd (upd H a o) a u=upd H a u:=by
 funext b;unfold upd;split<;>rfl
theorem kg{H:Hp}(h:H a=Z8 o)(h':H b=Z8 u)(d:o≠u):a≠b:=by
 intro e;subst e;rw[h]at h';exact d (cF h')
theorem aJ{H:Hp}(h:H a=Z8 o)(h':H b=Z7):a≠b:=by
 intro e;subst e;rw[h]at h';cases h'
section
variable(P:aI)(w:aY)
def dZ(H:Hp)(h:cb)(a:ae):HO->Prop
 |.lst xs=>xs.length<=aD/\∃(Z:List af) (n:Nat),cW xs Z/\h.get? a=Z8 {cls:=.type "list",data:=.seq Z.toArray n}
 |.tup xs=>xs.length<=aD/\∃Z:List af,cW xs Z/\uk h a Z.toArray
 |.dK kvs=>kvs.length<=aD/\(a==eF)=false/\∃vs,KV kvs vs/\h.DictOf (cP P w) a vs
 |.dT kvs=>kvs.length<=aD/\(a==eF)=false/\∃xs:List (List Key×ae×af),
   aN (fun (p:List Key×V) (q:List Key×ae×af)=>p.1=q.1/\H q.2.1=Z8 (.tup (p.1.map kV))/\RelV p.2 q.2.2) kvs xs /\
   ∃o es ep,h.get? a=Z8 o/\o.ExactDict/\o.data=.dict es ep/\es.toList=xs.map (entryOfKey (zx (cP P w)))/\(xs.map (·.1)).Nodup
 |.set S n=>h.SetOf (fi P w) a S n
 |.ins C dx fs=>H dx=Z8 (.own a)/\fs.length<=1000/\dx≠a/\h.get? a=Z8 (ik C dx) /\
   ∃mA,h.Ns1 dx mA/\(∀f,p5 (fs.lookup f) (mA f))/\A2 mA (fs.map (·.1))
 |.own _=>∃o,h.get? a=Z8 o
 |.xd fs=>∃mA,h.Ns1 a mA/\∀f,p5 (fs.lookup f) (mA f)
 |.rng lo hi=>∃t u v,h.get? a=Z8 {cls:=.type "range",data:=.fields #[.int lo t,.int hi u,.int 1 v]}
 |.frz o u=>h.get? a=Z8 o/\dZ H h a u
 |.tbl ps=>h.get? a=Z8 {cls:=.none,data:=.fields ps}
 |.met f x=>h.get? a=Z8 (tf (.ref f) (.ref x))
 |.ext φ=>φ h/\(∃o,h.get? a=Z8 o)/\∀h1 h2:cb,φ h1->(∀o,h1.get? a=Z8 o->h2.get? a=Z8 o)->φ h2
def HOk(H:Hp)(h:cb):Prop:=∀a o,H a=Z8 o->dZ P w H h a o
end
section
variable{P:aI}{w:aY}{H H':Hp}{h h':cb}{a:ae}{o:HO}
theorem dZ.lt(x:dZ P w H h a o):a<h.objs.size:=by
 cases o with
 |lst xs=>obtain⟨_,_,_,_,e⟩:=x;exact aO e
 |tup xs=>obtain⟨_,_,_,p⟩:=x;exact p.lt
 |dK kvs=>obtain⟨_,_,_,_,o,_,_,e,_⟩:=x;exact aO e
 |dT kvs=>obtain⟨_,_,_,_,o,_,_,e,_⟩:=x;exact aO e
 |set S n=>obtain⟨o,_,_,_,e,_⟩:=x;exact aO e
 |ins C dx fs=>obtain⟨_,_,_,e,_⟩:=x;exact aO e
 |own y=>obtain⟨_,e⟩:=x;exact aO e
 |xd fs=>obtain⟨_,⟨_,_,_,e,_⟩,_⟩:=x;exact aO e
 |rng lo hi=>obtain⟨_,_,_,e⟩:=x;exact aO e
 |frz Z u=>obtain⟨e,_⟩:=x;exact aO e
 |tbl ps=>exact aO (show h.get? a=Z8 _ from x)
 |met f y=>exact aO (show h.get? a=Z8 _ from x)
 |ext φ=>obtain⟨_,⟨_,e⟩,_⟩:=x;exact aO e
theorem Paired.mapP{α W:Type}{F G:α->W->Prop}:∀{Z:List α} {Y:List W},aN F Z Y->(∀a b,F a b->G a b)->aN G Z Y
 |_,_,.nil,_=>.nil
 |_,_,.cons r t,f=>.cons (f _ _ r) (Paired.mapP t f)
theorem Paired.imp'{α W:Type}{F G:α->W->Prop}(f:∀a b,F a b->G a b){Z:List α}{Y:List W}(r:aN F Z Y):aN G Z Y:=Paired.mapP r f
theorem dZ.stay(x:dZ P w H h a o)(k:∀b u,(b=a\/H b=Z8 (.own a))->h.get? b=Z8 u->h'.get? b=Z8 u)
  (V:∀b,H b=Z8 (.own a)->H' b=Z8 (.own a)) (ht:∀b xs,H b=Z8 (.tup xs)->H' b=Z8 (.tup xs)):dZ P w H' h' a o:=by
 induction o with
 |lst xs=>obtain⟨z,Y,n,r,e⟩:=x;exact{z,Y,n,r,k _ _ (.inl rfl) e}
 |tup xs=>obtain⟨z,Y,r,Z,e,c⟩:=x;exact{z,Y,r,Z,k _ _ (.inl rfl) e,c}
 |dK kvs=>obtain⟨z,y,vs,r,Z,es,ep,e,c⟩:=x;exact{z,y,vs,r,Z,es,ep,k _ _ (.inl rfl) e,c}
 |dT kvs=>
  obtain⟨z,y,xs,r,Z,es,ep,e,c⟩:=x;exact{z,y,xs,Paired.mapP r fun p q z=>{z.1,ht _ _ z.2.1,z.2.2},Z,es,ep,k _ _ (.inl rfl) e,c}
 |set S n=>obtain⟨Z,es,ep,t,e,c⟩:=x;exact{Z,es,ep,t,k _ _ (.inl rfl) e,c}
 |ins C dx fs=>
  obtain⟨d,z,ne,e,mA,⟨od,es,ep,U,c⟩,r⟩:=x;exact{V _ d,z,ne,k _ _ (.inl rfl) e,mA,{od,es,ep,k _ _ (.inr d) U,c},r}
 |own y=>obtain⟨Z,e⟩:=x;exact{Z,k _ _ (.inl rfl) e}
 |xd fs=>obtain⟨mA,⟨od,es,ep,e,c⟩,r⟩:=x;exact{mA,{od,es,ep,k _ _ (.inl rfl) e,c},r}
 |rng lo hi=>obtain⟨t,u,v,e⟩:=x;exact{t,u,v,k _ _ (.inl rfl) e}
 |frz Z u W=>obtain⟨e,q⟩:=x;exact{k _ _ (.inl rfl) e,W q}
 |tbl ps=>
  have e:h.get? a=Z8 {cls:=.none,data:=.fields ps}:=x;show h'.get? a=Z8 {cls:=.none,data:=.fields ps};exact k a _ (.inl rfl) e
 |met f y=>
  have e:h.get? a=Z8 (tf (.ref f) (.ref y)):=x;show h'.get? a=Z8 (tf (.ref f) (.ref y));exact k a _ (.inl rfl) e
 |ext φ=>obtain⟨p,⟨o,e⟩,st⟩:=x;exact{st _ _ p fun o q=>k _ _ (.inl rfl) q,{o,k _ _ (.inl rfl) e},st}
theorem HOk.lt(x:HOk P w H h)(e:H a=Z8 o):a<h.objs.size:=(x a o e).lt
theorem HOk.fresh(x:HOk P w H h)(e:h.objs.size<=a):H a=Z7:=by
 cases q:H a with
 |none=>rfl
 |some u=>exact absurd (bf (x.lt q) e) (hU _)
theorem HOk.kept(x:HOk P w H h)(k:∀b u,h.get? b=Z8 u->h'.get? b=Z8 u):HOk P w H h':=fun a o e=>
 (x a o e).stay (fun b u _ q=>k b u q) (fun _ q=>q) fun _ _ q=>q
theorem HOk.laid(x:HOk P w H h)(k:∀b u,h.get? b=Z8 u->h'.get? b=Z8 u)(hp:h.objs.size<=a)(new:dZ P w (upd H a o) h' a o):HOk P w (upd H a o) h':=fun b u e=>by
 have Z:=x.fresh hp
 by_cases hb:b=a
 ·subst hb;rw[ak]at e;cases e;exact new
 ·rw[aQ hb]at e;exact (x b u e).stay (fun c v _ q=>k c v q) (fun c q=>by rw[aQ (aJ q Z)];exact q) fun c xs q=>by rw[aQ (aJ q Z)];exact q
end
def Rd(H:Hp)(a:ae)(u:HO):Prop:=H a=Z8 u\/∃o,H a=Z8 (.frz o u)
theorem Rd.ok(r:Rd H a u)(x:HOk P w H h):dZ P w H h a u:=by
 rcases r with r|⟨o,r⟩
 ·exact x a u r
 ·obtain⟨_,q⟩:=x a _ r;exact q
def Mut:Option HO->Prop
 |some (.lst _)=>True
 |some (.dK _)=>True
 |some (.dT _)=>True
 |some (.set _ _)=>True
 |some (.ins _ _ _)=>True
 |some (.ext _)=>True
 |_=>False
section
variable{P:aI}{w:aY}{H:Hp}{h h':cb}{x e:ae}{o':HO}
theorem HOk.write(ok:HOk P w H h)(V:Mut (H x))(M:e=x\/H e=Z8 (.own x))(k:∀b u,b≠e->h.get? b=Z8 u->h'.get? b=Z8 u)(U:∃u,h'.get? e=Z8 u)
  (new:dZ P w (upd H x o') h' x o'):HOk P w (upd H x o') h':=fun b u q=>by
 have Y:∀c y,H c=Z8 (.own y)->c≠x:=fun c y r z=>by subst z;rw[r]at V;exact V
 have W:∀c xs,H c=Z8 (.tup xs)->c≠x:=fun c xs r z=>by subst z;rw[r]at V;exact V
 by_cases hb:b=x
 ·subst hb;rw[ak]at q;cases q;exact new
 ·rw[aQ hb]at q
  by_cases Z:b=e
  ·have O:H b=Z8 (.own x):=by
    rcases M with z|z
    ·exact absurd (Z.trans z) hb
    ·rw[Z];exact z
   rw[q]at O;cases O;obtain⟨v,hv⟩:=U;exact{v,by rw[Z];exact hv}
  ·refine (ok b u q).stay (fun c v hc r=>k c v ?_ r) (fun c r=>by rw[aQ (Y c b r)];exact r) fun c xs r=>by rw[aQ (W c xs r)];exact r
   rcases hc with rfl|hc
   ·exact Z
   ·rintro rfl
    rcases M with z|z
    ·exact Y c b hc z
    ·rw[hc]at z;cases z;exact hb rfl
end
structure Un(fs ex:List ae)(H H':Hp)(h h':cb):Prop where
 keep:∀b o,h.get? b=Z8 o->H b=Z7->b∉fs->b∉ex->h'.get? b=Z8 o
 slot:∀b o,h.get? b=Z8 o->H b=Z7->b∈fs->b∉ex->∃sl,h'.get? b=Z8 {o with slots:=sl}
 free:∀b o,h.get? b=Z8 o->H b=Z7->b∉ex->H' b=Z7
 there:∀b o,h.get? b=Z8 o->b∉ex->∃o',h'.get? b=Z8 o'
 tups:∀b xs,H b=Z8 (.tup xs)->H' b=Z8 (.tup xs)
 frzs:∀b o u,H b=Z8 (.frz o u)->H' b=Z8 (.frz o u)
 tbls:∀b ps,H b=Z8 (.tbl ps)->∃more,H' b=Z8 (.tbl (ps++more))
section
variable{fs fs' ex ex':List ae}{H H1 H2:Hp}{h h1 h2 h':cb}{a x e:ae}{o:HO}
theorem Un.any(u:Un fs ex H H1 h h1)(q:h.get? b=Z8 Z)(n:H b=Z7)(hx:b∉ex):∃sl,h1.get? b=Z8 {Z with slots:=sl}:=by
 by_cases hb:b∈fs
 ·exact u.slot b Z q n hb hx
 ·exact{Z.slots,u.keep b Z q n hb hx}
theorem Un.kept(k:∀b u,h.get? b=Z8 u->h'.get? b=Z8 u):Un fs ex H H h h':=
 {fun b Z q _ _ _=>k b Z q,fun b Z q _ _ _=>{Z.slots,k b Z q},fun _ _ _ n _=>n,fun b Z q _=>{Z,k b Z q},fun _ _ q=>q,fun _ _ _ q=>q,fun _ ps q=>{#[],by rw[q];simp}}
theorem Un.refl:Un fs ex H H h h:=Un.kept fun _ _ q=>q
theorem Un.laid(k:∀b u,h.get? b=Z8 u->h'.get? b=Z8 u)(hp:h.objs.size<=a)(Z:H a=Z7):Un fs ex H (upd H a o) h h' where
 keep:=fun b u q _ _ _=>k b u q
 slot:=fun b u q _ _ _=>{u.slots,k b u q}
 free:=fun b u q n _=>by rw[aQ (aM (bf (aO q) hp))];exact n
 there:=fun b u q _=>{u,k b u q}
 tups:=fun b xs q=>by rw[aQ (aJ q Z)];exact q
 frzs:=fun b u xs q=>by rw[aQ (aJ q Z)];exact q
 tbls:=fun b ps q=>{#[],by rw[aQ (aJ q Z),q];simp}
theorem Un.write(Y:Mut (H x))(U:e=x\/H e=Z8 (.own x))(k:∀b u,b≠e->h.get? b=Z8 u->h'.get? b=Z8 u)(W:∃u,h'.get? e=Z8 u):Un fs ex H (upd H x o) h h':=by
 have hx:∀b,H b=Z7->b≠x:=fun b n z=>by subst z;rw[n]at Y;exact Y
 have hb:∀b,H b=Z7->b≠e:=fun b n z=>by
  subst z
  rcases U with r|r
  ·exact hx b n r
  ·rw[n]at r;cases r
 have V:∀b u,H b=Z8 u->¬Mut (Z8 u)->b≠x:=fun b u q nm z=>by subst z;rw[q]at Y;exact nm Y
 refine⟨fun b u q n _ _=>k b u (hb b n) q,fun b u q n _ _=>{u.slots,k b u (hb b n) q},fun b u q n _=>by rw[aQ (hx b n)];exact n,fun b u q _=>?_,
  fun b xs q=>by rw[aQ (V b _ q fun z=>z)];exact q,fun b u xs q=>by rw[aQ (V b _ q fun z=>z)];exact q,fun b ps q=>{#[],by rw[aQ (V b _ q fun z=>z),q];simp}⟩
 by_cases Z:b=e
 ·subst Z;exact W
 ·exact{u,k b u Z q}
end
def trk(h:cb)(H:Hp):List ae:=(gK h.objs.size).filter fun a=>(H a).isSome
def zy(h:cb)(H:Hp):cb:=pV h (trk h H)
theorem FE(h:cb)(H:Hp):(zy h H).objs.size=h.objs.size:=PySem.W.hideAll_size _ _
theorem HF(e:h.get? b=Z8 o)(n:H b=Z7):(zy h H).get? b=Z8 o:=
 B2 _ e fun Z=>by
  have q:(H b).isSome=true:=(Lx.mp Z).2;rw[n]at q;simp at q
theorem Lz(e:(zy h H).get? b=Z8 o):h.get? b=Z8 o/\H b=Z7:=by
 have Z:h.get? b=Z8 o:=Cc (trk h H) e;refine{Z,?_}
 cases q:H b with
 |none=>rfl
 |some x=>
  have Y:b∈trk h H:=Lx.mpr {iX.mpr (aO Z),by simp[q]};have z:(zy h H).get? b=Z7:=PySem.W.hideAll_none (trk h H) Y;rw[z]at e;cases e
structure Mod(K:ag)(mg:Str->Option af)(base:cb):Prop where
 kin:K.In base
 glob:base.Ns bP mg
 blt:∃mb,base.Ns PQ mb/\∀x:Str,x≠"__name__"->mb x=eV x
 nolimit:base.NoLimit
structure Cx where
 prog:aI
 w:aY
 K:ag
 mg:Str->Option af
 base:cb
 A:bJ
 N:List Str
 s₀:ai
 H₀:Hp
 env:Env
 outer:List Env
 stack:List Env
 ex:List ae
 fn:Str->Bool
 calm:Bool
 pn:List (ae×Obj)
 xe:af->ai->Prop
def frs(l:List Env):List ae:=l.filterMap (·.frame)
abbrev Cx.fs(X:Cx):List ae:=frs X.outer
def Vis(sc:kM)(x:Str):Prop:=sc.names.lookup x=Z8 .local\/sc.names.lookup x=Z8 .cell\/sc.names.lookup x=Z8 .free
def Loc(sc:kM)(x:Str):Prop:=sc.names.lookup x=Z8 .local\/sc.names.lookup x=Z8 .cell
def Look(env:Env)(h:cb)(m:Str->Option af)(x:Str)(u:af):Prop:=
 (env.kindOf x=Z8 .local/\m x=Z8 u)\/((env.kindOf x=Z8 .cell\/env.kindOf x=Z8 .free)/\∃c,env.cells.lookup x=Z8 c/\h.IsCell c (Z8 u))
structure Cx.Ok(X:Cx):Prop where
 mod:Mod X.K X.mg X.base
 kind:X.env.scope.kind=.function
 glob:X.env.globals=bP
 blt:X.env.builtins=PQ
 above:X.s₀.heap.objs.size<=X.env.locals
 inj:∀x y c,X.env.cells.lookup x=Z8 c->X.env.cells.lookup y=Z8 c->x=y
 has:∀x,(X.env.kindOf x=Z8 .cell\/X.env.kindOf x=Z8 .free)->∃c,X.env.cells.lookup x=Z8 c
 cab:∀x c,X.fn x=true->X.env.cells.lookup x=Z8 c->X.s₀.heap.objs.size<=c
 hd:X.calm=true->X.A.handled=Z7
 frames:X.A.frames=Z8 X.stack
 stk:X.stack=X.outer\/(X.stack=X.env::X.outer/\X.env.frame=Z8 X.env.locals)
 exf:∀b∈X.ex,b≠X.env.locals/\∀x c,X.env.cells.lookup x=Z8 c->c≠b
 bs:∀b o,X.base.get? b=Z8 o->X.s₀.heap.get? b=Z8 o/\X.H₀ b=Z7
 bsz:X.base.objs.size<=X.s₀.heap.objs.size
 noex:∀b o,X.base.get? b=Z8 o->b∉X.ex
 exfs:∀b∈X.ex,b∉X.fs
 funs:X.s₀.heap.FunFrames X.base X.outer
 frf:∀b∈X.fs,X.H₀ b=Z7
structure Inv(X:Cx)(pins:List (ae×Obj))(σ:List (Option V))(H:Hp)(s:ai):Prop where
 ok:X.Ok
 os:s.os=X.s₀.os
 bare:p8 s.gens
 base:Un X.fs X.ex X.H₀ H X.s₀.heap s.heap
 loc:∃m,s.heap.Ns X.env.locals m/\∀(i:Nat) (x:Str) (v:V),X.N[i]?=Z8 x->σ[i]?=Z8 (Z8 v)->Vis X.env.scope x->∃u,RelV v u/\Look X.env s.heap m x u
 cell:∀x c,X.env.cells.lookup x=Z8 c->∃v,s.heap.IsCell c v
 free:H X.env.locals=Z7
 freeC:∀x c,X.env.cells.lookup x=Z8 c->H c=Z7
 pin:∀p∈X.pn++pins,s.heap.get? p.1=Z8 p.2/\H p.1=Z7/\p.1≠X.env.locals/\p.1∉X.fs/\∀v,p.2.data≠.cell v
 hok:HOk X.prog X.w H s.heap
 len:σ.length=X.N.length
section
variable{X:Cx}{pins:List (ae×Obj)}{σ:List (Option V)}{H H':Hp}{s:ai}{h':cb}
theorem Cx.Ok.nofr(ok:X.Ok)(e:X.base.get? b=Z8 o):b∉X.fs:=fun hb=>by
 have:=(ok.funs.mem hb).1;rw[e]at this;cases this
theorem Inv.bs(I:Inv X pins σ H s):∀b o,X.base.get? b=Z8 o->s.heap.get? b=Z8 o/\H b=Z7:=fun b o e=>
 {I.base.keep b o (I.ok.bs b o e).1 (I.ok.bs b o e).2 (I.ok.nofr e) (I.ok.noex b o e),I.base.free b o (I.ok.bs b o e).1 (I.ok.bs b o e).2 (I.ok.noex b o e)}
theorem Inv.bk(I:Inv X pins σ H s):∀b o,X.base.get? b=Z8 o->s.heap.get? b=Z8 o:=fun b o e=>(I.bs b o e).1
theorem Inv.mod(I:Inv X pins σ H s):Mod X.K X.mg X.base:=I.ok.mod
theorem Inv.kIn(I:Inv X pins σ H s):X.K.In s.heap:=I.ok.mod.kin.keeps I.bk
theorem Inv.fr(I:Inv X pins σ H s):∃m,Fr X.base X.env.locals s.heap m:=
 let ⟨m,Z,_⟩:=I.loc
 {m,Z,I.bk,cZ I.ok.bsz I.ok.above}
theorem Inv.lt(I:Inv X pins σ H s):X.env.locals<s.heap.objs.size:=let ⟨_,Z,_⟩:=I.loc;Z.lt
theorem Inv.sz(I:Inv X pins σ H s):X.s₀.heap.objs.size<=s.heap.objs.size:=cZ I.ok.above (ny I.lt)
theorem Inv.nofs(I:Inv X pins σ H s){a:ae}(h:s.heap.objs.size<=a):a∉X.fs:=fun hb=>by
 obtain⟨_,o,Z,_⟩:=I.ok.funs.mem hb;exact absurd (bf (aO Z) (cZ I.sz h)) (hU _)
theorem Inv.cne(I:Inv X pins σ H s):∀x c,X.env.cells.lookup x=Z8 c->c≠X.env.locals:=fun x c e z=>by
 obtain⟨v,o,W,V⟩:=I.cell x c e;obtain⟨m,⟨o',es,ep,Z,Y,_⟩,_⟩:=I.loc;rw[z,Z]at W;cases W;rw[Y]at V;cases V
theorem Inv.funs(I:Inv X pins σ H s):s.heap.FunFrames X.base X.outer:=by
 have all:∀(l:List Env),(∀b∈frs l,b∈X.fs)->X.s₀.heap.FunFrames X.base l->s.heap.FunFrames X.base l:=by
  intro l
  induction l with
  |nil=>intro _ _;trivial
  |cons env r W=>
   intro hs J;obtain⟨hk,⟨L,o,Z,V,O,M⟩,U⟩:=J;have Y:L∈X.fs:=hs L (by unfold frs;rw[sU,Z];exact aB);obtain⟨sl,e⟩:=I.base.slot L o O (I.ok.frf L Y) Y fun z=>I.ok.exfs L z Y;exact{hk,{L,_,Z,V,e,M},W (fun b hb=>hs b (by unfold frs;rw[sU,Z];exact aj _ hb)) U}
 exact all X.outer (fun _ hb=>hb) I.ok.funs
theorem Inv.stack(I:Inv X pins σ H s):s.heap.FunFrames X.base X.stack:=by
 rcases I.ok.stk with e|⟨e,Z⟩
 ·rw[e];exact I.funs
 ·rw[e];obtain⟨m,Y,_⟩:=I.loc;refine .cons (by rw[I.ok.kind];decide) Z Y ?_ I.funs;exact Heap.get?_none_of_le (cZ I.ok.bsz I.ok.above)
theorem Inv.stkSub(I:Inv X pins σ H s):∀b∈frs X.stack,b∈X.env.locals::X.fs:=fun b hb=>by
 rcases I.ok.stk with e|⟨e,Z⟩
 ·rw[e]at hb;exact aj _ hb
 ·rw[e]at hb;unfold frs at hb;rw[sU,Z]at hb;exact hb
theorem Inv.stkFree(I:Inv X pins σ H s):∀b∈frs X.stack,H b=Z7:=fun b hb=>by
 rcases aq.mp (I.stkSub b hb) with e|hb
 ·rw[e];exact I.free
 ·obtain⟨_,o,Z,_⟩:=I.ok.funs.mem hb;exact I.base.free b o Z (I.ok.frf b hb) fun z=>I.ok.exfs b z hb
theorem Inv.step{ch:List ae}(I:Inv X pins σ H s)
  (W:∀b∈ch,(b∈X.ex\/X.s₀.heap.objs.size<=b)/\b≠X.env.locals/\(∀x c,X.env.cells.lookup x=Z8 c->c≠b)/\∀p∈X.pn++pins,p.1≠b)
  (keep:∀b o,b≠X.env.locals->b∉X.fs->b∉ch->s.heap.get? b=Z8 o->H b=Z7->h'.get? b=Z8 o)
  (slot:∀b o,b≠X.env.locals->b∈X.fs->b∉ch->s.heap.get? b=Z8 o->H b=Z7->∃sl,h'.get? b=Z8 {o with slots:=sl}) (free:∀b o,b∉ch->s.heap.get? b=Z8 o->H b=Z7->H' b=Z7)
  (there:∀b o,b∉ch->s.heap.get? b=Z8 o->∃o',h'.get? b=Z8 o')
  (tups:∀b xs,H b=Z8 (.tup xs)->H' b=Z8 (.tup xs)) (frzs:∀b o u,H b=Z8 (.frz o u)->H' b=Z8 (.frz o u)) (tbls:∀b ps,H b=Z8 (.tbl ps)->∃more,H' b=Z8 (.tbl (ps++more)))
  (ns:∀m,s.heap.Ns X.env.locals m->h'.Ns X.env.locals m) (g:HOk X.prog X.w H' h') (hg:p8 g') :
  Inv X pins σ H' {s with heap:=h',gens:=g',drawn:=d',toks:=t'}:=by
 have J:∀b o,X.s₀.heap.get? b=Z8 o->b≠X.env.locals:=fun b o e=>aM (bf (aO e) I.ok.above);have V:∀b o,X.s₀.heap.get? b=Z8 o->b∉X.ex->b∉ch:=fun b o e hx hb=>by
  rcases (W b hb).1 with z|z
  ·exact hx z
  ·exact absurd (bf (aO e) z) (hU _)
 have Y:∀x c,X.env.cells.lookup x=Z8 c->∀v,s.heap.IsCell c v->h'.IsCell c v:=fun x c e v ⟨o,O,t⟩=>by
  have Z:c∉ch:=fun z=>(W c z).2.2.1 x c e rfl
  by_cases hc:c∈X.fs
  ·obtain⟨sl,q⟩:=slot c o (I.cne x c e) hc Z O (I.freeC x c e);exact{_,q,t}
  ·exact{o,keep c o (I.cne x c e) hc Z O (I.freeC x c e),t}
 refine{I.ok,I.os,hg,{fun b o e n hb hx=>?_,fun b o e n hb hx=>?_,fun b o e n hx=>?_,fun b o e hx=>?_,fun b xs e=>tups b xs (I.base.tups b xs e),fun b o xs e=>frzs b o xs (I.base.frzs b o xs e),fun b ps e=>?_},?_,fun x c e=>?_,?_,fun x c e=>?_,fun p hp=>?_,g,I.len}
 ·exact keep b o (J b o e) hb (V b o e hx) (I.base.keep b o e n hb hx) (I.base.free b o e n hx)
 ·obtain⟨sl,U⟩:=I.base.slot b o e n hb hx;obtain⟨D,M⟩:=slot b _ (J b o e) hb (V b o e hx) U (I.base.free b o e n hx);exact⟨D,M⟩
 ·obtain⟨o',U⟩:=I.base.there b o e hx;exact free b o' (V b o e hx) U (I.base.free b o e n hx)
 ·obtain⟨o',U⟩:=I.base.there b o e hx;exact there b o' (V b o e hx) U
 ·obtain⟨m1,U⟩:=I.base.tbls b ps e;obtain⟨m2,M⟩:=tbls b _ U;exact{m1++m2,by rw[M,Array.append_assoc]}
 ·obtain⟨m,hn,hl⟩:=I.loc;refine{m,ns m hn,fun i x v U M e3=>?_};obtain⟨u,r,l⟩:=hl i x v U M e3;refine{u,r,?_}
  rcases l with l|⟨k,c,e,z⟩
  ·exact .inl l
  ·exact .inr {k,c,e,Y x c e _ z}
 ·obtain⟨v,z⟩:=I.cell x c e;exact{v,Y x c e v z}
 ·obtain⟨m,⟨o,_,_,O,_⟩,_⟩:=I.loc;exact free _ o (fun z=>(W _ z).2.1 rfl) O I.free
 ·obtain⟨v,o,O,t⟩:=I.cell x c e;exact free c o (fun z=>(W c z).2.2.1 x c e rfl) O (I.freeC x c e)
 ·obtain⟨e,n,ne,nf,d⟩:=I.pin p hp;have Z:p.1∉ch:=fun z=>(W p.1 z).2.2.2 p hp rfl;exact{keep p.1 p.2 ne nf Z e n,free p.1 p.2 Z e n,ne,nf,d}
theorem Inv.un(I:Inv X pins σ H s)(u:Un X.fs [] H H' s.heap h')(W:HOk X.prog X.w H' h'):Inv X pins σ H' {s with heap:=h',toks:=t'}:=by
 obtain⟨m,⟨o,es,ep,U,r⟩,_⟩:=id I.loc;obtain⟨sl,M⟩:=u.any U I.free #[5];exact I.step (g':=s.gens) (d':=s.drawn) (ch:=[]) (fun _ z=>nomatch z) (fun b o _ hb _ e n=>u.keep b o e n hb #[5]) (fun b o _ hb _ e n=>u.slot b o e n hb #[5]) (fun b o _ e n=>u.free b o e n #[5]) (fun b o _ e=>u.there b o e #[5]) u.tups u.frzs u.tbls (fun D J=>by
  obtain⟨o',Y,V,Z,O⟩:=J;rw[U]at Z;cases Z;exact{_,Y,V,M,O}) W I.bare
theorem Inv.call(I:Inv X pins σ H s)(u:Un (frs X.stack) ch H H' s.heap h')(U:HOk X.prog X.w H' h')(D:p8 g')
  (Z:∀b∈ch,(b∈X.ex\/X.s₀.heap.objs.size<=b)/\b≠X.env.locals/\(∀x c,X.env.cells.lookup x=Z8 c->c≠b)/\∀p∈X.pn++pins,p.1≠b) :
  Inv X pins σ H' {s with heap:=h',gens:=g',drawn:=d',toks:=t'}:=by
 obtain⟨m,⟨o,es,ep,M,r⟩,_⟩:=id I.loc;obtain⟨sl,W⟩:=u.any M I.free fun z=>(Z _ z).2.1 rfl;exact I.step (ch:=ch) Z (fun b o W hb hc e n=>u.keep b o e n (fun z=>(aq.mp (I.stkSub b z)).elim W hb) hc) (fun b o _ _ hc e n=>u.any e n hc) (fun b o hc e n=>u.free b o e n hc) (fun b o hc e=>u.there b o e hc) u.tups u.frzs u.tbls (fun g t=>by
  obtain⟨o',V,O,Y,J⟩:=t;rw[M]at Y;cases Y;exact{_,V,O,W,J}) U D
theorem Inv.turned(I:Inv X pins σ H s)(k:∀b o,b≠it->s.heap.get? b=Z8 o->h'.get? b=Z8 o)(V:H it=Z7)(Y:it≠X.env.locals)
  (h1:it∈X.ex\/X.s₀.heap.objs.size<=it) (h2:∀x c,X.env.cells.lookup x=Z8 c->c≠it) (W:∀p∈X.pn++pins,p.1≠it):Inv X pins σ H {s with heap:=h',toks:=t'}:=by
 have Z:∀b u,H b=Z8 u->b≠it:=fun b u e z=>by rw[z,V]at e;cases e
 refine I.step (g':=s.gens) (d':=s.drawn) (ch:=[it]) (fun b hb=>?_) (fun b o _ _ hc e _=>k b o (fun z=>hc (by simp[z])) e) (fun b o _ _ hc e _=>{o.slots,k b o (fun z=>hc (by simp[z])) e}) (fun _ _ _ _ n=>n)
  (fun b o hc e=>{o,k b o (fun z=>hc (by simp[z])) e}) (fun _ _ e=>e) (fun _ _ _ e=>e) (fun b ps e=>{#[],by rw[e];simp}) (fun m O=>?_) (fun b u e=>?_) I.bare
 ·have e:b=it:=by simpa using hb
  subst e;exact⟨h1,Y,h2,W⟩
 ·obtain⟨o,es,ep,U,r⟩:=O;exact{o,es,ep,k _ o (fb Y) U,r}
 ·refine (I.hok b u e).stay (fun c v hc q=>k c v ?_ q) (fun _ q=>q) fun _ _ q=>q
  rcases hc with z|z
  ·rw[z];exact Z b u e
  ·exact Z c _ z
theorem Inv.tok(I:Inv X pins σ H s)(t:Nat):Inv X pins σ H {s with toks:=t}:=I.un (h':=s.heap) (t':=t) Un.refl I.hok
theorem Inv.kept(I:Inv X pins σ H s)(k:∀b u,s.heap.get? b=Z8 u->h'.get? b=Z8 u):Inv X pins σ H {s with heap:=h',toks:=t'}:=I.un (Un.kept k) (I.hok.kept k)
theorem Inv.laid{a:ae}(I:Inv X pins σ H s)(k:∀b u,s.heap.get? b=Z8 u->h'.get? b=Z8 u)(hp:s.heap.objs.size<=a)(new:dZ X.prog X.w (upd H a o) h' a o) :
  Inv X pins σ (upd H a o) {s with heap:=h',toks:=t'}:=I.un (Un.laid k hp (I.hok.fresh hp)) (I.hok.laid k hp new)
theorem Inv.write(I:Inv X pins σ H s)(Y:Mut (H x))(W:e=x\/H e=Z8 (.own x))(k:∀b u,b≠e->s.heap.get? b=Z8 u->h'.get? b=Z8 u)(Z:∃u,h'.get? e=Z8 u)
  (new:dZ X.prog X.w (upd H x o) h' x o):Inv X pins σ (upd H x o) {s with heap:=h',toks:=t'}:=I.un (Un.write Y W k Z) (I.hok.write Y W k Z new)
theorem Inv.weak(I:Inv X pins σ H s)(O:Z.length=σ.length)(w:∀(i:Nat) v,Z[i]?=Z8 (Z8 v)->σ[i]?=Z8 (Z8 v)):Inv X pins Z H s:=
 {I.ok,I.os,I.bare,I.base,let ⟨m,U,Y⟩:=I.loc;{m,U,fun i x v W M e3=>Y i x v W (w i v M) e3},I.cell,I.free,I.freeC,I.pin,I.hok,O.trans I.len}
theorem Inv.pins_of(I:Inv X pins σ H s)(h:∀p∈Z,s.heap.get? p.1=Z8 p.2/\H p.1=Z7/\p.1≠X.env.locals/\p.1∉X.fs/\∀v,p.2.data≠.cell v):Inv X Z σ H s:=
 {I.ok,I.os,I.bare,I.base,I.loc,I.cell,I.free,I.freeC,fun p hp=>(cj.mp hp).elim (fun z=>I.pin p (iI _ z)) (h p),I.hok,I.len}
theorem wL{N:List Str}(Z:N.Nodup){i j:Nat}(a:N[i]?=Z8 x)(b:N[j]?=Z8 x):i=j:=by
 obtain⟨h1,W⟩:=aC.mp a;obtain⟨h2,Y⟩:=aC.mp b;exact (List.getElem_inj Z).mp (W.trans Y.symm)
theorem yz{M:LB}{A:bJ}{E:af->ai->Prop}{i:Nat}{x:Str}{v:V}{u:af}{Q:Unit->ai->Prop}(I:Inv X pins σ H s)(hN:X.N.Nodup)(hi:X.N[i]?=Z8 x)(hx:Loc X.env.scope x)(r:RelV v u)
  (h:∀s',Inv X pins (σ.set i (Z8 v)) H s'->(∃a,gU a s.heap s'.heap/\(a=X.env.locals\/X.env.cells.lookup x=Z8 a))->Q () s') (hf:X.fn x=true\/X.env.scope.names.lookup x=Z8 .local:=by first|exact .inl rfl|exact .inr rfl|assumption):aP M A (storeName X.env x u) Q E s:=by
 obtain⟨m,hn,hl⟩:=id I.loc;have ca:(X.env.scope.kind==.class||(X.env.scope.kind==.module&&X.env.locals != X.env.globals))=false:=by rw[I.ok.kind];rfl
 have O:i<σ.length:=by rw[I.len];exact (aC.mp hi).1
 have cne:=I.cne;have Z:∀{a:ae} {h':cb},(∃o,s.heap.get? a=Z8 o/\H a=Z7)->gU a s.heap h'->HOk X.prog X.w H h':=fun {a h'} ha hs b ob e=>by
  obtain⟨_,_,W⟩:=ha;refine (I.hok b ob e).stay (fun c w' hc q=>(hs.2 c ?_).trans q) (fun _ q=>q) fun _ _ q=>q;rintro rfl
  rcases hc with rfl|hc
  ·rw[W]at e;cases e
  ·rw[W]at hc;cases hc
 rcases hx with hk|hk
 ·refine wpAny_storeName_local hk hn (fun h' bH hs=>?_) ca;obtain⟨oL,_,_,bI,_⟩:=id hn;refine h _ {I.ok,I.os,I.bare,{fun b o e n hb hx=>?_,fun b o e n hb hx=>?_,I.base.free,fun b o e hx=>?_,I.base.tups,I.base.frzs,I.base.tbls},{_,bH,fun j y v' Y U e3=>?_},fun y c e=>?_,I.free,I.freeC,fun p hp=>?_,Z ⟨oL,bI,I.free⟩ hs,by simpa using I.len} {_,hs,.inl rfl}
  ·exact (hs.2 b (aM (bf (aO e) I.ok.above))).trans (I.base.keep b o e n hb hx)
  ·obtain⟨sl,Y⟩:=I.base.slot b o e n hb hx;exact{sl,(hs.2 b (aM (bf (aO e) I.ok.above))).trans Y}
  ·obtain⟨o',Y⟩:=I.base.there b o e hx;exact{o',(hs.2 b (aM (bf (aO e) I.ok.above))).trans Y}
  ·by_cases J:j=i
   ·subst J;rw[hi]at Y;cases Y;rw[eP O]at U
    cases U;exact{u,r,.inl {hk,by simp}}
   ·rw[iJ (fb J)]at U;obtain⟨u',r',q⟩:=hl j y v' Y U e3;refine{u',r',?_}
    rcases q with⟨k,e⟩|⟨k,c,e,z⟩
    ·refine .inl {k,?_};have:y≠x:=fun e=>J (wL hN Y (e ▸ hi));simp[this,e]
    ·exact .inr {k,c,e,z.sameBut hs (cne y c e)}
  ·obtain⟨w',z⟩:=I.cell y c e;exact{w',z.sameBut hs (cne y c e)}
  ·obtain⟨e,n,ne,nf,d⟩:=I.pin p hp;exact{(hs.2 p.1 ne).trans e,n,ne,nf,d}
 ·have D:X.fn x=true:=by
   rcases hf with z|z
   ·exact z
   ·rw[z]at hk;cases hk
  obtain⟨c,hc⟩:=I.ok.has x (.inl hk);obtain⟨w',z⟩:=I.cell x c hc;refine wpAny_storeName_cell I.ok.kind hk hc z (fun h' cc hs=>?_);obtain⟨oc,g,t⟩:=id z;refine h {s with heap:=h'} {I.ok,I.os,I.bare,{fun b o e n hb hx=>?_,fun b o e n hb hx=>?_,I.base.free,fun b o e hx=>?_,I.base.tups,I.base.frzs,I.base.tbls},{m,hn.sameBut hs (fb (cne x c hc)),fun j y v' Y U e3=>?_},fun y c' e=>?_,I.free,I.freeC,fun p hp=>?_,Z {oc,g,I.freeC x c hc} hs,by simpa using I.len} {c,hs,.inr hc}
  ·exact (hs.2 b (aM (bf (aO e) (I.ok.cab x c D hc)))).trans (I.base.keep b o e n hb hx)
  ·obtain⟨sl,Y⟩:=I.base.slot b o e n hb hx;exact{sl,(hs.2 b (aM (bf (aO e) (I.ok.cab x c D hc)))).trans Y}
  ·obtain⟨o',Y⟩:=I.base.there b o e hx;exact{o',(hs.2 b (aM (bf (aO e) (I.ok.cab x c D hc)))).trans Y}
  ·by_cases J:j=i
   ·subst J;rw[hi]at Y;cases Y;rw[eP O]at U
    cases U;exact{u,r,.inr {.inl hk,c,hc,cc}}
   ·rw[iJ (fb J)]at U;obtain⟨u',r',q⟩:=hl j y v' Y U e3;refine{u',r',?_}
    rcases q with q|⟨k,c',e,z'⟩
    ·exact .inl q
    ·refine .inr {k,c',e,z'.sameBut hs ?_};rintro rfl;exact J (wL hN Y (I.ok.inj _ _ _ e hc ▸ hi))
  ·by_cases bW:c'=c
   ·subst bW;exact{_,cc}
   ·obtain⟨w2,z2⟩:=I.cell y c' e;exact{w2,z2.sameBut hs bW}
  ·obtain⟨e,n,ne,nf,d⟩:=I.pin p hp;refine{(hs.2 p.1 ?_).trans e,n,ne,nf,d};intro q;rw[q,g]at e;have q':oc=p.2:=cF e;exact d w' (by rw[<- q'];exact t)
theorem tu{M:LB}{A:bJ}{E:af->ai->Prop}{i:Nat}{x:Str}{v:V}{u:af}{Q:Unit->ai->Prop}(I:Inv X pins σ H s)(W:X.N.Nodup)(hi:X.N[i]?=Z8 x)(hx:Loc X.env.scope x)(r:RelV v u)
  (h:∀s',Inv X pins (σ.set i (Z8 v)) H s'->Q () s') (Z:X.fn x=true\/X.env.scope.names.lookup x=Z8 .local:=by first|exact .inl rfl|exact .inr rfl|assumption):aP M A (storeName X.env x u) Q E s:=
 yz I W hi hx r (fun s' Y _=>h s' Y) Z
theorem Inv.call'(I:Inv X pins σ H s)(V:s'.os=s.os)(u:Un (frs X.stack) ch H H' s.heap s'.heap)(Z:HOk X.prog X.w H' s'.heap)(W:p8 s'.gens)
  (Y:∀b∈ch,(b∈X.ex\/X.s₀.heap.objs.size<=b)/\b≠X.env.locals/\(∀x c,X.env.cells.lookup x=Z8 c->c≠b)/\∀p∈X.pn++pins,p.1≠b):Inv X pins σ H' s':=by
 obtain⟨h',g',d',t',o'⟩:=s';have e:o'=s.os:=V;subst e;exact I.call (g':=g') (t':=t') (d':=d') u Z W Y
end
abbrev XK:=af->Option ae->Hp->Prop
abbrev St:=List (Option V)
abbrev VK:=V->Hp->Prop
abbrev TE:=St->Hp->VK->Prop
abbrev TT:=St->Hp->(Bool->Hp->Prop)->Prop
abbrev TA:=St->Hp->(List V->Hp->Prop)->Prop
structure lD where
 nx:St->Hp->Prop
 rt:VK
 bk:St->Hp->Prop:=fun _ _=>False
 ct:St->Hp->Prop:=fun _ _=>False
abbrev TS:=lD->St->Hp->Prop
def EP(X:Cx)(pins:List (ae×Obj))(σ:St)(Q:VK)(u:af)(s':ai):Prop:=∃v H',Inv X pins σ H' s'/\RelV v u/\Q v H'
def TP(X:Cx)(pins:List (ae×Obj))(σ:St)(Q:Bool->Hp->Prop)(b:Bool)(s':ai):Prop:=∃H',Inv X pins σ H' s'/\Q b H'
def AP(X:Cx)(pins:List (ae×Obj))(σ:St)(Q:List V->Hp->Prop)(us:List af)(s':ai):Prop:=∃vs H',Inv X pins σ H' s'/\cW vs us/\Q vs H'
def SP(X:Cx)(pins:List (ae×Obj))(D:lD)(f:Flow)(s':ai):Prop:=
 match f with
 |.next=>∃Z H',Inv X pins Z H' s'/\D.nx Z H'
 |.brk=>∃Z H',Inv X pins Z H' s'/\D.bk Z H'
 |.cont=>∃Z H',Inv X pins Z H' s'/\D.ct Z H'
 |.ret u=>∃v Z H',Inv X pins Z H' s'/\RelV v u/\D.rt v H'
def PE(X:Cx)(e:cK)(t:TE):Prop:=
 ∀(pins:List (ae×Obj)) (s:ai) (σ:St) (H:Hp) (Q:VK),Inv X pins σ H s->t σ H Q->aP #[4] X.A (fY e X.env) (EP X pins σ Q) X.xe s
def PT(X:Cx)(e:cK)(t:TT):Prop:=
 ∀(pins:List (ae×Obj)) (s:ai) (σ:St) (H:Hp) (Q:Bool->Hp->Prop),Inv X pins σ H s->t σ H Q->aP #[4] X.A (HG e X.env (fY e X.env)) (TP X pins σ Q) X.xe s
def PW(X:Cx)(e:cK)(t:TT):Prop:=
 ∀(Z:Sem af) (pins:List (ae×Obj)) (s:ai) (σ:St) (H:Hp) (Q:Bool->Hp->Prop),Inv X pins σ H s->t σ H Q->aP #[4] X.A (HG e X.env Z) (TP X pins σ Q) X.xe s
theorem PW.pt(h:PW X e t):PT X e t:=h _
def PA(X:Cx)(es:List cK)(t:TA):Prop:=
 ∀(pos:Pos) (pins:List (ae×Obj)) (s:ai) (σ:St) (H:Hp) (Q:List V->Hp->Prop),Inv X pins σ H s->t σ H Q->aP #[4] X.A (spliced (jZ pos (cz es X.env))) (AP X pins σ Q) X.xe s
def PS(X:Cx)(st:df)(t:TS):Prop:=
 ∀(pins:List (ae×Obj)) (s:ai) (σ:St) (H:Hp) (D:lD),Inv X pins σ H s->t D σ H->aP #[4] X.A (exec st X.env) (SP X pins D) X.xe s
def PSs(X:Cx)(st:List df)(t:TS):Prop:=
 ∀(pins:List (ae×Obj)) (s:ai) (σ:St) (H:Hp) (D:lD),Inv X pins σ H s->t D σ H->aP #[4] X.A (execs st X.env) (SP X pins D) X.xe s
theorem thn{α:Type}{t:Sem α}{Q Z:α->ai->Prop}(h:aP M A t Q E s)(Y:∀a s,Q a s->Z a s):aP M A t Z E s:=eQ h Y fun _ _ x=>x
section
variable{X:Cx}
theorem bin(ha:PE X a ta)(hb:PE X b tb){σ:St}{R:V->V->Hp->Prop}(I:Inv X pins σ H s)(h:ta σ H fun x H1=>tb σ H1 fun y H2=>R x y H2)
  {α:Type} {Q:α->ai->Prop} {f:af->af->Sem α}
  (U:∀v u s2 x y H2,Inv X pins σ H2 s2->RelV x v->RelV y u->R x y H2->aP #[4] X.A (f v u) Q X.xe s2) :
  aP #[4] X.A (fY a X.env) (fun v Y=>aP #[4] X.A (fY b X.env) (fun u Z=>aP #[4] X.A (f v u) Q X.xe Z) X.xe Y) X.xe s:=by
 refine thn (ha pins s σ H _ I h) fun v J ⟨x,H1,z,t,M⟩=>?_;refine thn (hb pins J σ H1 _ z M) fun u s2 ⟨y,H2,O,W,D⟩=>?_;exact U v u s2 x y H2 O t W D
set_option genSizeOf false
set_option genInjectivity false
inductive TVar(i:Nat)(σ:St)(H:Hp)(Q:VK):Prop where
 |mk(v:V)(h:σ[i]?=Z8 (Z8 v))(q:Q v H):TVar i σ H Q
def LC(i:Nat):TE:=fun σ H Q=>TVar i σ H Q
def tC(v:V):TE:=fun _ H Q=>Q v H
theorem PR{i:Nat}{x:Str}{pos:Pos}(U:X.N[i]?=Z8 x)(hv:Vis X.env.scope x)(Y:(x==("__debug__":Str))=false:=by decide)(W:(x==("__classdict__":Str))=false:=by decide):PE X (.Name x pos) (LC i):=by
 intro pins s σ H Q I h;obtain⟨v,e,h⟩:=h;obtain⟨m,V,O⟩:=I.loc;obtain⟨u,r,l⟩:=O i x v U e hv;have fin:EP X pins σ Q u s:=⟨v,H,I,r,h⟩
 rcases l with⟨hk,M⟩|⟨hk,c,hc,Z⟩
 ·exact PU (wpAny_loadName_local I.ok.kind hk V M fin) Y
 ·rcases hk with hk|hk
  ·exact PU (wpAny_loadName_cell I.ok.kind hk hc Z fin) Y
  ·exact PU (wpAny_loadName_free I.ok.kind hk hc Z fin W) Y
theorem aA {i j pos}:PE X (.Constant (.int i) j pos) (tC (.int i)):=fun _ _ _ H _ I h=>wpAny_Constant_int {.int i,H,I.tok _,{_,Z9},h}
theorem oG {b j pos}:PE X (.Constant (.bool b) j pos) (tC (.bl b)):=fun _ _ _ H _ I h=>Constant_bool {.bl b,H,I,Z9,h}
theorem wM {j pos}:PE X (.Constant .none j pos) (tC .non):=fun _ _ _ H _ I h=>FF {.non,H,I,Z9,h}
theorem bX {x j pos}:PE X (.Constant (.str x) j pos) (tC (.str x)):=fun _ _ _ H _ I h=>Calls.Constant_str {.str x,H,I.tok _,{_,Z9},h}
def Gl(X:Cx)(x:Str):Prop:=X.env.kindOf x=Z8 .globalImplicit
theorem tw{E:af->ai->Prop}{pins:List (ae×Obj)}{s:ai}{σ:St}{H:Hp}{x:Str}{u:af}{pos:Pos}{Q:af->ai->Prop}(I:Inv X pins σ H s)(Z:Gl X x)(W:X.mg x=Z8 u)(h:Q u s)
  (Y:(x==("__debug__":Str))=false:=by decide):aP #[4] X.A (fY (.Name x pos) X.env) Q E s:=
 x5 I.ok.kind Z (Calls.loadGlobal_global (by rw[I.ok.glob];exact I.mod.glob.keeps I.bk) W h) Y
theorem rX{E:af->ai->Prop}{pins:List (ae×Obj)}{s:ai}{σ:St}{H:Hp}{x:Str}{u:af}{pos:Pos}{Q:af->ai->Prop}(I:Inv X pins σ H s)(W:Gl X x)(V:X.mg x=Z7)(hv:eV x=Z8 u)(h:Q u s)
  (Z:x≠"__name__":=by decide) (Y:(x==("__debug__":Str))=false:=by decide):aP #[4] X.A (fY (.Name x pos) X.env) Q E s:=by
 obtain⟨U,h1,h2⟩:=I.mod.blt;exact x5 I.ok.kind W (Calls.loadGlobal_builtin (by rw[I.ok.glob];exact I.mod.glob.keeps I.bk) V (by rw[I.ok.blt];exact h1.keeps I.bk) ((h2 x Z).trans hv) h) Y
theorem vN{x:Str}{v:V}{u:af}{pos:Pos}(Y:Gl X x)(U:X.mg x=Z7)(hv:eV x=Z8 u)(r:RelV v u)(Z:x≠"__name__":=by decide)(W:(x==("__debug__":Str))=false:=by decide):PE X (.Name x pos) (tC v):=
 fun _ _ _ H _ I h=>rX I Y U hv ⟨v,H,I,r,h⟩ Z W
variable{a b:cK}{ta tb:TE}{pos:Pos}
def PC(X:Cx)(op:RN)(a b:cK)(t:TE):Prop:=
 ∀(pins:List (ae×Obj)) (s:ai) (σ:St) (H:Hp) (Q:VK),Inv X pins σ H s->t σ H Q ->
  aP #[4] X.A (fY a X.env) (fun v Y=>aP #[4] X.A (fY b X.env) (fun u Z=>aP #[4] X.A (eB op v u) (EP X pins σ Q) X.xe Z) X.xe Y) X.xe s
theorem HH(b:cK)(h:op≠.In)(h2:op≠.NotIn):kN op b=false:=by
 have Z:(op==CmpOp.In)=false:=by cases op<;>first|rfl|exact absurd rfl h
 have Y:(op==CmpOp.NotIn)=false:=by cases op<;>first|rfl|exact absurd rfl h2
 cases b<;>simp[kN,Z,Y]
def tIsN(ta:TE):TE:=fun σ H Q=>ta σ H fun x H1=>Q (.bl (decide (x=.non))) H1
def tNotN(ta:TE):TE:=fun σ H Q=>ta σ H fun x H1=>Q (.bl (!decide (x=.non))) H1
theorem RelV.none_iff(r:RelV x v):(v==Value.none)=decide (x=.non):=by
 cases x with
 |non=>cases r;rfl
 |bl _=>cases r;rfl
 |int _=>obtain⟨t,rfl⟩:=r;rfl
 |str _=>obtain⟨t,rfl⟩:=r;rfl
 |byt _=>obtain⟨t,rfl⟩:=r;rfl
 |flt _=>obtain⟨t,rfl⟩:=r;rfl
 |ref _=>cases r;rfl
 |ty _=>cases r;rfl
theorem HI {j pos'} (ha:PE X a ta):PC X .Is a (.Constant .none j pos') (tIsN ta):=by
 intro pins s σ H Q I h;refine thn (ha pins s σ H _ I h) fun v V ⟨x,H1,Y,Z,W⟩=>?_;exact FF (is_none_gen {.bl _,H1,Y,by rw[Z.none_iff];rfl,W})
theorem Ei {j pos'} (ha:PE X a ta):PC X .IsNot a (.Constant .none j pos') (tNotN ta):=by
 intro pins s σ H Q I h;refine thn (ha pins s σ H _ I h) fun v V ⟨x,H1,Y,Z,W⟩=>?_;exact FF (isnot_none_gen {.bl _,H1,Y,by rw[Z.none_iff];rfl,W})
inductive BlI(x:V)(H:Hp)(Q:Bool->Hp->Prop):Prop where
 |mk(c:Bool)(h:x=.bl c)(q:Q c H):BlI x H Q
def tB(t:TE):TT:=fun σ H Q=>t σ H fun x H1=>BlI x H1 Q
theorem qq{op:RN}{t:TE}(h:PC X op a b t)(h1:kN op b=false:=by first|exact HH _ (by decide) (by decide)|rfl):PT X (.Compare a [op] [b] pos) (tB t):=by
 intro pins s σ H Q I hw;refine Lq (thn (h pins s σ H _ I hw) fun v U h1=>thn h1 fun u s2 h2=>thn h2 fun c V ⟨x,H1,Z,W,Y⟩=>?_) h1;obtain⟨d,rfl,q⟩:=Y
 cases W;exact j1 ⟨H1,Z,q⟩
theorem wN{e:cK}{t:TE}(h:PE X e t)(W:∀Z,HG e X.env Z=(do let v <- Z;x6 e.pos;qb [v] (truthy v)):=by intro _;rfl):PT X e (tB t):=by
 intro pins s σ H Q I hw;refine isTrue_plain (thn (h pins s σ H _ I hw) fun v O ⟨x,H1,Y,U,V⟩=>?_) (W _);obtain⟨d,rfl,q⟩:=V
 cases U;exact j1 ⟨H1,Y,q⟩
variable{tA tB':TT}{rest:List cK}
def tAnd(t u:TT):TT:=fun σ H Q=>t σ H fun c H1=>if c=true then u σ H1 Q else Q false H1
def tOr(t u:TT):TT:=fun σ H Q=>t σ H fun c H1=>if c=true then Q true H1 else u σ H1 Q
def tNot(t:TT):TT:=fun σ H Q=>t σ H fun c H1=>Q (!c) H1
theorem l8(ha:PT X a tA):PW X (.BoolOp .And [a] pos) tA:=by
 intro Y pins s σ H Q I h;refine isTrue_and (thn (ha pins s σ H Q I h) fun c Z e=>?_)
 cases c with
 |true=>exact isTrue_and_nil e
 |false=>exact e
theorem Cd(ha:PT X a tA):PW X (.BoolOp .Or [a] pos) tA:=by
 intro Y pins s σ H Q I h;refine isTrue_or (thn (ha pins s σ H Q I h) fun c Z e=>?_)
 cases c with
 |false=>exact isTrue_or_nil e
 |true=>exact e
theorem oz(ha:PT X a tA)(hb:PW X (.BoolOp .And (b::rest) pos) tB'):PW X (.BoolOp .And (a::b::rest) pos) (tAnd tA tB'):=by
 intro V pins s σ H Q I h;refine isTrue_and (thn (ha pins s σ H _ I h) fun c W ⟨H1,Y,Z⟩=>?_)
 cases c with
 |true=>exact hb V pins W σ H1 Q Y Z
 |false=>exact⟨H1,Y,Z⟩
theorem HJ(ha:PT X a tA)(hb:PW X (.BoolOp .Or (b::rest) pos) tB'):PW X (.BoolOp .Or (a::b::rest) pos) (tOr tA tB'):=by
 intro V pins s σ H Q I h;refine isTrue_or (thn (ha pins s σ H _ I h) fun c W ⟨H1,Y,Z⟩=>?_)
 cases c with
 |true=>exact⟨H1,Y,Z⟩
 |false=>exact hb V pins W σ H1 Q Y Z
theorem HK(ha:PT X a tA):PT X (.UnaryOp .Not a pos) (tNot tA):=by
 intro pins s σ H Q I h;exact isTrue_not (ha pins s σ H (fun c H1=>Q (!c) H1) I h)
def tIf(t:TT)(ta tb:TE):TE:=fun σ H Q=>t σ H fun c H1=>if c=true then ta σ H1 Q else tb σ H1 Q
theorem wO(hc:PT X c tA)(ha:PE X a ta)(hb:PE X b tb):PE X (.IfExp c a b pos) (tIf tA ta tb):=by
 intro pins s σ H Q I h;refine wpAny_IfExp (thn (hc pins s σ H _ I h) fun d W ⟨H1,Z,Y⟩=>?_)
 cases d with
 |true=>exact ha pins W σ H1 Q Z Y
 |false=>exact hb pins W σ H1 Q Z Y
end
def SqL(K:ag)(H:Hp)(a:ae)(xs:List V):Prop:=
 Rd H a (.lst xs) \/
  ∃(o:Obj) (Z:Array af) (n:Nat),K.lookup a=Z8 o/\o.cls=.type "list"/\o.dict=Z7/\o.data=.seq Z n/\Z.size<=aD/\cW xs Z.toList
def SqT(K:ag)(H:Hp)(a:ae)(xs:List V):Prop:=
 Rd H a (.tup xs) \/
  ∃(o:Obj) (Z:Array af) (n:Nat),K.lookup a=Z8 o/\o.cls=.type "tuple"/\o.data=.seq Z n/\Z.size<=aD/\cW xs Z.toList
def absV:af->Option V
 |.none=>Z8 .non
 |.bool b=>Z8 (.bl b)
 |.int i _=>Z8 (.int i)
 |.str x _=>Z8 (.str x)
 |.bytes b _=>Z8 (.byt b)
 |.float b _=>Z8 (.flt b)
 |.ref a=>Z8 (.ref a)
 |.type n=>Z8 (.ty n)
 |_=>Z7
theorem RelV.abs(r:RelV x u):absV u=Z8 x:=by
 cases x with
 |non=>cases r;rfl
 |bl _=>cases r;rfl
 |int _=>obtain⟨t,rfl⟩:=r;rfl
 |str _=>obtain⟨t,rfl⟩:=r;rfl
 |byt _=>obtain⟨t,rfl⟩:=r;rfl
 |flt _=>obtain⟨t,rfl⟩:=r;rfl
 |ref _=>cases r;rfl
 |ty _=>cases r;rfl
theorem RelV.inj(r:RelV x u)(q:RelV y u):x=y:=cF (r.abs.symm.trans q.abs)
theorem cW.inj:∀{xs ys:List V} {us:List af},cW xs us->cW ys us->xs=ys
 |_,_,_,.nil,.nil=>rfl
 |_,_,_,.cons r t,.cons Z t'=>by rw[r.inj Z,cW.inj t t']
section
variable{X:Cx}{pins:List (ae×Obj)}{σ:St}{H:Hp}{s:ai}{a:ae}{xs ys:List V}
theorem SqL.of{K:ag}(h:H a=Z8 (.lst xs)):SqL K H a xs:=.inl (.inl h)
theorem SqT.of{K:ag}(h:H a=Z8 (.tup xs)):SqT K H a xs:=.inl (.inl h)
theorem Inv.list(I:Inv X pins σ H s)(h:SqL X.K H a xs):∃Z:List af,cW xs Z/\PlainL s.heap a Z.toArray/\xs.length<=aD:=by
 rcases h with h|⟨o,Z,n,hk,hc,Y,hs,hz,r⟩
 ·obtain⟨z,Z,n,r,e⟩:=h.ok I.hok;exact{Z,r,{_,n,e,Z9,Z9,Z9},z}
 ·refine{Z.toList,r,{o,n,I.kIn a o hk,hc,Y,by simpa using hs},?_};have e:=r.length;simp only[bZ]at e;omega
theorem Inv.tuple(I:Inv X pins σ H s)(h:SqT X.K H a xs):∃Z:List af,cW xs Z/\uk s.heap a Z.toArray/\xs.length<=aD:=by
 rcases h with h|⟨o,Z,n,hk,hc,hs,hz,r⟩
 ·obtain⟨z,Z,r,p⟩:=h.ok I.hok;exact⟨Z,r,p,z⟩
 ·refine{Z.toList,r,{o,I.kIn a o hk,hc,n,by simpa using hs},?_};have e:=r.length;simp only[bZ]at e;omega
theorem Inv.list_inj(I:Inv X pins σ H s)(h:SqL X.K H a xs)(h':SqL X.K H a ys):xs=ys:=by
 obtain⟨Z,r,⟨o,n,e,_,_,d⟩,_⟩:=I.list h;obtain⟨its',W,⟨o',U,Y,_,_,d'⟩,_⟩:=I.list h';rw[e]at Y;cases Y;rw[d]at d';injection d' with V _;have:Z=its':=by simpa using congrArg PV V
 subst this;exact r.inj W
theorem Inv.tuple_inj(I:Inv X pins σ H s)(h:SqT X.K H a xs)(h':SqT X.K H a ys):xs=ys:=by
 obtain⟨Z,r,⟨o,e,_,n,d⟩,_⟩:=I.tuple h;obtain⟨its',W,⟨o',Y,_,U,d'⟩,_⟩:=I.tuple h';rw[e]at Y;cases Y;rw[d]at d';injection d' with V _;have:Z=its':=by simpa using congrArg PV V
 subst this;exact r.inj W
end
abbrev Cx.wish(X:Cx)(E:af->ai->Prop):Cx:={X with xe:=E}
abbrev Cx.nox(X:Cx):Cx:=X.wish fun _ _=>False
theorem Cx.Ok.wish{X:Cx}(ok:X.Ok)(E:af->ai->Prop):(X.wish E).Ok:=
 ⟨ok.mod,ok.kind,ok.glob,ok.blt,ok.above,ok.inj,ok.has,ok.cab,ok.hd,ok.frames,ok.stk,ok.exf,ok.bs,ok.bsz,ok.noex,ok.exfs,ok.funs,ok.frf⟩
theorem Cx.Ok.unwish{X:Cx}(ok:(X.wish E).Ok):X.Ok:=
 ⟨ok.mod,ok.kind,ok.glob,ok.blt,ok.above,ok.inj,ok.has,ok.cab,ok.hd,ok.frames,ok.stk,ok.exf,ok.bs,ok.bsz,ok.noex,ok.exfs,ok.funs,ok.frf⟩
section
variable{X:Cx}{pins:List (ae×Obj)}{σ:St}{H:Hp}{s:ai}{E:af->ai->Prop}
theorem Inv.wish(I:Inv X pins σ H s)(E:af->ai->Prop):Inv (X.wish E) pins σ H s:={I.ok.wish E,I.os,I.bare,I.base,I.loc,I.cell,I.free,I.freeC,I.pin,I.hok,I.len}
theorem Inv.unwish(I:Inv (X.wish E) pins σ H s):Inv X pins σ H s:=⟨I.ok.unwish,I.os,I.bare,I.base,I.loc,I.cell,I.free,I.freeC,I.pin,I.hok,I.len⟩
theorem SP.unwish(h:SP (X.wish E) pins D f s'):SP X pins D f s':=by
 cases f with
 |next=>obtain⟨Z,H',I,q⟩:=h;exact⟨Z,H',I.unwish,q⟩
 |brk=>obtain⟨Z,H',I,q⟩:=h;exact⟨Z,H',I.unwish,q⟩
 |cont=>obtain⟨Z,H',I,q⟩:=h;exact⟨Z,H',I.unwish,q⟩
 |ret u=>obtain⟨v,Z,H',I,r,q⟩:=h;exact⟨v,Z,H',I.unwish,r,q⟩
theorem PSs.nox{st:List df}(h:PSs X.nox st t):PSs X st t:=fun pins s σ H D I hw=>
 eQ (h pins s σ H D (I.wish _) hw) (fun _ _ q=>q.unwish) fun _ _ z=>cY z
end
section
variable{X:Cx}{st:df}{rest:List df}{t u:TS}{e:cK}{te:TE}{pos:Pos}
def lV:TS:=fun D σ H=>D.nx σ H
def LD(t u:TS):TS:=fun D σ H=>t {D with nx:=u D} σ H
theorem b9:PSs X [] lV:=fun _ _ σ H _ I h=>sV ⟨σ,H,I,h⟩
theorem ar(h1:PS X st t)(h2:PSs X rest u):PSs X (st::rest) (LD t u):=by
 intro pins s σ H D I h;refine wpAny_execs_cons (thn (h1 pins s σ H {D with nx:=u D} I h) fun f W q=>?_)
 cases f with
 |next=>
  obtain⟨Z,H',Y,q⟩:=q;exact h2 pins W Z H' D Y q
 |ret v=>exact q
 |brk=>exact q
 |cont=>exact q
theorem aF(h1:PS X st t):PSs X [st] t:=by
 intro pins s σ H D I h;refine wpAny_execs_cons (thn (h1 pins s σ H D I h) fun f Z q=>?_)
 cases f with
 |next=>exact sV q
 |ret v=>exact q
 |brk=>exact q
 |cont=>exact q
theorem Inv.quiet{σ:St}(I:Inv X pins σ H s):interactive X.env=false:=by simp[interactive,I.ok.kind]
def tDrop(te:TE):TS:=fun D σ H=>te σ H fun _ H1=>D.nx σ H1
theorem eU(Y:PE X e te)(hs:mE e Z7 pos.line X.env=pure false:=by rfl):PS X (.Expr e pos) (tDrop te):=by
 intro pins s σ H D I h;exact wpAny_Expr_any (thn (Y pins s σ H _ I h) fun v V ⟨x,H1,Z,U,W⟩=>⟨σ,H1,Z,W⟩) I.quiet hs
def tRet(te:TE):TS:=fun D σ H=>te σ H D.rt
theorem bQ(Y:PE X e te):PS X (.Return (Z8 e) pos) (tRet te):=by
 intro pins s σ H D I h;exact wpAny_Return_some (thn (Y pins s σ H _ I h) fun v U ⟨x,H1,Z,V,W⟩=>⟨x,σ,H1,Z,V,W⟩)
def tIfS(c:TT)(t u:TS):TS:=fun D σ H=>c σ H fun b H1=>if b=true then t D σ H1 else u D σ H1
theorem cR(hc:PT X c tc)(ha:PSs X a t)(hb:PSs X b u):PS X (.If c a b pos) (tIfS tc t u):=by
 intro pins s σ H D I h;refine wpAny_If (thn (hc pins s σ H _ I h) fun d W ⟨H1,Z,Y⟩=>?_)
 cases d with
 |true=>exact ha pins W σ H1 D Z Y
 |false=>exact hb pins W σ H1 D Z Y
def PX:TS:=fun _ _ _=>False
theorem yA:PSs X Z PX:=fun _ _ _ _ _ _ h=>h.elim
end
abbrev TG:=V->St->Hp->(St->Hp->Prop)->Prop
abbrev TGs:=List V->St->Hp->(St->Hp->Prop)->Prop
def PG(X:Cx)(Z:cK)(t:TG):Prop:=
 ∀(pins:List (ae×Obj)) (s:ai) (σ:St) (H:Hp) (v:V) (u:af) (Q:St->Hp->Prop),Inv X pins σ H s->RelV v u->t v σ H Q ->
  aP #[4] X.A (zz Z X.env u) (fun _ s'=>∃Y H',Inv X pins Y H' s'/\Q Y H') X.xe s
def PGs(X:Cx)(Y:List cK)(t:TGs):Prop:=
 ∀(pins:List (ae×Obj)) (s:ai) (σ:St) (H:Hp) (vs:List V) (us:List af) (Q:St->Hp->Prop),Inv X pins σ H s->cW vs us->t vs σ H Q ->
  aP #[4] X.A (assignInOrder ((mH Y X.env).map (·.2)) us) (fun _ s'=>∃Z H',Inv X pins Z H' s'/\Q Z H') X.xe s
abbrev PY:=V->V->V->Hp->(Hp->Prop)->Prop
def PSet(X:Cx)(t:PY):Prop:=
 ∀(pins:List (ae×Obj)) (s:ai) (σ:St) (H:Hp) (o i v:V) (Z iv u:af) (Q:Hp->Prop),Inv X pins σ H s->RelV o Z->RelV i iv->RelV v u->t o i v H Q ->
  aP #[4] X.A (setItem Z iv u) (fun _ s'=>∃H',Inv X pins σ H' s'/\Q H') X.xe s
section
variable{X:Cx}{pos:Pos}
def wQ(i:Nat):TG:=fun v σ H Q=>Q (σ.set i (Z8 v)) H
theorem iM{i:Nat}{x:Str}(W:X.N.Nodup)(hi:X.N[i]?=Z8 x)(hx:Loc X.env.scope x)(Z:X.fn x=true\/X.env.scope.names.lookup x=Z8 .local:=by first|exact .inl rfl|exact .inr rfl|assumption):PG X (.Name x pos) (wQ i):=by
 intro pins s σ H v u Q I r h;exact RO (tu I W hi hx r (fun s' Y=>{_,H,Y,h}) Z)
def gNil:TGs:=fun vs σ H Q=>vs=[]/\Q σ H
inductive Of(t:TG)(u:TGs)(vs:List V)(σ:St)(H:Hp)(Q:St->Hp->Prop):Prop where
 |mk(v:V)(r:List V)(h:vs=v::r)(q:t v σ H fun σ' H'=>u r σ' H' Q):Of t u vs σ H Q
def gCons(t:TG)(u:TGs):TGs:=fun vs σ H Q=>Of t u vs σ H Q
theorem o8:PGs X [] gNil:=by
 intro pins s σ H vs us Q I r h;obtain⟨e,h⟩:=h;subst e
 cases r;exact assignInOrder_nil ⟨σ,H,I,h⟩
theorem iw{e:cK}{es:List cK}{t:TG}{u:TGs}(h1:PG X e t)(h2:PGs X es u)
  (hs:(mH (e::es) X.env).map (·.2)=zz e X.env::(mH es X.env).map (·.2):=by rfl):PGs X (e::es) (gCons t u):=by
 intro pins s σ H vs us Q I r h;obtain⟨v,M,Y,h⟩:=h;subst Y
 cases r with
 |cons r O=>
  rw[hs];refine assignInOrder_cons (thn (h1 pins s σ H _ _ _ I r h) fun _ V ⟨Z,H1,U,W⟩=>?_);exact h2 pins V Z H1 _ _ Q U O W
inductive GTup(K:ag)(n:Nat)(t:TGs)(v:V)(σ:St)(H:Hp)(Q:St->Hp->Prop):Prop where
 |mk(a:ae)(xs:List V)(h:v=.ref a)(s:SqT K H a xs)(l:xs.length=n)(q:t xs σ H Q):GTup K n t v σ H Q
def gTup(K:ag)(n:Nat)(t:TGs):TG:=fun v σ H Q=>GTup K n t v σ H Q
theorem rY{es:List cK}{k:Nat}{t:TGs}{n:Nat}(hc:X.calm=true)(h:PGs X es t)
  (U:(mH es X.env).length=n:=by rfl) (Z:(mH es X.env).findIdx? (·.1)=Z7:=by rfl):PG X (.Tuple es k pos) (gTup X.K n t):=by
 intro pins s σ H v u Q I r hw;obtain⟨a,xs,W,hq,O,hw⟩:=hw;subst W
 cases r;obtain⟨V,Y,ht,hz⟩:=I.tuple hq;refine assign_Tuple_tuple (I.ok.hd hc) ht (by simp[U,<- O,Y.length]) Z fun h' hx=>?_;have M:Inv X pins σ H {s with heap:=h'}:=I.kept (t':=s.toks) fun b o e=>hx b o (aM (aO e)) e;exact h pins _ σ H xs _ Q M (by simpa using Y) hw
def gSub(to Z:TE)(t:PY):TG:=fun v σ H Q=>to σ H fun o H1=>Z σ H1 fun i H2=>t o i v H2 fun Y=>Q σ Y
theorem wR{o i:cK}{to Y:TE}{t:PY}(J:PE X o to)(hi:PE X i Y)(hs:PSet X t)
  (ha:∀v,zz (.Subscript o i pos) X.env v=(do
   let Z <- qb [v] (fY o X.env)
   let iv <- qb [v,Z] (fY i X.env)
   x6 pos
   qb [v,Z,iv] (setItem Z iv v)
   release [v,Z,iv] []):=by intro _;rfl):PG X (.Subscript o i pos) (gSub to Y t):=by
 intro pins s σ H v u Q I r h;rw[ha];refine aa (cU (thn (J pins s σ H _ I h) fun Z g ⟨x,H1,V,r1,M⟩=>?_));refine aa (cU (thn (hi pins g σ H1 _ V M) fun iv s2 ⟨y,H2,O,W,z⟩=>?_));refine aa (FG (aa (cU (thn (hs pins s2 σ H2 x y v Z iv u _ O r1 W r z) fun _ s3 ⟨D,U,q3⟩=>?_))));exact wpAny_release ⟨σ,D,U,q3⟩
def HL(te:TE)(g:TG):TS:=fun D σ H=>te σ H fun x H1=>g x σ H1 D.nx
theorem rZ{tg e:cK}{te:TE}{g:TG}(Y:PE X e te)(U:PG X tg g)(hs:swapsWithSole [tg] e pos.line X.env=pure false:=by rfl)(hw:swappedStores [tg] e X.env=pure Z7:=by rfl)
  (h1:(mH [tg] X.env).map (·.2)=[zz tg X.env]:=by rfl):PS X (.Assign [tg] e pos) (HL te g):=by
 intro pins s σ H D I h;refine wpAny_Assign_stores (thn (Y pins s σ H _ I h) fun v V ⟨x,H1,Z,O,W⟩=>?_) hs hw;rw[h1];exact thn (U pins V σ H1 x v _ Z O W) fun _ s2 q=>q
theorem HM{i:Nat}{x:Str}{e:cK}{te:TE}{pos':Pos}(U:X.N.Nodup)(hi:X.N[i]?=Z8 x)(hx:Loc X.env.scope x)(Y:PE X e te)(hs:mE e (Z8 (.Name x pos')) pos.line X.env=pure false:=by rfl)(Z:X.fn x=true\/X.env.scope.names.lookup x=Z8 .local:=by first|exact .inl rfl|exact .inr rfl|assumption) :
  PS X (.Assign [.Name x pos'] e pos) (HL te (wQ i)):=by
 intro pins s σ H D I h;refine wpAny_Assign_Name (thn (Y pins s σ H _ I h) fun v J ⟨y,H1,O,M,V⟩=>?_) hs;exact tu O U hi hx M (fun s2 W=>{_,H1,W,V}) Z
end
section
variable{X:Cx}{pos:Pos}
def HN(c:TT)(tb:TS):TS:=fun D σ H=>∃W:Nat->St->Hp->Prop,(∃m,W m σ H)/\∀m σ H,W m σ H ->
 c σ H fun b H1=>if b=true then ∃N:St->Hp->Prop,(∀Z H',N Z H'->∃Y,Y<m/\W Y Z H')/\tb {D with nx:=N,ct:=N,bk:=D.nx} σ H1 else D.nx σ H1
theorem A3{V:List df}(hp:PassesOwn #[4] X.A X.env X.xe)(hc:PT X c tc)(hb:PSs X V tb):PS X (.While c V [] pos) (HN tc tb):=by
 intro pins s σ H D I h;obtain⟨W,⟨m0,w0⟩,turn⟩:=h;refine wpAny_While (codeAny_whileLoop (fun n s'=>∃O H',Inv X pins O H' s'/\W n O H') ?_ m0 ⟨σ,H,I,w0⟩);rintro n s1 ⟨Y,H1,I1,w1⟩;refine jO hp (thn (hc pins s1 Y H1 _ I1 (turn n Y H1 w1)) fun b s2 ⟨H2,I2,J⟩=>?_)
 cases b with
 |true=>
  obtain⟨N,hN,J⟩:=J;rw[if_pos rfl];refine jO hp (thn (hb pins s2 Y H2 _ I2 J) fun f s3 M=>?_)
  cases f with
  |next=>
   obtain⟨Z,U,t,g⟩:=M;obtain⟨z,hm,w3⟩:=hN Z U g;exact⟨z,hm,Z,U,t,w3⟩
  |cont=>
   obtain⟨Z,U,t,g⟩:=M;obtain⟨z,hm,w3⟩:=hN Z U g;exact⟨z,hm,Z,U,t,w3⟩
  |brk=>exact M
  |ret v=>exact M
 |false=>
  rw[if_neg aT];exact sV ⟨Y,H2,I2,J⟩
end
structure It where
 go:Nat->Hp->Prop
 yld:Nat->Hp->V->Hp->Prop
 stop:Nat->Hp->Prop
def zA(X:Cx)(pins:List (ae×Obj))(H:Hp)(b:ae):Prop:=
 H b=Z7/\b≠X.env.locals/\b∉X.fs/\(b∈X.ex\/X.s₀.heap.objs.size<=b)/\(∀x c,X.env.cells.lookup x=Z8 c->c≠b)/\∀p∈X.pn++pins,p.1≠b
theorem Inv.fpOk{σ:St}{b:ae}(I:Inv X pins σ H s)(hb:s.heap.objs.size<=b)(Z:H' b=Z7):zA X pins H' b:=by
 refine{Z,gW (bf I.lt hb),I.nofs hb,.inr (cZ I.sz hb),fun x c e z=>?_,fun p hp z=>?_}
 ·obtain⟨v,q⟩:=I.cell x c e;exact absurd (bf q.lt (by rw[z];exact hb)) (hU _)
 ·exact absurd (bf (aO (I.pin p hp).1) (by rw[z];exact hb)) (hU _)
structure A4(P:aI)(w:aY)(K:ag)(tg:cK)(J:It)(fp:List ae)(it:ae)(tn:Nat->cb->Prop):Prop where
 mem:it∈fp
 obj:∀i h,tn i h->∀b∈fp,∃o,h.get? b=Z8 o/\∀v,o.data≠.cell v
 keep:∀i h h',tn i h->(∀b∈fp,∀o,h.get? b=Z8 o->h'.get? b=Z8 o)->tn i h'
 item:∀(X:Cx),X.prog=P->X.w=w->X.K=K->X.calm=true->∀(i:Nat) (pins:List (ae×Obj)) (s:ai) (σ:St) (H:Hp) (E:af->ai->Prop),Inv X pins σ H s->(∀b∈fp,zA X pins H b)->tn i s.heap->J.go i H ->
  aP (aS P w) X.A (o9 (.ref it)) (fun r s1=>∃u,r=Z8 u /\
   aP (aS P w) X.A (sW tg (.ref it) u) (fun _ s2=>∃x H',Inv X pins σ H' s2/\RelV x u/\J.yld i H x H'/\tn (i+1) s2.heap/\∀b∈fp,H' b=Z7) E s1) E s
 done:∀(X:Cx),X.prog=P->X.w=w->X.K=K->X.calm=true->∀(i:Nat) (pins:List (ae×Obj)) (s:ai) (σ:St) (H:Hp) (E:af->ai->Prop),Inv X pins σ H s->(∀b∈fp,zA X pins H b)->tn i s.heap->J.stop i H ->
  aP (aS P w) X.A (o9 (.ref it)) (fun r s1=>r=Z7/\Inv X pins σ H s1) E s
 self:∀(A:bJ) (i:Nat) (s:ai) (Q:af->ai->Prop) (E:af->ai->Prop),tn i s.heap->Q (.ref it) s->aP (aS P w) A (HP (.ref it)) Q E s
abbrev TI:=St->Hp->(It->Hp->Prop)->Prop
def PIE(X:Cx)(pins:List (ae×Obj))(σ:St)(tg:cK)(R:It->Hp->Prop)(Z:af)(s2:ai):Prop:=
 ∃(it:ae) (fp:List ae) (Y:Nat->cb->Prop) (J:It) (H':Hp),Z=.ref it/\Inv X pins σ H' s2/\A4 X.prog X.w X.K tg J fp it Y/\Y 0 s2.heap/\(∀b∈fp,zA X pins H' b)/\R J H'
def PI(X:Cx)(tg Z:cK)(Y:TI):Prop:=
 ∀(pins:List (ae×Obj)) (s:ai) (σ:St) (H:Hp) (R:It->Hp->Prop),Inv X pins σ H s->Y σ H R ->
  aP #[4] X.A (fY Z X.env) (fun v W=>aP #[4] X.A (HP v) (PIE X pins σ tg R) X.xe W) X.xe s
theorem A5(V:s.heap.get? it=Z8 o)(hc:o.cls=.type n)(W:o.data=.fields vs)
  (Y:["enumerate","zip","dict_itemiterator","dict_reverseitemiterator","odict_iterator","itertools.zip_longest","itertools.pairwise"].contains n=false) (Z:Q () s):aP M A (sW tg (.ref it) u) Q E s:=by
 unfold sW
 cases tg<;>first
  |exact ax Z
  |(cases u<;>first
    |exact ax Z
    |(refine aa (PZ V ?_)
      rw[hc,W];show aP M A (if (["enumerate","zip","dict_itemiterator","dict_reverseitemiterator","odict_iterator","itertools.zip_longest","itertools.pairwise"].contains n&&vs[0]?==Z8 (gN _))=true then _ else _) Q E s;rw[if_neg (by intro h;rw[Y,Bool.false_and]at h;cases h)];exact ax Z))
def Itl(K:ag)(a:ae):It:=
 ⟨fun i H=>∃xs x,SqL K H a xs/\xs[i]?=Z8 x,fun i H x H'=>H'=H/\∀xs,SqL K H a xs->xs[i]?=Z8 x,fun i H=>∃xs,SqL K H a xs/\xs.length<=i⟩
def Itt(K:ag)(a:ae):It:=
 ⟨fun i H=>∃xs x,SqT K H a xs/\xs[i]?=Z8 x,fun i H x H'=>H'=H/\∀xs,SqT K H a xs->xs[i]?=Z8 x,fun i H=>∃xs,SqT K H a xs/\xs.length<=i⟩
def Itr(lo:Int)(n:Nat):It:=⟨fun i _=>i<n,fun i H x H'=>H'=H/\x=.int (lo+i),fun i _=>n<=i⟩
theorem FH{K:ag}(a it:ae):A4 P w K tg (Itl K a) [it] it (fun i h=>h.IsListIter it a i) where
 mem:=by simp
 obj:=fun i h st b hb=>by
  have e:b=it:=by simpa using hb
  subst e;obtain⟨o,e,c,d⟩:=st;exact{o,e,fun v z=>by rw[d]at z;cases z}
 keep:=fun i h h' st k=>st.at fun o e=>k it #[5] o e
 item:=by
  intro X U hw O hc i pins s σ H E I Y st t;subst U hw O;obtain⟨xs,x,hq,hx⟩:=t;obtain⟨V,W,p,hz⟩:=I.list hq;obtain⟨u,hu,ru⟩:=W.get hx;obtain⟨g,f1,f2,M,D,J⟩:=Y it #[5];refine HQ st p.isList (x:=u) (by simpa using hu) fun h' Z sb=>?_;have I1:Inv X pins σ H {s with heap:=h'}:=I.turned (t':=s.toks) (fun b o hb e=>(sb.2 b hb).trans e) g f1 M D J;obtain⟨o,e,c,d⟩:=id Z;exact{u,Z9,A5 (s:={s with heap:=h'}) e c d (by decide) {x,H,I1,ru,{Z9,fun ys hy=>by rw[I.list_inj hy hq];exact hx},Z,fun b hb=>(Y b hb).1}}
 done:=by
  intro X U hw O hc i pins s σ H E I Y st t;subst U hw O;obtain⟨xs,hq,hx⟩:=t;obtain⟨V,W,p,hz⟩:=I.list hq;obtain⟨g,f1,f2,M,D,J⟩:=Y it #[5];have hl:=W.length;exact Lr (I.ok.hd hc) st p.isList (by simp;omega) fun h' eb=>{Z9,I.turned (t':=s.toks) (fun b o hb e=>eb b o hb e) g f1 M D J}
 self:=fun _ _ _ _ _ st h=>wpAny_pyIter_listiter st h
theorem Ce{K:ag}(a it:ae):A4 P w K tg (Itt K a) [it] it (fun i h=>h.IsTupleIter it a i) where
 mem:=by simp
 obj:=fun i h st b hb=>by
  have e:b=it:=by simpa using hb
  subst e;obtain⟨o,e,c,d⟩:=st;exact{o,e,fun v z=>by rw[d]at z;cases z}
 keep:=fun i h h' st k=>st.at fun o e=>k it #[5] o e
 item:=by
  intro X U hw O hc i pins s σ H E I W st t;subst U hw O;obtain⟨xs,x,hq,hx⟩:=t;obtain⟨Z,V,p,hz⟩:=I.tuple hq;obtain⟨u,hu,ru⟩:=V.get hx;obtain⟨g,f1,f2,M,D,J⟩:=W it #[5];refine wpAny_pyNext_tuple_item st (show s.heap.IsTuple a Z.toArray from p) (x:=u) (by simpa using hu) fun h' Y sb=>?_;have I1:Inv X pins σ H {s with heap:=h'}:=I.turned (t':=s.toks) (fun b o hb e=>(sb.2 b hb).trans e) g f1 M D J;obtain⟨o,e,c,d⟩:=id Y;exact{u,Z9,A5 (s:={s with heap:=h'}) e c d (by decide) {x,H,I1,ru,{Z9,fun ys hy=>by rw[I.tuple_inj hy hq];exact hx},Y,fun b hb=>(W b hb).1}}
 done:=by
  intro X U hw O hc i pins s σ H E I W st t;subst U hw O;obtain⟨xs,hq,hx⟩:=t;obtain⟨Z,V,p,hz⟩:=I.tuple hq;obtain⟨g,f1,f2,M,D,J⟩:=W it #[5];have hl:=V.length;exact wpAny_pyNext_tuple_end (I.ok.hd hc) st (show s.heap.IsTuple a Z.toArray from p) (by simp;omega) fun h' eb=>{Z9,I.turned (t':=s.toks) (fun b o hb e=>eb b o hb e) g f1 M D J}
 self:=fun _ _ _ _ _ st h=>wpAny_pyIter_tupleiter st h
theorem Cf{K:ag}(it:ae)(lo:Int)(n:Nat):A4 P w K tg (Itr lo n) [it] it (fun i h=>AK h it (lo+(i:Nat)*1) ((n:Int)-(i:Nat)) 1) where
 mem:=by simp
 obj:=fun i h st b hb=>by
  have e:b=it:=by simpa using hb
  subst e;exact⟨_,st,fun v z=>by
   have z':Data.fields _=Data.cell v:=z
   cases z'⟩
 keep:=fun i h h' st k=>k it #[5] _ st
 item:=by
  intro X V hw O hc i pins s σ H E I Y st U;subst V hw O;obtain⟨g,f1,f2,M,D,J⟩:=Y it #[5];have W:=RP (prog:=X.prog) (w:=X.w) (I.ok.hd hc) it lo 1 n;refine W.item i s _ _ U st fun v h' tk hv Z kk=>?_;obtain⟨t,rfl⟩:=hv;have I1:Inv X pins σ H {s with heap:=h',toks:=tk}:=I.turned (fun b o hb e=>kk b o (by simpa using hb) e) g f1 M D J;refine{_,Z9,A5 (s:={s with heap:=h',toks:=tk}) (n:="range_iterator") Z rfl rfl (by decide) {.int (lo+i),H,I1,{t,?_},⟨Z9,Z9⟩,Z,fun b hb=>(Y b hb).1}};rw[Int.mul_one]
 done:=by
  intro X V hw O hc i pins s σ H E I Y st U;subst V hw O;obtain⟨g,f1,f2,M,D,J⟩:=Y it #[5];exact HR (I.ok.hd hc) st (by have:n<=i:=U;omega) fun h' eb=>{Z9,I.turned (t':=s.toks) (fun b o hb e=>eb b o hb e) g f1 M D J}
 self:=fun _ _ _ _ _ st h=>HS st h
section
variable{X:Cx}{tg:cK}
inductive HU(K:ag)(x:V)(H:Hp)(R:It->Hp->Prop):Prop where
 |mk(a:ae)(hx:x=.ref a)(s:∃xs,SqL K H a xs)(q:R (Itl K a) H):HU K x H R
def Og(K:ag)(tl:TE):TI:=fun σ H R=>tl σ H fun x H1=>HU K x H1 R
def iTup(K:ag)(tl:TE):TI:=fun σ H R=>tl σ H fun x H1=>∃a,x=.ref a/\(∃xs,SqT K H1 a xs)/\R (Itt K a) H1
theorem hV(U:PE X l tl):PI X tg l (Og X.K tl):=by
 intro pins s σ H R I h;refine thn (U pins s σ H _ I h) fun v Z ⟨x,H1,Y,O,V⟩=>?_;obtain⟨a,e,⟨xs,hq⟩,q⟩:=V;subst e
 cases O;obtain⟨W,M,p,hz⟩:=Y.list hq;refine x8 p.isList ?_;refine{Z.heap.objs.size,[Z.heap.objs.size],_,_,H1,Z9,Y.kept (t':=Z.toks) fun b o e=>aE _ e,FH a _,{_,aU _ rfl,Z9,Z9},fun b hb=>?_,q};have e:b=Z.heap.objs.size:=by simpa using hb
 subst e;exact Y.fpOk (ay _) (Y.hok.fresh (ay _))
theorem P0(U:PE X l tl):PI X tg l (iTup X.K tl):=by
 intro pins s σ H R I h;refine thn (U pins s σ H _ I h) fun v Z ⟨x,H1,Y,O,V⟩=>?_;obtain⟨a,e,⟨xs,hq⟩,q⟩:=V;subst e
 cases O;obtain⟨W,M,p,hz⟩:=Y.tuple hq;refine wpAny_pyIter_tuple (show Z.heap.IsTuple a W.toArray from p) ?_;refine{Z.heap.objs.size,[Z.heap.objs.size],_,_,H1,Z9,Y.kept (t':=Z.toks) fun b o e=>aE _ e,Ce a _,{_,aU _ rfl,Z9,Z9},fun b hb=>?_,q};have e:b=Z.heap.objs.size:=by simpa using hb
 subst e;exact Y.fpOk (ay _) (Y.hok.fresh (ay _))
theorem HV{σ:St}{lo hi:Int}(I:Inv X pins σ H s)(h1:-(2^62)<=lo)(h2:lo<2^62)(Y:-(2^62)<=hi)(V:hi<2^62)
  (q:R (Itr lo (hi-lo).toNat) H):aP #[4] X.A (HP (.ref s.heap.objs.size)) (PIE X pins σ tg R) E {s with heap:=s.heap.push {cls:=.type "range",data:=.fields #[.int lo t,.int hi u,.int 1 v]},toks:=tk}:=by
 refine P1 (Oh ..) (small_one h1 h2 Y V) ?_;have Z:Inv X pins σ H {s with heap:=s.heap.push {cls:=.type "range",data:=.fields #[.int lo t,.int hi u,.int 1 v]},toks:=tk}:=I.kept fun b o e=>aE _ e;refine⟨(s.heap.push {cls:=.type "range",data:=.fields #[.int lo t,.int hi u,.int 1 v]}).objs.size,[(s.heap.push {cls:=.type "range",data:=.fields #[.int lo t,.int hi u,.int 1 v]}).objs.size],_,_,H,Z9,
  Z.kept (t':=tk) fun b o e=>aE _ e,Cf _ lo (hi-lo).toNat,?_,fun b hb=>?_,q⟩
 ·have W:lo+((0:Nat):Int)*1=lo:=by simp
  have U:(((hi-lo).toNat:Nat):Int)-((0:Nat):Int)=c5 lo hi 1:=by rw[rangeSize_one];split<;>omega
  show AK _ _ (lo+((0:Nat):Int)*1) ((((hi-lo).toNat:Nat):Int)-((0:Nat):Int)) 1;rw[W,U];exact aU _ rfl
 ·have e:b=(s.heap.push {cls:=.type "range",data:=.fields #[.int lo t,.int hi u,.int 1 v]}).objs.size:=by simpa using hb
  subst e;exact Z.fpOk (ay _) (Z.hok.fresh (ay _))
def HW(ta:TA):TI:=fun σ H R=>ta σ H fun vs H1=>∃j:Int,vs=[.int j]/\-(2^62)<=j/\j<2^62/\R (Itr 0 j.toNat) H1
theorem je{a:cK}{ta:TA}{p pos:Pos}(U:Gl X "range")(M:X.mg "range"=Z7)(ha:PA X [a] ta)(hs:cz [a] X.env=[(false,fY a X.env)]:=by rfl):PI X tg (.Call (.Name "range" p) [a] [] pos) (HW ta):=by
 intro pins s σ H R I h;refine Call_ (rX I U M boot_range (iZ (thn (ha pos pins s σ H _ I h) fun us J ⟨vs,H1,Y,W,Z⟩=>?_) hs rfl));obtain⟨j,e,Z,V,q⟩:=Z;subst e
 cases W with
 |cons r O=>
  cases O;obtain⟨t,rfl⟩:=r;exact call_range_1 (HV Y #[2] #[2] Z V (by simpa using q))
def tFor(U:TI)(g:TG)(tb:TS):TS:=fun D σ H=>U σ H fun J H1=>∃W:Nat->Nat->St->Hp->Prop,(∃m,W 0 m σ H1)/\∀i m σ H,W i m σ H ->
 (J.stop i H/\D.nx σ H)\/(J.go i H/\∃N:St->Hp->Prop,(∀Z H',N Z H'->∃V,V<m/\W (i+1) V Z H')/\∀x H',J.yld i H x H'->g x σ H' fun Y H2=>tb {D with nx:=N,ct:=N,bk:=D.nx} Y H2)
def um(fp:List ae)(h:cb):List (ae×Obj):=fp.filterMap fun b=>(h.get? b).map fun o=>(b,o)
theorem pe(hb:b∈fp)(e:h.get? b=Z8 o):(b,o)∈um fp h:=nX.mpr {b,hb,by rw[e];rfl}
theorem FJ(hp:p∈um fp h):p.1∈fp/\h.get? p.1=Z8 p.2:=by
 obtain⟨b,hb,e⟩:=nX.mp hp
 cases q:h.get? b with
 |none=>rw[q]at e;cases e
 |some o=>
  rw[q]at e;have Z:(b,o)=p:=cF e;subst Z;exact⟨hb,q⟩
theorem Inv.pinned{σ:St}(I:Inv X pins σ H s)(Y:∀b∈fp,zA X pins H b)(V:∀b∈fp,∃o,s.heap.get? b=Z8 o/\∀v,o.data≠.cell v):Inv X (pins++um fp s.heap) σ H s:=
 I.pins_of fun p hp=>(cj.mp hp).elim (fun z=>I.pin p (bL _ z)) fun z=>by
  obtain⟨hb,e⟩:=FJ z;obtain⟨U,f1,W,_⟩:=Y p.1 hb;obtain⟨o,Z,d⟩:=V p.1 hb;rw[e]at Z;cases Z;exact⟨e,U,f1,W,d⟩
theorem Inv.unpinned{σ:St}(I:Inv X (pins++pl) σ H s):Inv X pins σ H s:=I.pins_of fun p hp=>I.pin p (bL _ (iI _ hp))
theorem iE{Y:cK}{t:List df}{wi:TI}{g:TG}{tb:TS}{pos:Pos}(hp:PassesOwn #[4] X.A X.env X.xe)(hc:X.calm=true)(hi:PI X tg Y wi)(hg:PG X tg g)(hb:PSs X t tb)
  (hs:∀x,qc Y X.env x=pure x:=by intro _;rfl):PS X (.For tg Y t [] pos) (tFor wi g tb):=by
 intro pins s σ H D I h;refine wpAny_For (thn (hi pins s σ H _ I h) fun v s1 h1=>thn h1 fun da s2 h2=>?_) hs;obtain⟨it,fp,tn,J,H2,e,I2,T,de,f2,W,⟨m0,w0⟩,turn⟩:=h2;subst e
 -- what stays true of the iterator's objects through the loop
 have O:∀{H':Hp},(∀b∈fp,H' b=Z7)->∀b∈fp,zA X pins H' b:=fun hn b hb=>{hn b hb,(f2 b hb).2};refine codeAny_forLoop_any (fun n s'=>∃i V H',Inv X pins V H' s'/\tn i s'.heap/\(∀b∈fp,H' b=Z7)/\W i n V H') ?_ m0 {0,σ,H2,I2,de,fun b hb=>(f2 b hb).1,w0};rintro n s3 ⟨i,M,H3,I3,di,dj,w3⟩
 rcases turn i n M H3 w3 with⟨dk,qn⟩|⟨go,N,hN,step⟩
 ·refine jO hp (thn (T.done X rfl rfl rfl hc i pins s3 M H3 X.xe I3 (O dj) di dk) fun r s4 ⟨hr,I4⟩=>?_);subst hr;exact sV ⟨M,H3,I4,qn⟩
 ·refine jO hp (thn (T.item X rfl rfl rfl hc i pins s3 M H3 X.xe I3 (O dj) di go) fun r s4 ⟨u,hr,h4⟩=>?_);subst hr;refine jO hp (thn h4 fun _ s5 ⟨x,H5,I5,r5,y5,dl,dg⟩=>?_);have dc:=I5.pinned (O dg) (T.obj _ _ dl);refine jO hp (thn (hg _ s5 M H5 x u _ dc r5 (step x H5 y5)) fun _ s6 ⟨db,H6,I6,q6⟩=>?_);refine jO hp (thn (hb _ s6 db H6 _ I6 q6) fun f s7 q7=>?_);have again:∀{Z:St} {z:Hp},Inv X (pins++um fp s5.heap) Z z s7->N Z z->∃m,m<n/\∃i V H',Inv X pins V H' s7/\tn i s7.heap/\(∀b∈fp,H' b=Z7)/\W i m V H':=fun {Z z} U n7=>by
   obtain⟨m',hm,w7⟩:=hN Z z n7;refine{m',hm,i+1,Z,z,U.unpinned,T.keep _ _ _ dl fun b hb o e=>(U.pin (b,o) (bL _ (bL _ (pe hb e)))).1,fun b hb=>?_,w7};obtain⟨o,e,d⟩:=T.obj _ _ dl b hb;exact (U.pin (b,o) (bL _ (bL _ (pe hb e)))).2.1
  cases f with
  |next=>obtain⟨Z,z,U,n7⟩:=q7;exact again U n7
  |cont=>obtain⟨Z,z,U,n7⟩:=q7;exact again U n7
  |brk=>obtain⟨Z,z,U,q7⟩:=q7;exact⟨Z,z,U.unpinned,q7⟩
  |ret v=>obtain⟨x7,Z,z,U,r7,q7⟩:=q7;exact⟨x7,Z,z,U.unpinned,r7,q7⟩
end
theorem kx{K:ag}{g:TG}{tb:TS}{D:lD}(Z:Nat->St->Hp->Prop)(h0:Z 0 σ H)(z:∀i σ H,i<=xs.length->Z i σ H->SqL K H a xs)
  (hs:∀i x σ H,xs[i]?=Z8 x->Z i σ H->g x σ H fun Y H2=>tb {D with nx:=Z (i+1),ct:=Z (i+1),bk:=D.nx} Y H2) (I:∀σ H,Z xs.length σ H->D.nx σ H) :
  ∃W:Nat->Nat->St->Hp->Prop,(∃m,W 0 m σ H)/\∀i m σ H,W i m σ H ->
   ((Itl K a).stop i H/\D.nx σ H)\/((Itl K a).go i H/\∃N:St->Hp->Prop,(∀U H',N U H'->∃M,M<m/\W (i+1) M U H')/\∀x H',(Itl K a).yld i H x H'->g x σ H' fun Y H2=>tb {D with nx:=N,ct:=N,bk:=D.nx} Y H2):=by
 refine{fun i m σ H=>m=xs.length-i/\i<=xs.length/\Z i σ H,{xs.length,by simp,aW _,h0},?_};rintro i m σ H ⟨rfl,hi,p⟩;have q:=z i σ H hi p
 by_cases O:i<xs.length
 ·refine .inr {{xs,xs[i],q,by simp[O]},Z (i+1),fun U H' J=>{xs.length-(i+1),by omega,Z9,O,J},fun x H' y=>?_};obtain⟨e,y⟩:=y;subst e;exact hs i x σ _ (y xs q) p
 ·have e:i=xs.length:=by omega
  subst e;exact .inl {{xs,q,ay _},I σ H p}
theorem qZ{lo:Int}{g:TG}{tb:TS}{D:lD}(Y:Nat->St->Hp->Prop)(h0:Y 0 σ H)
  (hs:∀i σ H,i<n->Y i σ H->g (.int (lo+i)) σ H fun V H2=>tb {D with nx:=Y (i+1),ct:=Y (i+1),bk:=D.nx} V H2) (J:∀σ H,Y n σ H->D.nx σ H) :
  ∃W:Nat->Nat->St->Hp->Prop,(∃m,W 0 m σ H)/\∀i m σ H,W i m σ H ->
   ((Itr lo n).stop i H/\D.nx σ H)\/((Itr lo n).go i H/\∃N:St->Hp->Prop,(∀U H',N U H'->∃O,O<m/\W (i+1) O U H')/\∀x H',(Itr lo n).yld i H x H'->g x σ H' fun V H2=>tb {D with nx:=N,ct:=N,bk:=D.nx} V H2):=by
 refine{fun i m σ H=>m=n-i/\i<=n/\Y i σ H,{n,by simp,aW _,h0},?_};rintro i m σ H ⟨rfl,hi,p⟩
 by_cases Z:i<n
 ·refine .inr {Z,Y (i+1),fun U H' M=>{n-(i+1),by omega,Z9,Z,M},fun x H' y=>?_};obtain⟨e,y⟩:=y;subst e y;exact hs i σ _ Z p
 ·have e:i=n:=by omega
  subst e;exact .inl {ay _,J σ H p}
theorem A6(Y:St->Hp->Prop)(μ:St->Hp->Nat)(h0:Y σ H)
  (hs:∀σ H,Y σ H->c σ H fun b H1=>if b=true then tb {D with nx:=fun Z H'=>Y Z H'/\μ Z H'<μ σ H,ct:=fun Z H'=>Y Z H'/\μ Z H'<μ σ H,bk:=D.nx} σ H1 else D.nx σ H1)
  (mono:∀σ H Q W,(∀b H1,Q b H1->W b H1)->c σ H Q->c σ H W):HN c tb D σ H:=by
 refine{fun m σ H=>m=μ σ H/\Y σ H,{_,Z9,h0},?_};rintro m σ H ⟨rfl,p⟩;refine mono σ H _ _ (fun b H1 q=>?_) (hs σ H p)
 cases b with
 |true=>exact{_,fun Z H' ⟨V,l⟩=>{_,l,Z9,V},q}
 |false=>exact q
abbrev R2:=V->V->Hp->VK->Prop
def OpR(X:Cx)(f:af->af->Sem af)(r:R2):Prop:=
 ∀(pins:List (ae×Obj)) (s:ai) (σ:St) (H:Hp) (x y:V) (v u:af) (Q:VK),Inv X pins σ H s->RelV x v->RelV y u->r x y H Q ->
  aP #[4] X.A (f v u) (EP X pins σ Q) X.xe s
def UnR(X:Cx)(f:af->Sem af)(r:V->Hp->VK->Prop):Prop:=
 ∀(pins:List (ae×Obj)) (s:ai) (σ:St) (H:Hp) (x:V) (v:af) (Q:VK),Inv X pins σ H s->RelV x v->r x H Q ->
  aP #[4] X.A (f v) (EP X pins σ Q) X.xe s
def lE(X:Cx)(f:af)(r:List V->Hp->VK->Prop):Prop:=
 ∀(pins:List (ae×Obj)) (s:ai) (σ:St) (H:Hp) (xs:List V) (us:List af) (Q:VK),Inv X pins σ H s->cW xs us->r xs H Q ->
  aP #[4] X.A (vz f us) (EP X pins σ Q) X.xe s
def TruR(X:Cx)(r:V->Hp->(Bool->Hp->Prop)->Prop):Prop:=
 ∀(pins:List (ae×Obj)) (s:ai) (σ:St) (H:Hp) (x:V) (v:af) (Q:Bool->Hp->Prop),Inv X pins σ H s->RelV x v->r x H Q ->
  aP #[4] X.A (truthy v) (TP X pins σ Q) X.xe s
def tOp(r:R2)(ta tb:TE):TE:=fun σ H Q=>ta σ H fun x H1=>tb σ H1 fun y H2=>r x y H2 Q
def tUn(r:V->Hp->VK->Prop)(ta:TE):TE:=fun σ H Q=>ta σ H fun x H1=>r x H1 Q
inductive RI(C:Int->Int->Prop)(g:Int->Int->V)(x y:V)(H:Hp)(Q:VK):Prop where
 |mk(i j:Int)(hx:x=.int i)(hy:y=.int j)(c:C i j)(q:Q (g i j) H):RI C g x y H Q
def rI(C:Int->Int->Prop)(g:Int->Int->V):R2:=fun x y H Q=>RI C g x y H Q
inductive RI0(g:Int->Int->V)(x y:V)(H:Hp)(Q:VK):Prop where
 |mk(i j:Int)(hx:x=.int i)(hy:y=.int j)(q:Q (g i j) H):RI0 g x y H Q
def rI0(g:Int->Int->V):R2:=fun x y H Q=>RI0 g x y H Q
inductive RU(g:Int->V)(x:V)(H:Hp)(Q:VK):Prop where
 |mk(i:Int)(hx:x=.int i)(q:Q (g i) H):RU g x H Q
def rU(g:Int->V):V->Hp->VK->Prop:=fun x H Q=>RU g x H Q
section
variable{X:Cx}{a b c:cK}{ta tb tc:TE}{pos:Pos}
theorem P2(ha:PE X a ta)(hb:PE X b tb){σ:St}{R:V->V->Hp->Prop}(I:Inv X pins σ H s)
  (h:ta σ H fun x H1=>tb σ H1 fun y H2=>R x y H2)  {f:af->af->Sem af}
  (U:∀v u s2 x y H2,Inv X pins σ H2 s2->RelV x v->RelV y u->R x y H2->aP #[4] X.A (f v u) Q X.xe s2) :
  aP #[4] X.A (fY a X.env) (fun v Y=>aP #[4] X.A (fY b X.env) (fun u Z=>aP #[4] X.A (f v u) Q X.xe Z) X.xe Y) X.xe s:=by
 refine thn (ha pins s σ H _ I h) fun v J ⟨x,H1,z,t,M⟩=>?_;refine thn (hb pins J σ H1 _ z M) fun u s2 ⟨y,H2,O,W,D⟩=>?_;exact U v u s2 x y H2 O t W D
theorem cM(W:OpR X (ji op) r)(ha:PE X a ta)(hb:PE X b tb):PE X (.BinOp a op b pos) (tOp r ta tb):=by
 intro pins s σ H Q I h;exact wpAny_BinOp (P2 ha hb I h fun v u s2 x y H2 Y V Z q=>W pins s2 σ H2 x y v u Q Y V Z q)
theorem Ej(W:UnR X (unaryOp op) r)(ha:PE X a ta):PE X (.UnaryOp op a pos) (tUn r ta):=by
 intro pins s σ H Q I h;exact UnaryOp_ (thn (ha pins s σ H _ I h) fun v U ⟨x,H1,Z,O,Y⟩=>W pins U σ H1 x v Q Z O Y)
theorem opI{g:Int->Int->Int}
  (HX:∀(i j:Int) (t u:Tok) (s:ai) (Q:af->ai->Prop) (E:af->ai->Prop),C i j->Q (.int (g i j) s.toks) {s with toks:=s.toks+1}->aP #[4] X.A (f (.int i t) (.int j u)) Q E s) :
  OpR X f (rI C fun i j=>.int (g i j)):=by
 intro pins s σ H x y v u Q I Y Z h;obtain⟨i,j,rfl,rfl,hc,q⟩:=h;obtain⟨t,rfl⟩:=Y;obtain⟨t',rfl⟩:=Z;exact HX i j t t' s _ _ hc {.int (g i j),H,I.tok _,{_,Z9},q}
theorem opI0{g:Int->Int->Int}
  (HX:∀(i j:Int) (t u:Tok) (s:ai) (Q:af->ai->Prop) (E:af->ai->Prop),Q (.int (g i j) s.toks) {s with toks:=s.toks+1}->aP #[4] X.A (f (.int i t) (.int j u)) Q E s) :
  OpR X f (rI0 fun i j=>.int (g i j)):=by
 intro pins s σ H x y v u Q I Y Z h;obtain⟨i,j,rfl,rfl,q⟩:=h;obtain⟨t,rfl⟩:=Y;obtain⟨t',rfl⟩:=Z;exact HX i j t t' s _ _ {.int (g i j),H,I.tok _,{_,Z9},q}
theorem LH{g:Int->Int->Bool}
  (HX:∀(i j:Int) (t u:Tok) (s:ai) (Q:af->ai->Prop) (E:af->ai->Prop),Q (.bool (g i j)) s->aP #[4] X.A (f (.int i t) (.int j u)) Q E s) :
  OpR X f (rI0 fun i j=>.bl (g i j)):=by
 intro pins s σ H x y v u Q I Y Z h;obtain⟨i,j,rfl,rfl,q⟩:=h;obtain⟨t,rfl⟩:=Y;obtain⟨t',rfl⟩:=Z;exact HX i j t t' s _ _ {.bl (g i j),H,I,Z9,q}
def CDiv(i j:Int):Prop:=0<j/\j<1073741824
def Cg(i j:Int):Prop:=0<=j/\j<=1000000/\i.natAbs<2^64
def P3(i j:Int):Prop:=(-(2^64)<i/\i<2^64)\/(-(2^64)<j/\j<2^64)
theorem P3.ok(h:P3 i j):IntMulOk i j:=by
 rcases h with⟨h1,h2⟩|⟨h1,h2⟩
 ·exact .of_left (intBits_le_64 h1 h2)
 ·exact .of_right (intBits_le_64 h1 h2)
theorem ie:OpR X (ji .Add) (rI0 fun i j=>.int (i+j)):=opI0 fun _ _ _ _ _ _ _ q=>add_int q
theorem lP:OpR X (ji .Sub) (rI0 fun i j=>.int (i-j)):=opI0 fun _ _ _ _ _ _ _ q=>sub_int q
theorem r9:OpR X (ji .Mult) (rI P3 fun i j=>.int (i*j)):=opI fun _ _ _ _ _ _ _ hc q=>mul_int q hc.ok
theorem LI:OpR X (ji .FloorDiv) (rI CDiv fun i j=>.int (i/j)):=opI fun i j _ _ _ _ _ hc q=>by
 have h1:(0:Int)<j:=hc.1;have h2:j<1073741824:=hc.2;exact HY #[2] (by rw[zD i #[2]];exact q) (.inl (zE #[2]))
theorem sh:OpR X (ji .Mod) (rI (fun _ j=>0<j) fun i j=>.int (i%j)):=opI fun i j _ _ _ _ _ hc q=>by
 have h1:(0:Int)<j:=hc;exact mod_int' #[2] (by rw[Int.fmod_eq_emod_of_nonneg i #[2]];exact q)
theorem LJ:OpR X (ji .Mod) (rI (fun _ j=>j≠0) fun i j=>.int (i.fmod j)):=opI fun _ _ _ _ _ _ _ hc q=>mod_int' hc q
theorem sj:OpR X (ji .Pow) (rI Cg fun i j=>.int (i^j.toNat)):=opI fun _ _ _ _ _ _ _ hc q=>pow_int_small hc.1 hc.2.1 hc.2.2 q
theorem unI{g:Int->Int}
  (HX:∀(i:Int) (t:Tok) (s:ai) (Q:af->ai->Prop) (E:af->ai->Prop),Q (.int (g i) s.toks) {s with toks:=s.toks+1}->aP #[4] X.A (f (.int i t)) Q E s) :
  UnR X f (rU fun i=>.int (g i)):=by
 intro pins s σ H x v Q I Z h;obtain⟨i,rfl,q⟩:=h;obtain⟨t,rfl⟩:=Z;exact HX i t s _ _ {.int (g i),H,I.tok _,{_,Z9},q}
theorem zF:UnR X (unaryOp .USub) (rU fun i=>.int (-i)):=unI fun _ _ _ _ _ q=>neg_int q
end
def scal:V->V->Bool
 |.non,.non=>true|.non,.int _=>true|.int _,.non=>true|.non,.bl _=>true|.bl _,.non=>true|.non,.str _=>true|.str _,.non=>true
 |.int _,.int _=>true|.bl _,.bl _=>true|.str _,.str _=>true|.byt _,.byt _=>true
 |.int _,.str _=>true|.str _,.int _=>true|.bl _,.str _=>true|.str _,.bl _=>true
 |_,_=>false
def rEq:R2:=fun x y H Q=>scal x y=true/\Q (.bl (decide (x=y))) H
def rNe:R2:=fun x y H Q=>scal x y=true/\Q (.bl (!decide (x=y))) H
theorem Ek:decide (V.int i=V.int j)=(i==j):=by
 rw[qv];simp
theorem HZ:decide (V.bl i=V.bl j)=(i==j):=by
 rw[qv];simp
theorem El:decide (V.str i=V.str j)=(i==j):=by
 rw[qv];simp
theorem Em:decide (V.byt i=V.byt j)=(i.toList==j.toList):=by
 rw[qv]
 cases i
 cases j;simp
section
variable{X:Cx}{a b c:cK}{ta tb tc:TE}{pos:Pos}
theorem fc{σ:St}(I:Inv X pins σ H s)(q:Q (.bl k) H)(e:k=Z):EP X pins σ Q (.bool Z) s:=by
 subst e;exact{.bl k,H,I,Z9,q}
theorem ff:OpR X (eB .Eq) rEq:=by
 intro pins s σ H x y v u Q I Y Z h;obtain⟨hs,q⟩:=h
 cases x with
 |non=>
  cases Y
  cases y with
  |non=>cases Z;exact PySem.EqNone.eq_none_none (fc I q #[5])
  |bl j=>cases Z;exact PySem.EqNone.eq_none_bool (fc I q #[5])
  |int j=>obtain⟨t',rfl⟩:=Z;exact PySem.EqNone.eq_none_int (fc I q #[5])
  |str j=>obtain⟨t',rfl⟩:=Z;exact PySem.EqNone.eq_none_str (fc I q #[5])
  |_=>exact absurd (show false=true from hs) aT
 |bl i=>
  cases Y
  cases y with
  |non=>cases Z;exact PySem.EqNone.eq_bool_none (fc I q #[5])
  |bl j=>cases Z;exact eq_bool (fc I q HZ)
  |str j=>obtain⟨t',rfl⟩:=Z;exact PySem.EqMixed.eq_bool_str (fc I q #[5])
  |_=>exact absurd (show false=true from hs) aT
 |int i=>
  obtain⟨t,rfl⟩:=Y
  cases y with
  |non=>cases Z;exact PySem.EqNone.eq_int_none (fc I q #[5])
  |int j=>obtain⟨t',rfl⟩:=Z;exact eq_int (fc I q Ek)
  |str j=>obtain⟨t',rfl⟩:=Z;exact PySem.EqMixed.eq_int_str (fc I q #[5])
  |_=>exact absurd (show false=true from hs) aT
 |str i=>
  obtain⟨t,rfl⟩:=Y
  cases y with
  |non=>cases Z;exact PySem.EqNone.eq_str_none (fc I q #[5])
  |bl j=>cases Z;exact PySem.EqMixed.eq_str_bool (fc I q #[5])
  |int j=>obtain⟨t',rfl⟩:=Z;exact PySem.EqMixed.eq_str_int (fc I q #[5])
  |str j=>obtain⟨t',rfl⟩:=Z;exact eq_str (fc I q El)
  |_=>exact absurd (show false=true from hs) aT
 |byt i=>
  obtain⟨t,rfl⟩:=Y
  cases y with
  |byt j=>obtain⟨t',rfl⟩:=Z;exact PySem.W.eq_bytes (fc I q Em)
  |_=>exact absurd (show false=true from hs) aT
 |_=>cases y<;>exact absurd (show false=true from hs) aT
theorem Oi:OpR X (eB .NotEq) rNe:=by
 intro pins s σ H x y v u Q I Y Z h;obtain⟨hs,q⟩:=h
 cases x with
 |non=>
  cases Y
  cases y with
  |non=>cases Z;exact PySem.EqNone.ne_none_none (fc I q #[5])
  |bl j=>cases Z;exact PySem.EqNone.ne_none_bool (fc I q #[5])
  |int j=>obtain⟨t',rfl⟩:=Z;exact PySem.EqNone.ne_none_int (fc I q #[5])
  |str j=>obtain⟨t',rfl⟩:=Z;exact PySem.EqNone.ne_none_str (fc I q #[5])
  |_=>exact absurd (show false=true from hs) aT
 |bl i=>
  cases Y
  cases y with
  |non=>cases Z;exact PySem.EqNone.ne_bool_none (fc I q #[5])
  |bl j=>cases Z;exact ne_bool (fc I q (congrArg not HZ))
  |str j=>obtain⟨t',rfl⟩:=Z;exact PySem.EqMixed.ne_bool_str (fc I q #[5])
  |_=>exact absurd (show false=true from hs) aT
 |int i=>
  obtain⟨t,rfl⟩:=Y
  cases y with
  |non=>cases Z;exact PySem.EqNone.ne_int_none (fc I q #[5])
  |int j=>obtain⟨t',rfl⟩:=Z;exact ne_int (fc I q (congrArg not Ek))
  |str j=>obtain⟨t',rfl⟩:=Z;exact PySem.EqMixed.ne_int_str (fc I q #[5])
  |_=>exact absurd (show false=true from hs) aT
 |str i=>
  obtain⟨t,rfl⟩:=Y
  cases y with
  |non=>cases Z;exact PySem.EqNone.ne_str_none (fc I q #[5])
  |bl j=>cases Z;exact PySem.EqMixed.ne_str_bool (fc I q #[5])
  |int j=>obtain⟨t',rfl⟩:=Z;exact PySem.EqMixed.ne_str_int (fc I q #[5])
  |str j=>obtain⟨t',rfl⟩:=Z;exact ne_str (fc I q (congrArg not El))
  |_=>exact absurd (show false=true from hs) aT
 |byt i=>
  obtain⟨t,rfl⟩:=Y
  cases y with
  |byt j=>obtain⟨t',rfl⟩:=Z;exact PySem.W.ne_bytes (fc I q (congrArg not Em))
  |_=>exact absurd (show false=true from hs) aT
 |_=>cases y<;>exact absurd (show false=true from hs) aT
theorem rK:OpR X (eB .Lt) (rI0 fun i j=>.bl (decide (i<j))):=LH fun _ _ _ _ _ _ _ q=>lt_int q
theorem op_le:OpR X (eB .LtE) (rI0 fun i j=>.bl (decide (i<=j))):=LH fun _ _ _ _ _ _ _ q=>le_int q
theorem rL:OpR X (eB .Gt) (rI0 fun i j=>.bl (decide (j<i))):=LH fun _ _ _ _ _ _ _ q=>gt_int q
theorem op_ge:OpR X (eB .GtE) (rI0 fun i j=>.bl (decide (j<=i))):=LH fun _ _ _ _ _ _ _ q=>ge_int q
theorem H9(b:cK){op:RN}(h:op≠.In:=by decide)(h2:op≠.NotIn:=by decide):kN op b=false:=by
 have Z:(op==CmpOp.In)=false:=by cases op<;>first|rfl|exact absurd rfl h
 have Y:(op==CmpOp.NotIn)=false:=by cases op<;>first|rfl|exact absurd rfl h2
 cases b<;>simp[kN,Z,Y]
theorem vP{op:RN}{r:R2}(W:OpR X (eB op) r)(ha:PE X a ta)(hb:PE X b tb)(U:kN op b=false:=by first|exact H9 _|rfl):PE X (.Compare a [op] [b] pos) (tOp r ta tb):=by
 intro pins s σ H Q I h;exact wpAny_Compare1 (P2 ha hb I h fun v u s2 x y H2 Y V Z q=>W pins s2 σ H2 x y v u Q Y V Z q) U
def tTest(t:TE):TT:=fun σ H Q=>t σ H fun x H'=>BlI x H' Q
theorem bO{op:RN}{r:R2}(O:OpR X (eB op) r)(ha:PE X a ta)(hb:PE X b tb)(hm:kN op b=false:=by first|exact H9 _|rfl):PT X (.Compare a [op] [b] pos) (tTest (tOp r ta tb)):=by
 intro pins s σ H Q I h;refine Lq (thn (ha pins s σ H _ I h) fun v M ⟨x,H1,t,r1,U⟩=>thn (hb pins M σ H1 _ t U) fun u s2 ⟨y,H2,W,Z,D⟩=>
  thn (O pins s2 σ H2 x y v u _ W r1 Z D) fun c s3 ⟨z,J,Y,g,k,e,V⟩=>?_) hm
 subst e
 cases g;exact j1 ⟨J,Y,V⟩
def TruV(K:ag)(x:V)(H:Hp)(k:Bool):Prop:=
 match x with
 |.non=>k=false
 |.bl b=>k=b
 |.int i=>k=(i != 0)
 |.str y=>y.length<=aD/\k=((y.length:Int) != 0)
 |.byt y=>y.size<=aD/\k=((y.size:Int) != 0)
 |.ref p=>(∃xs,SqL K H p xs/\k=!xs.isEmpty)\/(∃xs,SqT K H p xs/\k=!xs.isEmpty)\/∃kvs,H p=Z8 (.dK kvs)/\k=!kvs.isEmpty
 |_=>False
theorem Cj{κ:Type}{kvs:List (κ×V)}{vs:List (κ×af)}(r:KV kvs vs):(!vs.isEmpty)=!kvs.isEmpty:=by
 cases r<;>rfl
theorem wU(r:cW xs Z):(!Z.toArray.isEmpty)=!xs.isEmpty:=by
 cases r<;>simp
theorem uo:(aD:Nat)<2^63:=by rw[nA];decide
theorem P4:TruR X (fun x H Q=>∃k,TruV X.K x H k/\Q k H):=by
 intro pins s σ H x v Q I V h;obtain⟨k,e,q⟩:=h;have M:=uo;have hs:aD=16777216:=nA
 cases x with
 |non=>
  cases V;have Z:k=false:=e;subst Z;exact truthy_none ⟨H,I,q⟩
 |bl b=>
  cases V;have Z:k=b:=e;subst Z;exact j1 ⟨H,I,q⟩
 |int i=>
  obtain⟨t,rfl⟩:=V;have Z:k=(i != 0):=e;subst Z;exact PySem.P.truthy_int ⟨H,I,q⟩
 |str y=>
  obtain⟨t,rfl⟩:=V;obtain⟨hy,Z⟩:y.length<=aD/\k=((y.length:Int) != 0):=e;subst Z;exact PySem.P.truthy_str #[2] {H,I.tok _,q}
 |byt y=>
  obtain⟨t,rfl⟩:=V;obtain⟨hy,Z⟩:y.size<=aD/\k=((y.size:Int) != 0):=e;subst Z;exact PySem.W.truthy_bytes #[2] {H,I.tok _,q}
 |ref p=>
  cases V;have Z:(∃xs,SqL X.K H p xs/\k=!xs.isEmpty)\/(∃xs,SqT X.K H p xs/\k=!xs.isEmpty)\/∃kvs,H p=Z8 (.dK kvs)/\k=!kvs.isEmpty:=e
  rcases Z with⟨xs,hx,Z⟩|⟨xs,hx,Z⟩|⟨kvs,hx,Z⟩
  ·subst Z;obtain⟨U,r,pl,hz⟩:=I.list hx;have Y:=r.length;exact wpAny_truthy_list pl.isList (by simp only[aH];omega) {H,I.tok _,by rw[wU r];exact q}
  ·subst Z;obtain⟨U,r,pl,hz⟩:=I.tuple hx;have Y:=r.length;exact truthy_tuple pl (by simp only[aH];omega) {H,I.tok _,by rw[wU r];exact q}
  ·subst Z;obtain⟨hz,O,vs,r,m⟩:kvs.length<=aD/\(p==eF)=false/\∃vs,KV kvs vs/\s.heap.DictOf (cP X.prog X.w) p vs:=I.hok p _ hx;have Y:kvs.length=vs.length:=aL r;exact wpAny_truthy_dict O m #[2] {H,I.tok _,by rw[Cj r];exact q}
 |_=>exact (show False from e).elim
theorem wV(ha:PE X a ta)(W:∀Z,HG a X.env Z=(do let v <- Z;x6 a.pos;qb [v] (truthy v))) :
  PT X a (fun σ H Q=>ta σ H fun x H'=>∃k,TruV X.K x H' k/\Q k H'):=by
 intro pins s σ H Q I h;exact isTrue_plain (thn (ha pins s σ H _ I h) fun v U ⟨x,H1,Y,O,V⟩=>P4 pins U σ H1 x v Q Y O V) (W _)
theorem wW:OpR X (ji .Add) (fun x y H Q=>∃i j,x=.str i/\y=.str j/\i.length+j.length<=aD/\Q (.str (i++j)) H):=by
 intro pins s σ H x y v u Q I Y Z h;obtain⟨i,j,rfl,rfl,hz,q⟩:=h;obtain⟨t,rfl⟩:=Y;obtain⟨t',rfl⟩:=Z;exact add_str (fun t' tk=>{.str (i++j),H,I.tok _,{_,Z9},q}) hz
theorem vals1(r:cW [x] us):∃u,us=[u]/\RelV x u:=by
 cases r with
 |cons Y Z=>cases Z;exact{_,Z9,Y}
theorem vals2(r:cW [x,y] us):∃u Z,us=[u,Z]/\RelV x u/\RelV y Z:=by
 cases r with
 |cons O Y=>
  cases Y with
  |cons U W=>cases W;exact{_,_,Z9,O,U}
theorem Ia:lE X (.builtin "abs") (fun xs H Q=>∃i,xs=[.int i]/\Q (.int (if i<0 then -i else i)) H):=by
 intro pins s σ H xs us Q I r h;obtain⟨i,rfl,q⟩:=h;obtain⟨u,rfl,t,rfl⟩:=vals1 r;exact call_abs_int fun u tk=>{.int (if i<0 then -i else i),H,I.tok _,{_,Z9},q}
theorem yB(hc:X.calm=true):lE X (.builtin "max") (fun xs H Q=>∃i j,xs=[.int i,.int j]/\Q (.int (if j>i then j else i)) H):=by
 intro pins s σ H xs us Q I r h;obtain⟨i,j,rfl,q⟩:=h;obtain⟨u,Y,rfl,⟨t,rfl⟩,⟨t',rfl⟩⟩:=vals2 r;refine max_two_ints (I.ok.hd hc) fun h' tk k=>{_,H,I.kept k,?_,q}
 by_cases Z:j>i
 ·rw[if_pos Z,if_pos Z];exact{_,Z9}
 ·rw[if_neg Z,if_neg Z];exact{_,Z9}
theorem FK(hc:X.calm=true):lE X (.builtin "min") (fun xs H Q=>∃i j,xs=[.int i,.int j]/\Q (.int (if j<i then j else i)) H):=by
 intro pins s σ H xs us Q I r h;obtain⟨i,j,rfl,q⟩:=h;obtain⟨u,Y,rfl,⟨t,rfl⟩,⟨t',rfl⟩⟩:=vals2 r;refine min_two_ints (I.ok.hd hc) fun h' tk k=>{_,H,I.kept k,?_,q}
 by_cases Z:j<i
 ·rw[if_pos Z,if_pos Z];exact{_,Z9}
 ·rw[if_neg Z,if_neg Z];exact{_,Z9}
theorem q5:lE X (.type "int") (fun xs H Q=>(∃i,xs=[.int i]/\Q (.int i) H)\/∃k,xs=[.bl k]/\Q (.int (if k then 1 else 0)) H):=by
 intro pins s σ H xs us Q I r h
 rcases h with⟨i,rfl,q⟩|⟨k,rfl,q⟩
 ·obtain⟨u,rfl,t,rfl⟩:=vals1 r;exact call_int_int {.int i,H,I,{_,Z9},q}
 ·obtain⟨u,rfl,Z⟩:=vals1 r
  cases Z;exact call_int_bool {.int (if k then 1 else 0),H,I.tok _,{_,Z9},q}
end
structure Ck(h:cb)(x dx C:ae)(mA:Str->Option af):Prop where
 obj:h.get? x=Z8 (ik C dx)
 ns:h.Ns1 dx mA
 ne:dx≠x
theorem FL{h:cb}(n:h.Ns1 dx mA):∃od,h.get? dx=Z8 od/\∀name,qx name od=Z8 (mA name):=by
 obtain⟨o,es,ep,W,V,hk,_,U⟩:=n;refine{o,W,fun name=>?_};have e:=U name;unfold nsFind findBy at e;rw[<- Array.find?_toList]at e;unfold qx;rw[V];dsimp only
 split
 ·rename_i y q
  rw[q]at e;exact congrArg Z8 e
 ·rename_i q
  rw[q]at e;have a:es.toList.any (·.refKey)=false:=by
   rw[List.any_eq_false];intro y hy;obtain⟨z,t,Z⟩:=hk y (Array.mem_toList_iff.mp hy);simp[DictEntry.refKey,Z]
  have Y:¬es.toList.any (·.refKey)=true:=by rw[a];exact aT
  rw[if_neg Y];exact congrArg Z8 e
theorem Ck.look(I:Ck h x dx C mA):∃od,wX h x (ik C dx) C (Z8 od)/\∀name,qx name od=Z8 (mA name):=
 let ⟨od,Z,Y⟩:=FL I.ns
 {od,⟨I.obj,Z9,Z9,Z⟩,Y}
section
variable{prog:aI}{w:aY}{A:bJ}{E:af->ai->Prop}{s:ai}{K:ag}{x dx C f:ae}{mA:Str->Option af}{name:Str}{v:af}
theorem LK(X:K.In s.heap)(I:Ck s.heap x dx C mA)(O:oH K C name=true)(V:tD K C=true)
  (ha:aZ K (.ref C) name=Z8 Z7) (hv:mA name=Z8 v) (Y:FM v=true) (h:Q v {s with toks:=s.toks+1}) :
  aP (aS prog w) A (getAttr (.ref x) name Z) Q E s:=by
 obtain⟨od,J,U⟩:=I.look;exact PySem.W.get_value X J (rD O).1 (PySem.W.findObj_own V ha rfl (by rw[U,hv])) Y h
theorem Ib(X:K.In s.heap)(I:Ck s.heap x dx C mA)(Z:oH K C name=true)
  (Y:aZ K (.ref C) name=Z8 (Z8 (.ref f))) (ht:pj K (.ref f)=true) (hv:mA name=Z7) (h:Q (.ref f,[.ref x]) s) :
  aP (aS prog w) A (o5 (.ref x) name pl) Q E s:=by
 obtain⟨od,J,V⟩:=I.look;exact PySem.W.method_fn X J (rD Z).1 (rD Z).2 Y (beq_iff_eq.mp ht) (by show (qx name od).map (·.isSome)=Z8 false;rw[V,hv];rfl) h
theorem LL(X:K.In s.heap)(I:Ck s.heap x dx C mA)
  (hs:aZ K (.ref C) "__setattr__"=Z8 (Z8 (.builtin "object.__setattr__"))) (hp:En K C=true) (ht:vA K C name=Z8 Z7) (z:tD K C=true)
  (hw:A2 mA ns) (hsz:ns.length<=aD)
  (h:∀h',Ck h' x dx C (fun y=>if y=name then Z8 v else mA y)->gU dx s.heap h'->Q () {s with heap:=h',toks:=s.toks+2}) :
  aP (aS prog w) A (setAttr (.ref x) name v) Q E s:=by
 obtain⟨od,J,hl⟩:=I.look;refine PySem.W.set_plain X J hs (PySem.W.osa_open (s:={s with toks:=s.toks+1}) (r:=Z7) X J hp ht fun b=>?_);obtain⟨cd,hc,M⟩:=PySem.W.any_some z;have hx:s.heap.get? x=Z8 {.ref C,Z8 dx,.plain,#[]}:=I.obj;refine aa (ax (aa (aa (wpAny_loadPart hx (aa (PySem.W.Looks.here (s:={s with toks:=s.toks+1}) (PySem.W.looks_clsIn X hc) ?_))))));rw[M];refine ax (a:=Z8 dx) (aa (ax (aa ?_)));refine wpAny_nsSet1 (s:={s with toks:=s.toks+1}) I.ns fun h' Z Y=>?_;obtain⟨g,t,D,U,O,V⟩:=Z.count (PySem.Within.cons name v hw);refine aa (wpAny_lookBehind U (by rw[O];exact pastItsLine_dict (cZ V (by rw[aX];omega))) ?_);exact ax (h _ {(Y.2 _ (fb I.ne)).trans I.obj,Z,I.ne} Y)
theorem Ic(X:K.In s.heap)(V:vB K C=true)
  (hi:aZ K (.ref C) "__init__"=Z8 (Z8 (.ref f))) (Y:Ie K (.ref f)=Z8 (.type "function"))
  (h:kS (aS prog w) (A.under (.builtin "type.__call__" {.ref C::vs,Z})) (.call (.ref f) {.ref (s.heap.objs.size+1)::vs,Z}) (PySem.W.InitBack (s.heap.objs.size+1) R)
   {s with heap:=(s.heap.push fj).push (ik C s.heap.objs.size)}) :
  kS (aS prog w) A (.call (.ref C) ⟨vs,Z⟩) R s:=by
 obtain⟨O,g,d,t,U⟩:=s;exact PySem.W.make_core (PySem.W.makes_of X V) (lF X hi) (fun self=>PySem.W.bind_fn X self Y) (.inl rfl) h
end
def dO(f:Str)(v:V):List (Str×V)->List (Str×V)
 | []=>[(f,v)]
 |(g,x)::r=>if g=f then (g,v)::r else (g,x)::dO f v r
theorem uW(f g:Str)(v:V):∀fs:List (Str×V),(dO f v fs).lookup g=if g=f then Z8 v else fs.lookup g
 | []=>by
  show lW g [(f,v)]=_
  by_cases h:g=f
  ·have hb:(g==f)=true:=beq_iff_eq.mpr h;simp only[lW,hb,if_pos h]
  ·have hb:(g==f)=false:=beq_eq_false_iff_ne.mpr h;simp only[lW,hb,if_neg h]
 |(k,x)::r=>by
  have Z:=uW f g v r;rw[show dO f v ((k,x)::r)=(if k=f then (k,v)::r else (k,x)::dO f v r) from rfl]
  by_cases hk:k=f
  ·rw[if_pos hk]
   by_cases h:g=k
   ·have hb:(g==k)=true:=beq_iff_eq.mpr h;simp only[lW,hb,if_pos (h.trans hk)]
   ·have hb:(g==k)=false:=beq_eq_false_iff_ne.mpr h;simp only[lW,hb,if_neg (fun e:g=f=>h (e.trans hk.symm))]
  ·rw[if_neg hk]
   by_cases h:g=k
   ·have hb:(g==k)=true:=beq_iff_eq.mpr h;simp only[lW,hb,if_neg (fun e:g=f=>hk (h.symm.trans e))]
   ·have hb:(g==k)=false:=beq_eq_false_iff_ne.mpr h;simp only[lW,hb];exact Z
theorem uq(f:Str)(v:V):∀fs:List (Str×V),f∈(dO f v fs).map (·.1)/\∀g,g∈fs.map (·.1)->g∈(dO f v fs).map (·.1)
 | []=>{by simp[dO],fun g h=>by simp at h}
 |(k,x)::r=>by
  obtain⟨Z,Y⟩:=uq f v r;rw[show dO f v ((k,x)::r)=(if k=f then (k,v)::r else (k,x)::dO f v r) from rfl]
  by_cases hk:k=f
  ·rw[if_pos hk];subst hk;exact{by simp,fun g h=>by simpa using h}
  ·rw[if_neg hk];refine{?_,fun g h=>?_}
   ·rw[bK];exact aj _ Z
   ·rw[bK]at h |-
    rcases aq.mp h with e|e
    ·exact aq.mpr (.inl e)
    ·exact aj _ (Y g e)
theorem uX(f:Str)(v:V):∀fs:List (Str×V),(dO f v fs).length<=fs.length+1
 | []=>by simp[dO]
 |(k,x)::r=>by
  have Z:=uX f v r;rw[show dO f v ((k,x)::r)=(if k=f then (k,v)::r else (k,x)::dO f v r) from rfl]
  by_cases hk:k=f
  ·rw[if_pos hk,aX,aX];omega
  ·rw[if_neg hk,aX,aX];omega
theorem p5.some_of(r:p5 (Z8 v) o):∃u,o=Z8 u/\RelV v u:=by
 cases o with
 |none=>exact (show False from r).elim
 |some u=>exact⟨u,Z9,r⟩
theorem p5.none_of(r:p5 Z7 o):o=Z7:=by
 cases o with
 |none=>rfl
 |some u=>exact (show False from r).elim
theorem FN(r:RelV v u):FM u=true:=by
 cases v with
 |non=>cases (show u=Value.none from r);rfl
 |bl b=>cases (show u=Value.bool b from r);rfl
 |int i=>obtain⟨t,e⟩:=(show ∃t,u=Value.int i t from r);cases e;rfl
 |str x=>obtain⟨t,e⟩:=(show ∃t,u=Value.str x t from r);cases e;rfl
 |byt b=>obtain⟨t,e⟩:=(show ∃t,u=Value.bytes b t from r);cases e;rfl
 |flt b=>obtain⟨t,e⟩:=(show ∃t,u=Value.float b t from r);cases e;rfl
 |ref a=>cases (show u=Value.ref a from r);rfl
 |ty n=>cases (show u=Value.type n from r);rfl
section
variable{P:aI}{w:aY}{H H':Hp}{h h':cb}{a C dx:ae}{fs fs':List (Str×V)}
theorem vQ(Z:HOk P w H h)(e:H a=Z8 (.ins C dx fs)):∃mA,Ck h a dx C mA/\(∀f,p5 (fs.lookup f) (mA f))/\A2 mA (fs.map (·.1))/\fs.length<=1000/\H dx=Z8 (.own a):=by
 obtain⟨d,z,ne,Y,mA,n,r,q⟩:=(show dZ P w H h a (.ins C dx fs) from Z a _ e);exact{mA,⟨Y,n,ne⟩,r,q,z,d}
end
structure Cls(K:ag)(C:ae):Prop where
 pg:oH K C Str.empty=true
 hd:tD K C=true
 po:En K C=true
 sa:aZ K (.ref C) "__setattr__"=Z8 (Z8 (.builtin "object.__setattr__"))
theorem Cls.get{K:ag}(c:Cls K C)(f:Str):oH K C f=true:=c.pg
def fk(K:ag)(C:ae)(f:Str):Prop:=aZ K (.ref C) f=Z8 Z7
theorem fk.taker{K:ag}(n:fk K C f):vA K C f=Z8 Z7:=by
 unfold vA;rw[show aZ K (.ref C) f=Z8 Z7 from n];rfl
structure zG(K:ag)(C:ae)(m:Str)(f:ae):Prop where
 at_:aZ K (.ref C) m=Z8 (Z8 (.ref f))
 fn:pj K (.ref f)=true
 kp:gX K (.ref f)=true
section
variable{X:Cx}{pins:List (ae×Obj)}{σ:St}{H:Hp}{s:ai}{a C dx:ae}{fs:List (Str×V)}{f:Str}{v:V}{A:bJ}{E:af->ai->Prop}
theorem wY(I:Inv X pins σ H s)(e:H a=Z8 (.ins C dx fs))(c:Cls X.K C)(n:fk X.K C f)(l:fs.lookup f=Z8 v)
  (h:∀u s',Inv X pins σ H s'->RelV v u->Q u s'):aP #[4] A (getAttr (.ref a) f b) Q E s:=by
 obtain⟨mA,O,r,_,_,_⟩:=vQ I.hok e;obtain⟨u,hu,Z⟩:=p5.some_of (v:=v) (o:=mA f) (by rw[<- l];exact r f);exact LK I.kIn O (c.get f) c.hd n hu (FN Z) (h u _ (I.tok _) Z)
theorem sy(I:Inv X pins σ H s)(e:H a=Z8 (.ins C dx fs))(c:Cls X.K C)(k:zG X.K C m g)(l:fs.lookup m=Z7)
  (h:Q (.ref g,[.ref a]) s):aP #[4] A (o5 (.ref a) m pl) Q E s:=by
 obtain⟨mA,O,r,_,_,_⟩:=vQ I.hok e;have Z:mA m=Z7:=p5.none_of (by rw[<- l];exact r m);exact Ib I.kIn O (c.get m) k.at_ k.fn Z h
theorem wZ(I:Inv X pins σ H s)(e:H a=Z8 (.ins C dx fs))(c:Cls X.K C)(n:fk X.K C f)(hl:fs.length<1000)(U:RelV y u)
  (h:∀s',Inv X pins σ (upd H a (.ins C dx (dO f y fs))) s'->Q () s'):aP #[4] A (setAttr (.ref a) f u) Q E s:=by
 obtain⟨mA,O,r,W,_,Y⟩:=vQ I.hok e;have hz:(fs.map (·.1)).length<=aD:=by rw[ah,nA];omega
 refine LL I.kIn O c.sa c.po n.taker c.hd W hz fun h' Z J=>h _ ?_;have t:∃o,h'.get? dx=Z8 o:=let ⟨o,_,_,D,_⟩:=Z.ns;⟨o,D⟩;refine I.write (x:=a) (e:=dx) (by rw[e];exact True.intro) (.inr Y) (fun b q hb z=>(J.2 b hb).trans z) t ?_;refine{by rw[aQ O.ne];exact Y,?_,O.ne,Z.obj,_,Z.ns,fun g=>?_,fun g M=>?_}
 ·have:=uX f y fs;omega
 ·show p5 ((dO f y fs).lookup g) (if g=f then Z8 u else mA g);rw[uW]
  by_cases q:g=f
  ·rw[if_pos q,if_pos q];exact U
  ·rw[if_neg q,if_neg q];exact r g
 ·by_cases q:g=f
  ·rw[q];exact (uq f y fs).1
  ·refine (uq f y fs).2 g (W g fun z=>M ?_);show (if g=f then Z8 u else mA g)=Z7;rw[if_neg q];exact z
theorem Inv.made(I:Inv X pins σ H s):Inv X pins σ (upd (upd H s.heap.objs.size (.own (s.heap.objs.size+1))) (s.heap.objs.size+1) (.ins C s.heap.objs.size []))
  {s with heap:=(s.heap.push fj).push (ik C s.heap.objs.size)}:=by
 have Z:(s.heap.push fj).get? s.heap.objs.size=Z8 fj:=aU s.heap rfl;have V:((s.heap.push fj).push (ik C s.heap.objs.size)).get? (s.heap.objs.size+1)=Z8 (ik C s.heap.objs.size):=by
  have:=aU (s.heap.push fj) (o:=ik C s.heap.objs.size) rfl
  rwa[gB]at this
 have e3:(s.heap.push fj).Ns s.heap.objs.size (fun _=>Z7):={fj,#[],_,Z,Z9,(fun e W=>absurd W #[5]),fun _=>rfl};have Y:=I.laid (a:=s.heap.objs.size) (o:=.own (s.heap.objs.size+1)) (h':=s.heap.push fj) (t':=s.toks) (fun b u q=>aE _ q) (ay _) {_,Z};refine Y.laid (a:=s.heap.objs.size+1) (o:=.ins C s.heap.objs.size []) (t':=s.toks) (fun b u q=>aE _ q) (Nat.le_of_eq (gB _ _)) ?_;have ne:s.heap.objs.size≠s.heap.objs.size+1:=aM (ia _);refine{by rw[aQ ne,ak],aW _,ne,V,fun _=>Z7,(Heap.Ns1.of_empty e3).at fun o q=>aE _ q,fun _=>True.intro,fun y hy=>absurd rfl hy}
theorem LM(hb:nr e f env (fY e env)=fY e env)
  (h:aP (aS prog w) A (fY e env) (fun o Z=>aP (aS prog w) A (getAttr o f true) Q E Z) E s):aP (aS prog w) A (fY (.Attribute e f pos) env) Q E s:=
 Attribute_any_ h (by rw[arm_eval_Attribute,hb])
end
inductive FldI(K:ag)(f:Str)(x:V)(H:Hp)(Q:VK):Prop where
 |mk(a C dx:ae)(fs:List (Str×V))(v:V)(hx:x=.ref a)(h:H a=Z8 (.ins C dx fs))(c:Cls K C)(n:fk K C f)(e:fs.lookup f=Z8 v)(q:Q v H):FldI K f x H Q
def P5(K:ag)(ta:TE)(f:Str):TE:=fun σ H Q=>ta σ H fun x H1=>FldI K f x H1 Q
inductive Oj(K:ag)(f:Str)(x y:V)(H:Hp)(R:Hp->Prop):Prop where
 |mk(a C dx:ae)(fs:List (Str×V))(hx:x=.ref a)(h:H a=Z8 (.ins C dx fs))(c:Cls K C)(n:fk K C f)(l:fs.length<1000)(q:R (upd H a (.ins C dx (dO f y fs)))):Oj K f x y H R
def sFld(K:ag)(ta tv:TE)(f:Str):TS:=fun D σ H=>tv σ H fun y H1=>ta σ H1 fun x H2=>Oj K f x y H2 (D.nx σ)
def InOp(X:Cx)(op:LF)(Z:V->V->Hp->VK->Prop):Prop:=
 ∀(pins:List (ae×Obj)) (s:ai) (σ:St) (H:Hp) (x y:V) (u v:af) (Q:VK),Inv X pins σ H s->RelV x u->RelV y v->Z x y H Q->aP #[4] X.A (inplaceOp op u v) (EP X pins σ Q) X.xe s
inductive Ol(K:ag)(f:Str)(x:V)(H:Hp)(R:ae->ae->V->Prop):Prop where
 |mk(a C dx:ae)(fs:List (Str×V))(v:V)(hx:x=.ref a)(h:H a=Z8 (.ins C dx fs))(c:Cls K C)(n:fk K C f)(l:fs.lookup f=Z8 v)(q:R a C v):Ol K f x H R
inductive Om(f:Str)(a C:ae)(z:V)(H:Hp)(R:Hp->Prop):Prop where
 |mk(dx:ae)(fs:List (Str×V))(h:H a=Z8 (.ins C dx fs))(l:fs.length<1000)(q:R (upd H a (.ins C dx (dO f z fs)))):Om f a C z H R
def LN(K:ag)(ta tv:TE)(Z:V->V->Hp->VK->Prop)(f:Str):TS:=fun D σ H=>ta σ H fun x H1=>Ol K f x H1 fun a C v=>tv σ H1 fun y H2=>Z v y H2 fun z Y=>Om f a C z Y (D.nx σ)
section
variable{X:Cx}{o e value:cK}{f:Str}{pos pos' tpos:Pos}{ta tv:TE}
theorem cX(Y:PE X e ta)(hb:nr e f X.env (fY e X.env)=fY e X.env):PE X (.Attribute e f pos) (P5 X.K ta f):=by
 intro pins s σ H Q I h;refine LM hb (thn (Y pins s σ H _ I h) fun u J ⟨x,H1,Z,O,a,C,dx,fs,v,ex,W,c,n,l,q⟩=>?_);subst ex;obtain rfl:u=Value.ref a:=O;exact wY Z W c n l fun M s2 V U=>⟨v,H1,V,U,q⟩
theorem gD(ha:PE X o ta)(hv:PE X value tv)(hs:mE value (Z8 (.Attribute o f pos')) pos.line X.env=pure false):PS X (.Assign [.Attribute o f pos'] value pos) (sFld X.K ta tv f):=by
 intro pins s σ H D I h;refine plainObj_wpAny_Assign_Attribute (thn (hv pins s σ H _ I h) fun u J ⟨y,H1,Z,Y,q⟩=>thn (ha pins J σ H1 _ Z q) fun O s2 ⟨x,H2,U,z,a,C,dx,fs,ex,W,c,n,l,M⟩=>?_) hs;subst ex;obtain rfl:O=Value.ref a:=z;exact wZ U W c n l Y fun t V=>{σ,_,V,M}
theorem yC(ha:PE X o ta)(hv:PE X value tv)(Y:InOp X op W):PS X (.AugAssign (.Attribute o f tpos) op value pos) (LN X.K ta tv W f):=by
 intro pins s σ H D I h;refine wpAny_AugAssign_AttributeAny (thn (ha pins s σ H _ I h) fun ov s1 ⟨x,H1,I1,rx,a,C,dx,fs,v,ex,M,c,n,l,q⟩=>?_);subst ex;obtain rfl:ov=Value.ref a:=rx;refine wY I1 M c n l fun u s2 g ru=>thn (hv pins s2 σ H1 _ g q) fun w3 t ⟨y,H2,O,ry,q3⟩=>thn (Y pins t σ H2 v y u w3 _ O ru ry q3) fun w4 s4 ⟨z,H3,I4,rz,bF,fs',Z,U,J⟩=>?_;exact wZ I4 Z c n U rz fun s5 I5=>{σ,_,I5,J}
def rAdd:V->V->Hp->VK->Prop:=fun x y H Q=>∃i j,x=.int i/\y=.int j/\Q (.int (i+j)) H
theorem Ig:InOp X .Add rAdd:=by
 rintro pins s σ H x y u v Q I Y Z ⟨i,j,rfl,rfl,q⟩;obtain⟨t,rfl⟩:=(show ∃t,u=Value.int i t from Y);obtain⟨t',rfl⟩:=(show ∃t',v=Value.int j t' from Z);exact PyProof.Rows.iadd_int {.int (i+j),H,I.tok _,{_,Z9},q}
theorem methcall_of{σ:St}(V:PE X e te)(I:Inv X pins σ H s)
  (h:te σ H fun x H1=>∃a C dx fs g,x=.ref a/\H1 a=Z8 (.ins C dx fs)/\Cls X.K C/\zG X.K C m g/\fs.lookup m=Z7 /\
   ∀Z,Inv X pins σ H1 Z->aP #[4] X.A (Co pos (.ref g) [.ref a] (jZ pos (cz args X.env)) (px pos (j9 [] X.env))) Q X.xe Z)
  (ht:fY (.Call (.Attribute e m apos) args [] pos) X.env=(do
   let Y <- fY e X.env
   x6 apos.atName
   let (f,first) <- qb [Y] (o5 Y m pl)
   Co pos f first (jZ pos (cz args X.env)) (px pos (j9 [] X.env)))) :
  aP #[4] X.A (fY (.Call (.Attribute e m apos) args [] pos) X.env) Q X.xe s:=by
 refine kT (pl:=pl) (thn (V pins s σ H _ I h) fun u Z ⟨x,H1,W,O,a,C,dx,fs,g,ex,U,c,k,l,q⟩=>?_) ht;subst ex;obtain rfl:u=Value.ref a:=O;exact sy W U c k l (q Z W)
end
section
variable{X:Cx}{pins:List (ae×Obj)}{σ:St}{H:Hp}{s:ai}{A:bJ}{E:af->ai->Prop}{Q:af->ai->Prop}{c:af}{b:Bool}
inductive uu(K:ag)(H:Hp):V->af->Prop where
 |non:uu K H .non (.type "NoneType")
 |bl(x:Bool):uu K H (.bl x) (.type "bool")
 |int(i:Int):uu K H (.int i) (.type "int")
 |str(x:Str):uu K H (.str x) (.type "str")
 |flt(x:UInt64):uu K H (.flt x) (.type "float")
 |lst{a:ae}{xs:List V}(e:H a=Z8 (.lst xs)):uu K H (.ref a) (.type "list")
 |frz{a:ae}{o:Obj}{xs:List V}(e:H a=Z8 (.frz o (.lst xs))):uu K H (.ref a) (.type "list")
 |tup{a:ae}{xs:List V}(e:H a=Z8 (.tup xs)):uu K H (.ref a) (.type "tuple")
 |dK{a:ae}{kvs:List (Key×V)}(e:H a=Z8 (.dK kvs)):uu K H (.ref a) (.type "dict")
 |dT{a:ae}{kvs:List (List Key×V)}(e:H a=Z8 (.dT kvs)):uu K H (.ref a) (.type "dict")
 |ins{a C dx:ae}{fs:List (Str×V)}(e:H a=Z8 (.ins C dx fs))(cl:Cls K C)(ha:aZ K (.ref C) "__class__"=Z8 (Z8 (.builtin "object.__class__")))
   (hn:Eo K (.builtin "object.__class__") "__get__"=Z8 (Z8 (.builtin "getset_descriptor.__get__"))) (htk:Hs K (.builtin "object.__class__")=Z8 true)
   (hm:x9 K C (.type "object")=Z8 true):uu K H (.ref a) (.ref C)
theorem FO(I:Inv X pins σ H s)(Y:RelV x u)(ty:uu X.K H x t)(e:gY X.K t c=Z8 b)(h:∀tk,Q (.bool b) {s with toks:=tk}) :
  aP #[4] A (vz (.builtin "isinstance") [u,c]) Q E s:=by
 cases ty with
 |non=>cases (show u=Value.none from Y);exact eY PySem.W.kitx_none I.kIn True.intro e (fun z=>nomatch z) h
 |bl y=>cases (show u=Value.bool y from Y);exact eY PySem.W.kitx_bool I.kIn True.intro e (fun z=>nomatch z) h
 |int i=>obtain⟨t,q⟩:=(show ∃t,u=Value.int i t from Y);cases q;exact eY PySem.W.kitx_int I.kIn True.intro e (fun z=>nomatch z) h
 |str y=>obtain⟨t,q⟩:=(show ∃t,u=Value.str y t from Y);cases q;exact eY PySem.W.kitx_str I.kIn True.intro e (fun z=>nomatch z) h
 |flt y=>obtain⟨t,q⟩:=(show ∃t,u=Value.float y t from Y);cases q;exact eY PySem.W.kitx_float I.kIn True.intro e (fun z=>nomatch z) h
 |@lst a xs Z=>
  cases (show u=Value.ref a from Y);obtain⟨_,_,n,_,h1⟩:=(show dZ X.prog X.w H s.heap a (.lst xs) from I.hok a _ Z);exact eY Ep I.kIn {_,h1,Z9} e (fun z=>nomatch z) h
 |@frz a D xs Z=>
  cases (show u=Value.ref a from Y);obtain⟨_,_,_,n,_,h1⟩:=(show dZ X.prog X.w H s.heap a (.frz D (.lst xs)) from I.hok a _ Z);exact eY Ep I.kIn {_,h1,Z9} e (fun z=>nomatch z) h
 |@tup a xs Z=>
  cases (show u=Value.ref a from Y);obtain⟨_,_,_,p⟩:=(show dZ X.prog X.w H s.heap a (.tup xs) from I.hok a _ Z);obtain⟨o,h1,h2,_⟩:=p;exact eY PySem.W.kitx_tuple I.kIn ⟨o,h1,h2⟩ e (fun z=>nomatch z) h
 |@dK a kvs Z=>
  cases (show u=Value.ref a from Y);obtain⟨_,_,vs,_,p⟩:=(show dZ X.prog X.w H s.heap a (.dK kvs) from I.hok a _ Z);obtain⟨o,es,ep,h1,h2,_⟩:=p;exact eY Er I.kIn ⟨o,h1,h2.1⟩ e (fun z=>nomatch z) h
 |@dT a kvs Z=>
  cases (show u=Value.ref a from Y);obtain⟨_,_,xs,_,o,es,ep,h1,h2,_⟩:=(show dZ X.prog X.w H s.heap a (.dT kvs) from I.hok a _ Z);exact eY Er I.kIn ⟨o,h1,h2.1⟩ e (fun z=>nomatch z) h
 |@ins a C dx fs Z M ha g U hm=>
  cases (show u=Value.ref a from Y);obtain⟨mA,O,_⟩:=vQ I.hok Z;obtain⟨od,J,_⟩:=O.look;exact eY (PySem.W.kitx_own (M.get _) M.hd ha g U hm) I.kIn J e (fun z=>nomatch z) h
end
structure dJ(k:Nat)(A:bJ):Prop where
 hd:A.handled=Z7
 dp:A.depth+3*k+5<recursionLimit
 un:A.units+16*k+200<dM
theorem dJ.mono(r:dJ k A)(h:j<=k):dJ j A:={r.hd,by have:=r.dp;omega,by have:=r.un;omega}
theorem dJ.deeper(r:dJ (k+1) A)(env:Env):dJ k (A.deeper env):=
 {r.hd,by have:=r.dp;show A.depth+1+3*k+5<_;omega,by have:=r.un;show A.units+3+16*k+200<_;omega}
theorem Cp{A:bJ}:(A.under (.builtin "type.__call__" {.ref C::us,Z})).depth=A.depth+1:=by
 first|rfl|simp[AL,Code.weight,Code.isCreation,Code.isGuard,Code.isCaller,Code.frames,B3,guardIds]
theorem Cq{A:bJ}:(A.under (.builtin "type.__call__" {.ref C::us,Z})).units=A.units+1:=by
 first|rfl|simp[AL,Code.cUnits,Code.frames,B3]
theorem dJ.make(r:dJ (k+1) A)(C:ae)(us:List af)(Z:List (Str×af)):dJ k (A.under (.builtin "type.__call__" {.ref C::us,Z})):=
 {r.hd,by have:=r.dp;rw[Cp];omega,by have:=r.un;rw[Cq];omega}
theorem dJ.depth(r:dJ k A):A.depth<recursionLimit:=by have:=r.dp;omega
theorem dJ.units(r:dJ k A):A.units+64<dM:=by have:=r.un;omega
def Cr:TA:=fun _ H Q=>Q [] H
def oI(ta:TE)(tr:TA):TA:=fun σ H Q=>ta σ H fun x H1=>tr σ H1 fun xs H2=>Q (x::xs) H2
section
variable{X:Cx}{e:cK}{es:List cK}{te:TE}{t:TA}{pos:Pos}
theorem ao:PA X [] Cr:=fun _ _ _ _ H Q I h=>Calls.spliced_nil {[],H,I,.nil,h}
theorem av(ha:PE X e te)(W:PA X es t)(hs:cz (e::es) X.env=(false,fY e X.env)::cz es X.env:=by rfl):PA X (e::es) (oI te t):=by
 intro pos pins s σ H Q I h;rw[hs];show aP _ _ (spliced ((false,fY e X.env)::jZ pos (cz es X.env))) _ _ s;refine Calls.spliced_cons (thn (ha pins s σ H _ I h) fun u U ⟨x,H1,M,J,V⟩=>?_);exact thn (W pos pins U σ H1 _ M V) fun us s2 ⟨xs,H2,Y,Z,O⟩=>{x::xs,H2,Y,.cons J Z,O}
def tTup(t:TA):TE:=fun σ H Q=>t σ H fun xs H1=>xs.length<=aD/\∀p,H1 p=Z7->Q (.ref p) (upd H1 p (.tup xs))
def tLst(t:TA):TE:=fun σ H Q=>t σ H fun xs H1=>xs.length<=aD/\∀p,H1 p=Z7->Q (.ref p) (upd H1 p (.lst xs))
theorem dX {x1} (h:PA X es t):PE X (.Tuple es x1 pos) (tTup t):=by
 intro pins s σ H Q I hq;refine wpAny_Tuple_spliced (thn (h pos pins s σ H _ I hq) fun us Z ⟨xs,H1,Y,r,z,q⟩=>{by rw[<- r.length];exact z,?_});have W:H1 Z.heap.objs.size=Z7:=Y.hok.fresh (ay _);refine{.ref Z.heap.objs.size,upd H1 Z.heap.objs.size (.tup xs),Y.laid (t':=Z.toks) (fun b u e=>aE _ e) (ay _) ?_,Z9,q _ W};exact{z,us,r,{_,aU _ rfl,Z9,_,Z9}}
theorem eO(h:PA X es t):PE X (.List es pos) (tLst t):=by
 intro pins s σ H Q I hq;refine wpAny_List_spliced (thn (h pos pins s σ H _ I hq) fun us Z ⟨xs,H1,Y,r,z,q⟩=>{by rw[<- r.length];exact z,?_});have W:H1 Z.heap.objs.size=Z7:=Y.hok.fresh (ay _);refine{.ref Z.heap.objs.size,upd H1 Z.heap.objs.size (.lst xs),Y.laid (t':=Z.toks) (fun b u e=>aE _ e) (ay _) ?_,Z9,q _ W};exact{z,us,0,r,aU _ rfl}
end
abbrev Sp:=List V->Hp->VK->XK->Prop
abbrev CXT:=List Env->Hp->ai->XK->af->ai->Prop
structure zI(P:aI)(w:aY)(K:ag)(mg:Str->Option af)(base:cb)(A:bJ)(outer:List Env)(s:ai)(H:Hp):Prop where
 frames:A.frames=Z8 outer
 mod:Mod K mg base
 bs:∀b o,base.get? b=Z8 o->s.heap.get? b=Z8 o/\H b=Z7
 bsz:base.objs.size<=s.heap.objs.size
 funs:s.heap.FunFrames base outer
 frf:∀b∈frs outer,H b=Z7
 hok:HOk P w H s.heap
 bare:p8 s.gens
def CE(outer:List Env)(P:aI)(w:aY)(H:Hp)(s:ai)(Q:VK)(u:af)(s':ai):Prop:=
 ∃v H',s'.os=s.os/\p8 s'.gens/\Un (frs outer) [] H H' s.heap s'.heap/\HOk P w H' s'.heap/\RelV v u/\Q v H'
def CR(CX:CXT)(outer:List Env)(P:aI)(w:aY)(H:Hp)(s:ai)(Q:VK)(E:XK)(r:Cm)(s':ai):Prop:=
 match r with
 |.ok (.ret u)=>CE outer P w H s Q u s'
 |.ok _=>False
 |.error e=>CX outer H s E e s'
structure bN(P:aI)(w:aY)(K:ag)(mg:Str->Option af)(base:cb)(CX:CXT)(k:Nat)(f:ae)(fd:bY)(ps:List Str)(sp:Sp):Prop where
 len:∀vs H Q E,sp vs H Q E->vs.length=ps.length
 run:∀(A:bJ) (outer:List Env) (s:ai) (H:Hp) (args:Args) (us:List af) (vs:List V) (Q:VK) (E:XK),dJ k A->zI P w K mg base A outer s H->uY s fd args (ps.zip us)->cW vs us->sp vs H Q E ->
  kS (aS P w) A (.call (.ref f) args) (CR CX outer P w H s Q E) s
theorem zI.make{K:ag}(e:zI P w K mg base A outer s H)(C:ae)(us:List af)(Z:List (Str×af)) :
  zI P w K mg base (A.under (.builtin "type.__call__" {.ref C::us,Z})) outer s H:={by first|exact e.frames|(simpa[AL,Code.envs,B3,pushEnvs] using e.frames),e.mod,e.bs,e.bsz,e.funs,e.frf,e.hok,e.bare}
section
variable{X:Cx}{pins:List (ae×Obj)}{σ:St}{H:Hp}{s s':ai}
theorem Inv.env0(I:Inv X pins σ H s):zI X.prog X.w X.K X.mg X.base X.A X.stack s H:=
 {I.ok.frames,I.ok.mod,I.bs,cZ I.ok.bsz I.sz,I.stack,I.stkFree,I.hok,I.bare}
theorem Inv.after(I:Inv X pins σ H s)(h:CE X.stack X.prog X.w H s Q u s'):EP X pins σ Q u s':=by
 obtain⟨v,H',V,Z,un,W,r,q⟩:=h;obtain⟨U,g,d,t,Y⟩:=s';obtain rfl:Y=s.os:=V;exact{v,H',I.call (h':=U) (g':=g) (d':=d) (t':=t) (ch:=[]) un W Z (fun b z=>absurd z #[5]),r,q}
end
def On(sp:Sp)(dvs:List V)(E:XK)(t:TA):TE:=fun σ H Q=>t σ H fun vs H1=>sp (vs++dvs) H1 Q E
inductive Oo(C:ae)(m:Str)(x:V)(H:Hp)(R:Prop):Prop where
 |mk(a dx:ae)(fs:List (Str×V))(hx:x=.ref a)(h:H a=Z8 (.ins C dx fs))(l:fs.lookup m=Z7)(q:R):Oo C m x H R
def Oq(C:ae)(m:Str)(sp:Sp)(dvs:List V)(E:XK)(ta:TE)(t:TA):TE:=fun σ H Q=>ta σ H fun x H1=>Oo C m x H1 (t σ H1 fun vs H2=>sp (x::(vs++dvs)) H2 Q E)
def Os(C:ae)(sp:Sp)(dvs:List V)(E:XK)(t:TA):TE:=fun σ H Q=>t σ H fun vs H1=>∀x dx,H1 x=Z7->H1 dx=Z7->dx≠x ->
 sp (.ref x::(vs++dvs)) (upd (upd H1 dx (.own x)) x (.ins C dx [])) (fun v H2=>v=.non/\Q (.ref x) H2) E
def Binds(K:ag)(fd:bY)(ps:List Str)(ds:List af):Prop:=
 ∀(s:ai) (us:List af),K.In s.heap->(us++ds).length=ps.length->uY s fd {us,[]} (ps.zip (us++ds))
theorem Binds.all{K:ag}(h:∀us:List af,us.length=ps.length->Cs fd {us,[]}=pure (ps.zip us)):Binds K fd ps []:=fun s us _ Z=>by
 rw[cO]at Z |-;exact .of_eq (h us Z)
def mI(CX:CXT)(X:Cx)(E:XK):Prop:=∀(pins:List (ae×Obj)) (σ:St) (H:Hp) (s:ai) (e:af) (s':ai),Inv X pins σ H s->CX X.stack H s E e s'->X.xe e s'
section
variable{X:Cx}{CX:CXT}{k:Nat}{f C:ae}{fd:bY}{ps:List Str}{sp:Sp}{dvs:List V}{ds:List af}{E:XK}{x m:Str}{p pos apos:Pos}{e o:cK}{es:List cK}{ta:TE}{t:TA}
theorem Ct{σ:St}(F:bN X.prog X.w X.K X.mg X.base CX k f fd ps sp)(Y:dJ k X.A)(hb:Binds X.K fd ps ds)(W:cW dvs ds)(hx:mI CX X E)
  (I:Inv X pins σ H s) (r:cW vs us) (h:sp (vs++dvs) H Q E):aP #[4] X.A (vz (.ref f) us) (EP X pins σ Q) X.xe s:=by
 have Z:cW (vs++dvs) (us++ds):=r.append W;have U:(us++ds).length=ps.length:=by rw[<- Z.length];exact F.len _ _ _ _ h
 refine w5 (jD (F.run X.A X.stack s H {us,[]} (us++ds) (vs++dvs) Q E Y I.env0 (hb s us I.kIn U) Z h) fun r s' hq=>?_)
 cases r with
 |error e=>exact hx pins σ H s e s' I hq
 |ok fl=>
  cases fl with
  |ret u=>exact I.after hq
  |next=>exact cY hq
  |brk=>exact cY hq
  |cont=>exact cY hq
theorem gO(F:bN X.prog X.w X.K X.mg X.base CX k f fd ps sp)(U:dJ k X.A)(M:Gl X x)(J:X.mg x=Z8 (.ref f))(hk:gX X.K (.ref f)=true)(hb:Binds X.K fd ps ds)(O:cW dvs ds)(hx:mI CX X E)
  (ha:PA X (e::es) t) (Y:(x==("__debug__":Str))=false:=by decide) (V:cz (e::es) X.env=(false,fY e X.env)::cz es X.env:=by rfl) (Z:(jZ pos (cz es X.env)).any (·.1)=false:=by rfl) :
  PE X (.Call (.Name x p) (e::es) [] pos) (On sp dvs E t):=by
 intro pins s σ H Q I h;refine jE (tw I M J ?_ Y);refine mJ (h₀:=X.base) I.ok.mod.kin hk (thn (ha pos pins s σ H _ I h) fun us D ⟨vs,H1,W,r,q⟩=>{W.kIn,?_}) V Z;exact Ct F U hb O hx W r q
theorem jt{pl:Sem Bool}(M:PE X o ta)(c:Cls X.K C)(O:zG X.K C m f)(F:bN X.prog X.w X.K X.mg X.base CX k f fd ps sp)(J:dJ k X.A)(hb:Binds X.K fd ps ds)(D:cW dvs ds)(hx:mI CX X E)(ha:PA X (e::es) t)
  (Y:cz (e::es) X.env=(false,fY e X.env)::cz es X.env:=by rfl) (Z:(jZ pos (cz es X.env)).any (·.1)=false:=by rfl)
  (ht:fY (.Call (.Attribute o m apos) (e::es) [] pos) X.env=(do
   let U <- fY o X.env
   x6 apos.atName
   let (f,first) <- qb [U] (o5 U m pl)
   Co pos f first (jZ pos (cz (e::es) X.env)) (px pos (j9 [] X.env))):=by rfl) :
  PE X (.Call (.Attribute o m apos) (e::es) [] pos) (Oq C m sp dvs E ta t):=by
 intro pins s σ H Q I h;refine kT (pl:=pl) (thn (M pins s σ H _ I h) fun u z ⟨x,H1,W,rx,a,dx,fs,ex,ea,l,q⟩=>?_) ht;subst ex;obtain rfl:u=Value.ref a:=rx;refine sy W ea c O l ?_;refine mJ (first:=[.ref a]) (h₀:=X.base) I.ok.mod.kin O.kp (thn (ha pos pins z σ H1 _ W q) fun us s2 ⟨vs,H2,V,r,g⟩=>{V.kIn,?_}) Y Z;exact Ct (us:=.ref a::us) (vs:=.ref a::vs) F J hb D hx V (.cons rfl r) g
theorem tE{pl:Sem Bool}(V:PE X o ta)(c:Cls X.K C)(W:zG X.K C m f)(F:bN X.prog X.w X.K X.mg X.base CX k f fd ps sp)(O:dJ k X.A)(hb:Binds X.K fd ps ds)(M:cW dvs ds)(hx:mI CX X E)
  (ht:fY (.Call (.Attribute o m apos) [] [] pos) X.env=(do
   let Y <- fY o X.env
   x6 apos.atName
   let (f,first) <- qb [Y] (o5 Y m pl)
   Co pos f first (jZ pos (cz [] X.env)) (px pos (j9 [] X.env))):=by rfl) :
  PE X (.Call (.Attribute o m apos) [] [] pos) (Oq C m sp dvs E ta Cr):=by
 intro pins s σ H Q I h;refine kT (pl:=pl) (thn (V pins s σ H _ I h) fun u D ⟨x,H1,Z,J,a,dx,fs,ex,U,l,q⟩=>?_) ht;subst ex;obtain rfl:u=Value.ref a:=J;refine sy Z U c W l ?_;exact B4 (first:=[.ref a]) Z.kIn W.kp (Ct (us:=[.ref a]) (vs:=[.ref a]) F O hb M hx Z (.cons rfl .nil) q)
structure Mk(K:ag)(C f:ae):Prop where
 makes:vB K C=true
 init:aZ K (.ref C) "__init__"=Z8 (Z8 (.ref f))
 fn:pj K (.ref f)=true
 kp:gX K (.ref C)=true
theorem Ih{σ:St}(M:Mk X.K C f)(F:bN X.prog X.w X.K X.mg X.base CX k f fd ps sp)(J:dJ (k+1) X.A)(hb:Binds X.K fd ps ds)(D:cW dvs ds)
  (hx:mI CX X E) (I:Inv X pins σ H s) (r:cW vs us)
  (h:∀x dx,H x=Z7->H dx=Z7->dx≠x->sp (.ref x::(vs++dvs)) (upd (upd H dx (.own x)) x (.ins C dx [])) (fun v H2=>v=.non/\Q (.ref x) H2) E) :
  aP #[4] X.A (vz (.ref C) us) (EP X pins σ Q) X.xe s:=by
 have hq:=h (s.heap.objs.size+1) s.heap.objs.size (I.hok.fresh (eD _)) (I.hok.fresh (ay _)) (aM (ia _));have Y:=Inv.made (C:=C) I;have W:cW (V.ref (s.heap.objs.size+1)::(vs++dvs)) (Value.ref (s.heap.objs.size+1)::(us++ds)):=.cons rfl (r.append D);have z:(Value.ref (s.heap.objs.size+1)::us++ds).length=ps.length:=by
  have e:=W.length;rw[F.len _ _ _ _ hq]at e;exact e.symm
 refine w5 (Ic (f:=f) I.kIn M.makes M.init (beq_iff_eq.mp M.fn) (jD (F.run _ X.stack _ _ {Value.ref (s.heap.objs.size+1)::us,[]} (Value.ref (s.heap.objs.size+1)::(us++ds)) _ _ E (J.make C us [])
  (Y.env0.make C us []) (hb _ (Value.ref (s.heap.objs.size+1)::us) Y.kIn z) W hq) fun r s' Z=>?_))
 cases r with
 |error e=>exact hx pins σ _ _ e s' Y Z
 |ok fl=>
  cases fl with
  |ret u=>
   obtain⟨v,H',O,U,ev,t⟩:=Y.after Z;subst ev;exact{U,{V.ref (s.heap.objs.size+1),H',O,Z9,t}}
  |next=>exact cY Z
  |brk=>exact cY Z
  |cont=>exact cY Z
theorem q8(M:Mk X.K C f)(F:bN X.prog X.w X.K X.mg X.base CX k f fd ps sp)(U:dJ (k+1) X.A)(J:Gl X x)(D:X.mg x=Z8 (.ref C))(hb:Binds X.K fd ps ds)(O:cW dvs ds)(hx:mI CX X E)
  (ha:PA X (e::es) t) (Y:(x==("__debug__":Str))=false:=by decide) (V:cz (e::es) X.env=(false,fY e X.env)::cz es X.env:=by rfl) (Z:(jZ pos (cz es X.env)).any (·.1)=false:=by rfl) :
  PE X (.Call (.Name x p) (e::es) [] pos) (Os C sp dvs E t):=by
 intro pins s σ H Q I h;refine jE (tw I J D ?_ Y);refine mJ (h₀:=X.base) I.ok.mod.kin M.kp (thn (ha pos pins s σ H _ I h) fun us z ⟨vs,H1,W,r,q⟩=>{W.kIn,?_}) V Z;exact Ih M F U hb O hx W r q
end
section
variable{X:Cx}{CX:CXT}{k:Nat}{f C:ae}{fd:bY}{ps ks:List Str}{sp:Sp}{E:XK}{x m:Str}{p pos apos kpos:Pos}{e o:cK}{es:List cK}{kws:List RQ}{te ta:TE}{t tk:TA}{nm:Option Str}
variable{g:List af->List af->List af}{gV:List V->List V->List V}
end
structure bM(N P:List Str)(sc:kM):Prop where
 kind:sc.kind=.function
 co:sc.isCoroutine=false
 gen:sc.isGenerator=false
 nd:N.Nodup
 pre:N.take P.length=P
 par:∀x∈P,sc.names.lookup x=Z8 .local\/sc.names.lookup x=Z8 .cell
 nofree:∀y∈sc.names,y.2≠.free
theorem e7{N P:List Str}{sc:kM}(a:sc.kind=.function:=by rfl)(b:sc.isCoroutine=false:=by rfl)(c:sc.isGenerator=false:=by rfl)(d:N.Nodup:=by decide +kernel)(e:N.take P.length=P:=by rfl)(f:∀x∈P,sc.names.lookup x=Z8 .local\/sc.names.lookup x=Z8 .cell:=by decide +kernel)(g:∀y∈sc.names,y.2≠.free:=by decide +kernel):bM N P sc:=⟨a,b,c,d,e,f,g⟩
section
variable{X:Cx}{N P:List Str}{sc:kM}{x:Str}{e:cK}{te:TE}{pos pos':Pos}
theorem pst(i:Nat)(S:bM X.N P sc)(Y:PE X e te)(hi:X.N[i]?=Z8 x:=by rfl)(hx:Loc X.env.scope x:=by exact Or.inl rfl)(hs:mE e (Z8 (.Name x pos')) pos.line X.env=pure false:=by rfl)(Z:X.fn x=true\/X.env.scope.names.lookup x=Z8 .local:=by first|exact .inl rfl|exact .inr rfl|assumption):PS X (.Assign [.Name x pos'] e pos) (HL te (wQ i)):=HM S.nd hi hx Y hs Z
theorem pgn(i:Nat)(S:bM X.N P sc)(hi:X.N[i]?=Z8 x:=by rfl)(hx:Loc X.env.scope x:=by exact Or.inl rfl)(Z:X.fn x=true\/X.env.scope.names.lookup x=Z8 .local:=by first|exact .inl rfl|exact .inr rfl|assumption):PG X (.Name x pos) (wQ i):=iM S.nd hi hx Z
end
theorem yD{kindOf:Str->Option lQ}:∀{binds:List (Str×af)} {m:Str->Option af},(∀v,(x,v)∉binds)->Ht kindOf binds m x=m x
 | [],_,_=>rfl
 |(n,v)::r,m,h=>by
  unfold Ht;rw[yD fun w hw=>h w (aj _ hw)]
  split
  ·have:x≠n:=by rintro rfl;exact h v aB
   simp[this]
  ·rfl
theorem yE{kindOf:Str->Option lQ}:∀{binds:List (Str×af)} {m:Str->Option af},(∀v,(x,v)∉binds)->Hu kindOf binds m x=m x
 | [],_,_=>rfl
 |(n,v)::r,m,h=>by
  unfold Hu;rw[yE fun w hw=>h w (aj _ hw)]
  split
  ·rfl
  ·have:x≠n:=by rintro rfl;exact h v aB
   simp[this]
theorem yF{kindOf:Str->Option lQ}:∀{P:List Str} {vs:List af} {i:Nat} {m:Str->Option af},P.Nodup->P[i]?=Z8 x->vs[i]?=Z8 v->kindOf x=Z8 .local ->
  Ht kindOf (P.zip vs) m x=Z8 v
 | [],_,_,_,_,h,_,_=>by simp at h
 |_::_,[],_,_,_,_,h,_=>by simp at h
 |p::P,w::vs,0,m,Z,h1,h2,hk=>by
  simp at h1 h2;subst h1;subst h2;show Ht kindOf ((p,w)::P.zip vs) m p=_;unfold Ht;rw[yD fun v hv=>(cH.mp Z).1 (qy hv).1,if_pos hk];simp
 |p::P,w::vs,i+1,m,Z,h1,h2,hk=>by
  show Ht kindOf ((p,w)::P.zip vs) m x=_;unfold Ht;exact yF (i:=i) (cH.mp Z).2 (by simpa using h1) (by simpa using h2) hk
theorem yG{kindOf:Str->Option lQ}:∀{P:List Str} {vs:List af} {i:Nat} {m:Str->Option af},P.Nodup->P[i]?=Z8 x->vs[i]?=Z8 v->kindOf x≠Z8 .local ->
  Hu kindOf (P.zip vs) m x=Z8 v
 | [],_,_,_,_,h,_,_=>by simp at h
 |_::_,[],_,_,_,_,h,_=>by simp at h
 |p::P,w::vs,0,m,Z,h1,h2,hk=>by
  simp at h1 h2;subst h1;subst h2;show Hu kindOf ((p,w)::P.zip vs) m p=_;unfold Hu;rw[yE fun v hv=>(cH.mp Z).1 (qy hv).1,if_neg hk];simp
 |p::P,w::vs,i+1,m,Z,h1,h2,hk=>by
  show Hu kindOf ((p,w)::P.zip vs) m x=_;unfold Hu;exact yG (i:=i) (cH.mp Z).2 (by simpa using h1) (by simpa using h2) hk
def start(N:List Str)(vs:List V):St:=vs.map Z8++cy (N.length-vs.length) Z7
def rE(CX:CXT)(P:aI)(w:aY)(K:ag)(mg:Str->Option af)(base:cb)(N:List Str)(Y:Str)(Z:kM)(f:ae)(V:af)(A:bJ)(outer:List Env)(s:ai)(H:Hp)(E:XK):Cx where
 prog:=P
 w:=w
 K:=K
 mg:=mg
 base:=base
 A:=A.deeper (uv Y Z s.heap.objs.size f V)
 N:=N
 s₀:=s
 H₀:=H
 env:=uv Y Z s.heap.objs.size f V
 outer:=outer
 stack:=uv Y Z s.heap.objs.size f V::outer
 ex:=[]
 calm:=true
 fn:=fun _=>true
 pn:=[]
 xe:=fun e s'=>aP (aS P w) (A.deeper (uv Y Z s.heap.objs.size f V)) (B5 (uv Y Z s.heap.objs.size f V) e) (fun _ W=>CX outer H s E e W) (fun U W=>CX outer H s E U W) s'
theorem A7{sc:kM}(h:sc.names.lookup x=Z8 .cell):∃c,(Hv n sc.names []).lookup x=Z8 c:=by
 have q:=pz sc.names n [] (.inl h);exact yH.mp q
theorem yI{K:ag}
  (S:bM N ps Z) (t:A.handled=Z7) (W:zI P w K mg base A outer s H) (hl:vs.length=ps.length) (r:cW vs us)
  (x:InCallC s s.heap.objs.size (Ht (uv Y Z s.heap.objs.size f M).kindOf (ps.zip us) fun _=>Z7) (Hv (s.heap.objs.size+1) Z.names []) (Hu (uv Y Z s.heap.objs.size f M).kindOf (ps.zip us) fun _=>Z7) J) :
  Inv (rE CX P w K mg base N Y Z f M A outer s H E) [] (start N vs) H J:=by
 have I:ps.length<=N.length:=by have:=congrArg i5 S.pre;rw[bD]at this;omega
 obtain⟨h1,tk,rfl,hk⟩:=x.done;have U:∀b:ae,b∉(rE CX P w K mg base N Y Z f M A outer s H E).ex:=fun b z=>absurd (show b∈([]:List ae) from z) #[5];refine⟨{W.mod,S.kind,Z9,Z9,ay _,fun y z c h1 h2=>?_,fun y hy=>?_,fun y c _ h=>?_,fun _=>t,Around.frames_deeper W.frames,.inr ⟨Z9,Z9⟩,fun b z=>absurd z (U b),W.bs,W.bsz,fun b _ _=>U b,fun b z=>absurd z (U b),W.funs,W.frf},
  Z9,W.bare,Un.kept hk,{_,x.toInCall.ns,fun i y v h1 h2 g=>?_},fun y c h=>{_,x.cell y c h},W.hok.fresh (ay _),fun y c h=>?_,fun p hp=>absurd (show p∈([]:List (ae×Obj)) from hp) #[5],W.hok.kept hk,?_⟩
 ·exact name_of_addr x.apart (gP h1) (gP h2)
 ·have hy:Z.names.lookup y=Z8 .cell\/Z.names.lookup y=Z8 .free:=hy
  rcases hy with hy|hy
  ·exact A7 hy
  ·exact absurd rfl (S.nofree _ (gP hy))
 ·exact ny (x.above y c (gP h))
 ·have hi:i<vs.length:=by
   unfold start at h2
   by_cases hi:i<vs.length
   ·exact hi
   ·rw[dh (by simpa using hi)]at h2;rw[pX]at h2
    split at h2<;>cases h2
  have ha:vs[i]?=Z8 v:=by
   unfold start at h2;rw[d8 (by simpa using hi),bT]at h2
   cases e:vs[i]? with
   |none=>rw[e]at h2;cases h2
   |some a=>rw[e]at h2;cases h2;rfl
  obtain⟨u,hu,D⟩:=r.get ha;have hp:ps[i]?=Z8 y:=by
   rw[<- S.pre,iN #[2]];exact h1
  have O:ps.Nodup:=by rw[<- S.pre];exact S.nd.sublist (uZ _ _)
  refine{u,D,?_}
  rcases S.par y (bC hp) with k|k
  ·exact .inl {k,yF O hp hu k}
  ·obtain⟨c,e⟩:=A7 (n:=s.heap.objs.size+1) k;refine .inr {.inl k,c,e,?_};have q:=x.cell y c e;rw[yG O hp hu (by show Z.names.lookup y≠_;rw[k];decide)]at q;exact q
 ·exact W.hok.fresh (ny (x.above y c (gP h)))
 ·unfold start;show _=N.length;rw[au,ah,lG];omega
theorem Ot{K:ag}{dV kV g pm W ct oc:af}
     (lk:K.lookup f=Z8 {oc,od,.func (fu name Y U O Z dV kV g pm an W ct),bz}) (bF:kA K W Y=true) (S:bM N ps Z)
  (len:∀vs H Q E,sp vs H Q E->vs.length=ps.length)
  (z:∀(A:bJ) (outer:List Env) (s:ai) (H:Hp) (vs:List V) (Q:VK) (E:XK),dJ k (A.deeper (uv Y Z s.heap.objs.size f W))->sp vs H Q E ->
   ∃t,PSs (rE CX P w K mg base N Y Z f W A outer s H E) O t/\t {nx:=fun _ H'=>Q .non H',rt:=Q} (start N vs) H) :
  bN P w K mg base CX (k+1) f (fu name Y U O Z dV kV g pm an W ct) ps sp:=by
 refine{len,fun A outer s H args us vs Q E hr e0 hb r bG=>?_};have hl:=len _ _ _ _ bG;have KX:K.In s.heap:=e0.mod.kin.keeps fun b o e=>(e0.bs b o e).1;have bB:s.heap.NoLimit:=e0.mod.nolimit.keeps fun b o e=>(e0.bs b o e).1;have D:∀y∈ps.zip us,Z.names.lookup y.1=Z8 .local\/(Z.names.lookup y.1=Z8 .cell/\((Hv (s.heap.objs.size+1) Z.names []).lookup y.1).isSome=true):=fun⟨n,v⟩ hy=>by
  rcases S.par n (qy hy).1 with q|q
  ·exact .inl q
  ·exact .inr {q,pz _ _ _ (.inl q)}
 refine Ls hr.depth (KX _ _ lk) rfl S.co S.gen rfl (Cu KX bF) (hb _ _ _ _ ?_);refine Cv S.kind D fun env he s1 x=>?_;subst he;refine{bB.keeps x.toInCall.keep,codeAny_func ?_};obtain⟨t,ht,hq⟩:=z A outer s H vs Q E (hr.deeper _) bG;have I:Inv (rE CX P w K mg base N Y Z f W A outer s H E) [] (start N vs) H s1:=yI S hr.hd e0 hl r x;refine eQ (ht [] s1 (start N vs) H _ I hq) (fun fl s' hs=>?_) fun e s' hs=>hs;have fin:∀{M:St} {H':Hp} {v:V} {u:af},Inv (rE CX P w K mg base N Y Z f W A outer s H E) [] M H' s'->RelV v u->Q v H'->CE outer P w H s Q u s':=
  fun {M H' v u} J rv q=>⟨v,H',J.os,J.bare,J.base,J.hok,rv,q⟩
 cases fl with
 |ret u=>
  obtain⟨v,M,H',J,rv,q⟩:=hs;exact fin J rv q
 |next=>
  obtain⟨M,H',J,q⟩:=hs;exact fin (v:=V.non) (u:=Value.none) J rfl q
 |brk=>
  obtain⟨_,_,_,q⟩:=hs;exact cY q
 |cont=>
  obtain⟨_,_,_,q⟩:=hs;exact cY q
section
variable{X:Cx}{x:Str}{p pos:Pos}{e:cK}{es:List cK}{t:TA}{id T:String}{r:List V->Hp->VK->Prop}
def tCB(r:List V->Hp->VK->Prop)(t:TA):TE:=fun σ H Q=>t σ H fun vs H1=>r vs H1 Q
theorem cS(hc:lE X (.builtin id) r)(J:Gl X x)(z:X.mg x=Z7)(hv:eV x=Z8 (.builtin id))(ha:PA X (e::es) t)(U:x≠"__name__":=by decide)(Y:(x==("__debug__":Str))=false:=by decide)
  (V:cz (e::es) X.env=(false,fY e X.env)::cz es X.env:=by rfl) (Z:(jZ pos (cz es X.env)).any (·.1)=false:=by rfl):PE X (.Call (.Name x p) (e::es) [] pos) (tCB r t):=by
 intro pins s σ H Q I h;refine jE (rX I J z hv ?_ U Y);exact PyProof.Rows.callWith_builtin1 (thn (ha pos pins s σ H _ I h) fun us M ⟨vs,H1,W,D,O⟩=>hc pins M σ H1 vs us Q W D O) V Z
theorem iQ(hc:lE X (.type T) r)(J:Gl X x)(z:X.mg x=Z7)(hv:eV x=Z8 (.type T))(ha:PA X (e::es) t)(U:x≠"__name__":=by decide)(Y:(x==("__debug__":Str))=false:=by decide)
  (V:cz (e::es) X.env=(false,fY e X.env)::cz es X.env:=by rfl) (Z:(jZ pos (cz es X.env)).any (·.1)=false:=by rfl):PE X (.Call (.Name x p) (e::es) [] pos) (tCB r t):=by
 intro pins s σ H Q I h;refine jE (rX I J z hv ?_ U Y);exact iZ (thn (ha pos pins s σ H _ I h) fun us M ⟨vs,H1,W,D,O⟩=>hc pins M σ H1 vs us Q W D O) V Z
end
end L2
namespace HT
open PySem PyProof.Rows
def lexLt:List Int->List Int->Bool
 | [],[]=>false
 | [],_::_=>true
 |_::_,[]=>false
 |x::xs,y::ys=>if x=y then lexLt xs ys else decide (x<y)
theorem mK(x y:Int)(xs ys:List Int):lexLt (x::xs) (y::ys)=if x=y then lexLt xs ys else decide (x<y):=rfl
theorem rM:lexLt [] []=false:=rfl
theorem qz(y:Int)(ys:List Int):lexLt [] (y::ys)=true:=rfl
theorem qA(x:Int)(xs:List Int):lexLt (x::xs) []=false:=rfl
theorem A8(A:bJ)(s:ai)(a:Int)(t:Tok)(c:Int)(u:Tok):∃e,ya A s (.int a t) (.int c u) e/\(e=true↔a=c):=
 {(a==c),q9 a t c u,by simp}
theorem Ii(A:bJ)(s:ai)(a:Int)(t:Tok)(c:Int)(u:Tok)(prog:aI)(w:aY)(E:af->ai->Prop)(Q:af->ai->Prop)(h:Q (.bool (decide (a<c))) s) :
  aP (aS prog w) A (qe .Lt (.int a t) (.int c u)) Q E s:=
 (PyProof.Rows.lt_int h:aP (aS prog w) A (eB .Lt (.int a t) (.int c u)) Q E s)
section
open PySem.SeqAt
open PySem.AutoSeq1 (wpAny_loadPart')
open PySem.MeetsSeq PySem.MeetsSeq2 PySem.MeetsSeq3
theorem yb(l b:ae)(items Z:Array af)(n n2:Nat)(dd bB:Option ae)(sl bG:Array (Option af))(ns ms:List Int)(hi:dQ items.toList ns)(hj:dQ Z.toList ms) :
  Meets (eK.«tuple.__lt__» {[.ref l,.ref b],[]})
   (fun _ R s=>s.heap.get? l=Z8 {cls:=.type "tuple",dict:=dd,data:=.seq items n,slots:=sl}/\s.heap.get? b=Z8 {cls:=.type "tuple",dict:=bB,data:=.seq Z n2,slots:=bG} /\
    R (.ok (.ret (.bool (lexLt ns ms)))) s):=
 .of_wp fun prog w A R s h=>by
  obtain⟨hp,g,d,tk,os⟩:=s;obtain⟨hl,hb,h⟩:=h;have f2:=iD;have z1:items.size=ns.length:=by rw[<- hi.length];simp
  have z2:Z.size=ms.length:=by rw[<- hj.length];simp
  wp_walk using cQ hl,cQ hb,jj _ (fun rest b s'=>b.1=Z7/\s'=⟨hp,g,d,tk,os⟩/\∃(vs ws:List af) (W V:List Int),rest=vs.zip ws /\
   dQ vs W/\dQ ws V/\W.length+Z.size=V.length+items.size/\R (.ok (.ret (.bool (lexLt W V)))) ⟨hp,g,d,tk,os⟩) _
  case turn=>
   rintro⟨y,x⟩ rest b s' ⟨D,rfl,vs,ws,W,V,hz,I,U,Y,O⟩
   cases I with
   |nil=>rw[Ij]at hz;cases hz
   |cons a t z=>
    cases U with
    |nil=>rw[Hw]at hz;cases hz
    |cons c u bH=>
     rw[gf]at hz;injection hz with bz J;injection bz with hy hx;subst hy hx;rw[mK]at O;simp only[aX]at Y;obtain⟨e,he,M⟩:=A8 A.in1 ⟨hp,g,d,tk,os⟩ a t c u;refine aa (he prog w _ _ ?_)
     cases e with
     |true=>
      rw[if_pos (M.mp rfl)]at O
      wp_walk
      exact{Z9,Z9,_,_,_,_,J,z,bH,by omega,O}
     |false=>
      rw[if_neg (fun q=>absurd (M.mpr q) aT)]at O;have bF:=Ii A.in1 ⟨hp,g,d,tk,os⟩ a t c u prog w
      wp_walk using bF
      exact{_,Z9,by simpa using O}
  case fin=>
   rintro⟨b1,b2⟩ s' ⟨D,rfl,vs,ws,W,V,hz,I,U,Y,O⟩;simp only at D;subst D;have hv:lexLt W V=decide (items.size<Z.size):=by
    cases I with
    |nil=>
     cases U with
     |nil=>
      simp only[cI]at Y;rw[rM];exact (decide_eq_false #[2]).symm
     |cons c u hw=>
      simp only[cI,aX]at Y;rw[qz];exact (decide_eq_true #[2]).symm
    |cons a t hv=>
     cases U with
     |nil=>
      simp only[cI,aX]at Y;rw[qA];exact (decide_eq_false #[2]).symm
     |cons c u hw=>
      rw[gf]at hz
      cases hz
   rw[hv]at O
   wp_walk
   exact{_,Z9,by simpa[ib] using O}
  case h=>
   exact{Z9,Z9,items.toList,Z.toList,ns,ms,Z9,hi,hj,by omega,h}
end
section
variable{prog:aI}{w:aY}{A:bJ}{E:af->ai->Prop}{s:ai}
theorem lt_tupInts(t:uk s.heap l items)(hb:uk s.heap b Z)(hi:dQ items.toList ns)(z:dQ Z.toList ms)
  (hu:A.units<dM) (h:Q (.bool (lexLt ns ms)) s):aP (aS prog w) A (eB .Lt (.ref l) (.ref b)) Q E s:=by
 obtain⟨⟨cls,dd,data,sl⟩,I,hc,n,D⟩:=id t;obtain⟨⟨J,M,U,O⟩,W,V,g,Y⟩:=id hb;simp only at hc D V Y;subst hc D V Y;exact sE (op:=.Lt) {_,I,Z9} {_,W,Z9} PySem.F.slot_tuple_lt PySem.F.entry_tuple_lt (PySem.F.args_tuple_lt_2 _ _) (yb l b items Z n g dd M sl O ns ms hi z)
  {I,W,show Value.bool (lexLt ns ms)≠Value.notImplemented/\Q (.bool (lexLt ns ms)) s from{(fun x=>nomatch x),h}} hu
theorem cat_tup(ht:uk s.heap t vs.toArray)(hb:uk s.heap b Z.toArray)(hv:vs≠[])
  (h1:Z=[]->Q (.ref t) s) (h2:Z≠[]->Q (.ref s.heap.objs.size) {s with heap:=s.heap.push {cls:=.type "tuple",data:=.seq (vs++Z).toArray}})
  (hsz:vs.length+Z.length<=aD):aP (aS prog w) A (ji .Add (.ref t) (.ref b)) Q E s:=by
 obtain⟨⟨cls,dd,data,sl⟩,M,hc,n,D⟩:=id ht;obtain⟨⟨I,U,J,V⟩,Y,O,z,W⟩:=id hb;simp only at hc D O W;subst hc D O W;have e:vs.toArray++Z.toArray=(vs++Z).toArray:=by simp
 by_cases hw:Z=[]
 ·exact concat_meets {_,M,Z9} {_,Y,Z9} noFill_tuple_add seq_tuple_add zL yJ (yc _ _)
   (tuple_addW1 t b vs.toArray Z.toArray n z dd U sl V (by simpa using hv) (by simp[hw])) {M,Y,h1 hw}
 ·refine concat_meets {_,M,Z9} {_,Y,Z9} noFill_tuple_add seq_tuple_add zL yJ (yc _ _)
   (tuple_addW2 t b vs.toArray Z.toArray n z dd U sl V (by simpa using hv) (by simpa using hw) (by rw[aH,aH];exact hsz)) {M,Y,?_}
  rw[e];exact h2 hw
def sIx(n d:Nat):Option Int->Nat
 |none=>d
 |some v=>if v<0 then (v+(n:Int)).toNat else min v.toNat n
theorem sIx_none(n d:Nat):sIx n d Z7=d:=rfl
theorem sIx_nat(n d k:Nat):sIx n d (Z8 (k:Int))=min k n:=by
 show (if (k:Int)<0 then ((k:Int)+(n:Int)).toNat else min (k:Int).toNat n)=min k n;rw[if_neg #[2],gL]
theorem P6(n d:Nat)(Z:d<=n)(o:Option Int):sIx n d o<=n:=by
 cases o with
 |none=>exact Z
 |some v=>
  show (if v<0 then (v+(n:Int)).toNat else min v.toNat n)<=n
  by_cases hv:v<0
  ·rw[if_pos hv];omega
  ·rw[if_neg hv];exact Nat.min_le_right _ _
theorem Es(v:Int)(n d:Nat):(if v<0 then max (v+(n:Int)) 0 else min v (n:Int))=((sIx n d (Z8 v):Nat):Int):=by
 show (if v<0 then max (v+(n:Int)) 0 else min v (n:Int))=(((if v<0 then (v+(n:Int)).toNat else min v.toNat n):Nat):Int)
 by_cases hv:v<0
 ·simp only[if_pos hv];omega
 ·simp only[if_neg hv];omega
theorem Cw(lo hi:Option Int)(n:Nat):lR lo hi 1 (n:Int)=(((sIx n 0 lo:Nat):Int),((sIx n n hi:Nat):Int)):=by
 have h1:¬((1:Int)<0):=by omega
 unfold lR;simp only[h1,if_false];refine Prod.ext ?_ ?_
 ·cases lo with
  |none=>rfl
  |some v=>exact Es v n 0
 ·cases hi with
  |none=>rfl
  |some v=>exact Es v n n
theorem Cy(i j:Nat):ju (i:Int) (j:Int) 1=j-i:=by
 unfold ju;have h1:(1:Int)>0:=by omega
 simp only[h1,if_true,Int.ediv_one]
 split<;>omega
theorem w6(p:zO v o)(h:Q o s):aP (aS prog w) A (Builtin.Slice.slicePartIndex v) Q E s:=by
 cases p with
 |none=>exact slicePart_none h
 |int i t=>exact slicePart_int h
theorem uw{sl:ae}{W V:af}{lo hi:Option Int}{n:Nat}(hs:s.heap.IsSliceOf sl W V .none)(pl:zO W lo)(U:zO V hi)
  (h:Q (((sIx n 0 lo:Nat):Int),1,sIx n n hi-sIx n 0 lo) s):aP (aS prog w) A (tF (.ref sl) (pure (n:Int))) Q E s:=by
 obtain⟨M,Z,O,Y⟩:=id hs;unfold tF Builtin.Slice.sliceFields;refine aa (aa (nC Z Y (x:=W) rfl (aa (nC Z Y (x:=V) rfl (aa (nC Z Y (x:=.none) rfl (ax ?_)))))));refine aa (slicePart_none ?_);show aP _ _ (if ((1:Int)==0)=true then _ else _) _ _ s;rw[if_neg (by decide)];refine aa (w6 pl (aa (w6 U (aa (ax ?_)))));show aP _ _ (match lR lo hi 1 (n:Int) with|(lo,hi)=>pure (lo,(1:Int),ju lo hi 1)) _ _ s;rw[Cw lo hi n];show aP _ _ (pure (((sIx n 0 lo:Nat):Int),(1:Int),ju ((sIx n 0 lo:Nat):Int) ((sIx n n hi:Nat):Int) 1)) _ _ s;rw[Cy];exact ax h
theorem Ik(xs:Array af)(i k:Nat):((gK k).filterMap fun (m:Nat)=>xs[((i:Int)+(m:Int)*1).toNat]?).toArray=((xs.toList.drop i).take k).toArray:=by
 have e:(fun (m:Nat)=>xs[((i:Int)+(m:Int)*1).toNat]?)=fun m=>xs[i+m]?:=by
  funext m
  have:((i:Int)+(m:Int)*1).toNat=i+m:=by omega
  rw[this]
 rw[e];have:=pick_run xs i k;rw[List.filterMap_map]at this;have Z:((fun x=>xs[x]?) ∘ fun x=>i+x)=fun m=>xs[i+m]?:=rfl;rw[Z]at this;rw[this]
theorem getItem_tuple_cut{lo hi:Option Int}(ht:uk s.heap t items)(hs:s.heap.IsSliceOf sl O M .none)(pl:zO O lo)(I:zO M hi)
  (hw:¬(sIx items.size 0 lo=0/\sIx items.size items.size hi=items.size))
  (h:Q (.ref s.heap.objs.size) {s with heap:=s.heap.push {cls:=.type "tuple",data:=.seq ((items.toList.drop (sIx items.size 0 lo)).take (sIx items.size items.size hi-sIx items.size 0 lo)).toArray}})
  (hsz:items.size<=aD):aP (aS prog w) A (vc (.ref t) (.ref sl)) Q E s:=by
 have Z:sizeOk (.seq ((items.toList.drop (sIx items.size 0 lo)).take (sIx items.size items.size hi-sIx items.size 0 lo)).toArray):=by
  show ((items.toList.drop (sIx items.size 0 lo)).take (sIx items.size items.size hi-sIx items.size 0 lo)).toArray.size<=aD;rw[aH,bD,lN,bZ];omega
 have z:sIx items.size items.size hi<=items.size:=P6 _ _ (ay _) hi;obtain⟨J,U,W,D⟩:=id hs;have V:s.TypeIs (.ref sl) "slice":=⟨J,U,W⟩;unfold vc
 try with_reducible refine cU ?_
 first|refine aa (ax ?_)|skip
 refine aa (wpAny_sequenceKey ht.typeIs (by decide) ?_);refine aa (jk (name:=gy "__getitem__") ht.typeIs kj
  (eE kj ht.typeIs entry_tuple_getitem ?_ (args_tuple_getitem _ _)))
 show aP _ _ (Builtin.Tuple.tupleItemsOf (.ref t) >>= _) _ _ s;refine aa (tupleItemsOf_ ht ?_);refine aa (sF V ?_);rw[if_pos (by decide)];refine aa (uw hs pl I ?_);have Y:¬((((sIx items.size 0 lo:Nat):Int)==0&&(1:Int)==1&&(sIx items.size items.size hi-sIx items.size 0 lo)==items.size)=true):=by
  intro q;rw[gi,gi]at q;have g:((sIx items.size 0 lo:Nat):Int)=0:=eq_of_beq q.1.1;have q2:sIx items.size items.size hi-sIx items.size 0 lo=items.size:=eq_of_beq q.2;exact hw {by omega,by omega}
 show aP _ _ (if (((sIx items.size 0 lo:Nat):Int)==0&&(1:Int)==1&&(sIx items.size items.size hi-sIx items.size 0 lo)==items.size)=true then _ else _) _ _ s;rw[if_neg Y,Ik]
 first
  |exact aa (m:=jF _) (eM (ax ⟨_,rfl,ax h⟩) Z)
  |exact aa (m:=jF _) (eM (aa (ax (ax ⟨_,rfl,ax h⟩))) Z)
  |exact aa (aa (m:=jF _) (eM (ax (ax ⟨_,rfl,ax h⟩)) Z))
  |exact aa (aa (m:=jF _) (eM (ax ⟨_,rfl,ax h⟩) Z))
end
end HT
namespace L2
open PySem PySem.Spec PyProof.Rows
abbrev TO:=St->Hp->(Option Int->Hp->Prop)->Prop
def PO(X:Cx)(e:Option cK)(t:TO):Prop:=
 ∀(pins:List (ae×Obj)) (s:ai) (σ:St) (H:Hp) (Q:Option Int->Hp->Prop),Inv X pins σ H s->t σ H Q ->
  aP #[4] X.A (evalPart e X.env) (fun u s'=>∃o H',Inv X pins σ H' s'/\zO u o/\Q o H') X.xe s
def LO:TO:=fun _ H Q=>Q Z7 H
def tPart(t:TE):TO:=fun σ H Q=>t σ H fun x H1=>∃i,x=.int i/\Q (Z8 i) H1
theorem intsAre_of:∀{us:List af},cW (ns.map V.int) us->dQ us ns:=by
 induction ns with
 |nil=>intro us r;rw[kU]at r;cases r;exact .nil
 |cons n ns W=>
  intro us r;rw[bK]at r
  cases r with
  |cons Y Z=>
   obtain⟨t,e⟩:=Y;subst e;exact .cons n t (W Z)
section
variable{X:Cx}{e:cK}{te:TE}{lo hi:Option cK}{tl th:TO}{pos p2:Pos}
theorem kC:PO X Z7 LO:=by
 intro pins s σ H Q I h;rw[evalPart_none];exact ax {Z7,H,I,.none,h}
theorem kD(h:PE X e te):PO X (Z8 e) (tPart te):=by
 intro pins s σ H Q I hw;rw[evalPart_some];refine thn (h pins s σ H _ I hw) fun u V ⟨x,H1,Y,Z,W⟩=>?_;obtain⟨i,rfl,q⟩:=W;obtain⟨t,rfl⟩:=Z;exact{Z8 i,H1,Y,.int i t,q}
def SlR(X:Cx)(r:V->Option Int->Option Int->Hp->VK->Prop):Prop:=
 ∀(pins:List (ae×Obj)) (s:ai) (σ:St) (H:Hp) (x:V) (v Y Z:af) (lo hi:Option Int) (sl:ae) (Q:VK),Inv X pins σ H s->RelV x v->s.heap.IsSliceOf sl Y Z .none->zO Y lo->zO Z hi->r x lo hi H Q ->
  ∃T id,P7 (.type T) "__getitem__"=pure (Z8 (.builtin id))/\s.TypeIs v T/\aP #[4] X.A (vc v (.ref sl)) (EP X pins σ Q) X.xe s
def tSl(r:V->Option Int->Option Int->Hp->VK->Prop)(te:TE)(tl th:TO):TE:=fun σ H Q=>te σ H fun x H1=>tl σ H1 fun l H2=>th σ H2 fun u Z=>r x l u Z Q
theorem jG(hr:SlR X r)(J:PE X e te)(M:PO X lo tl)(hu:PO X hi th):PE X (.Subscript e (.Slice lo hi Z7 p2) pos) (tSl r te tl th):=by
 intro pins s σ H Q I h;refine P8 (thn (J pins s σ H _ I h) fun v g ⟨x,H1,I1,r1,q1⟩=>?_);refine wpAny_Slice (thn (M pins g σ H1 _ I1 q1) fun Y s2 ⟨l,H2,D,pl,q2⟩=>thn (hu pins s2 σ H2 _ D q2) fun W Z ⟨u,U,O,pu,q3⟩=>?_);rw[evalPart_none];refine ax ?_;have I4:Inv X pins σ U {Z with heap:=Z.heap.push {cls:=.type "slice",data:=.fields #[Y,W,.none]}}:=O.kept (t':=Z.toks) fun b ob q=>aE _ q;obtain⟨T,id,z,ht,t⟩:=hr pins {Z with heap:=Z.heap.push {cls:=.type "slice",data:=.fields #[Y,W,.none]}} σ U x v Y W l u Z.heap.objs.size Q I4 r1 (RR ..) pl pu q3;show aP #[4] X.A (FP e (.Slice lo hi Z7 p2) v (.ref Z.heap.objs.size)) (EP X pins σ Q) X.xe {Z with heap:=Z.heap.push {cls:=.type "slice",data:=.fields #[Y,W,.none]}};exact tail_any (ops:=[.ref Z.heap.objs.size,v]) ht z t (by with_unfolding_all rfl)
def me(xs:List V)(lo hi:Option Int):List V:=(xs.drop (HT.sIx xs.length 0 lo)).take (HT.sIx xs.length xs.length hi-HT.sIx xs.length 0 lo)
theorem qB(xs:List V)(lo hi:Option Int):(me xs lo hi).length<=xs.length:=by
 unfold me;rw[bD,lN];omega
def rSlT(K:ag):V->Option Int->Option Int->Hp->VK->Prop:=fun x lo hi H Q=>∃a xs,x=.ref a/\SqT K H a xs /\
 ¬(HT.sIx xs.length 0 lo=0/\HT.sIx xs.length xs.length hi=xs.length)/\∀p,H p=Z7->Q (.ref p) (upd H p (.tup (me xs lo hi)))
theorem Il:SlR X (rSlT X.K):=by
 intro pins s σ H x v U M lo hi sl Q I V hs pl W h;obtain⟨a,xs,rfl,hx,hw,q⟩:=h
 cases V;obtain⟨Y,r,ht,hz⟩:=I.tuple hx;have Z:Y.toArray.size=xs.length:=by rw[aH];exact r.length.symm
 refine{"tuple",_,kj.lookup,ht.typeIs,?_};refine HT.getItem_tuple_cut ht hs pl W (by rw[Z];exact hw) ?_ (by rw[Z];exact hz);rw[Z];refine{.ref s.heap.objs.size,_,I.laid (t':=s.toks) (o:=.tup (me xs lo hi)) (fun b O q=>aE _ q) (ay _) ?_,Z9,q _ (I.hok.fresh (ay _))};exact{cZ (qB xs lo hi) hz,_,(r.drop (HT.sIx xs.length 0 lo)).take (HT.sIx xs.length xs.length hi-HT.sIx xs.length 0 lo),Im _ _}
def rCatT(K:ag):R2:=fun x y H Q=>∃a b xs ys,x=.ref a/\y=.ref b/\SqT K H a xs/\SqT K H b ys/\xs≠[]/\xs.length+ys.length<=aD /\
 (ys=[]->Q (.ref a) H)/\(ys≠[]->∀p,H p=Z7->Q (.ref p) (upd H p (.tup (xs++ys))))
theorem cW.nil_iff(r:cW xs us):us=[]↔xs=[]:=by
 cases r with
 |nil=>simp
 |cons _ _=>simp
theorem Et:OpR X (ji .Add) (rCatT X.K):=by
 intro pins s σ H x y v u Q I D O h;obtain⟨a,b,xs,ys,rfl,rfl,ha,hb,hx,hz,M,J⟩:=h
 cases D
 cases O;obtain⟨U,Y,V,_⟩:=I.tuple ha;obtain⟨W,Z,p2,_⟩:=I.tuple hb;refine HT.cat_tup V p2 (fun z=>hx (Y.nil_iff.mp z)) (fun z=>{.ref a,H,I,Z9,M (Z.nil_iff.mp z)}) (fun z=>?_) (by rw[<- Y.length,<- Z.length];exact hz);refine{.ref s.heap.objs.size,_,I.laid (t':=s.toks) (o:=.tup (xs++ys)) (fun b t q=>aE _ q) (ay _) ?_,Z9,J (fun w=>z (Z.nil_iff.mpr w)) _ (I.hok.fresh (ay _))};exact{by rw[au];exact hz,_,Y.append Z,Im _ _}
end
def ixN(n:Nat)(i:Int):Option Nat:=if 0<=i then (if i<n then Z8 i.toNat else Z7) else if -(n:Int)<=i then Z8 (i+n).toNat else Z7
def atI{α:Type}(xs:List α)(i:Int):Option α:=(ixN xs.length i).bind fun j=>xs[j]?
theorem zP(h:ixN n i=Z8 j):seqIndex? i n=Z8 j/\j<n/\-(n:Int)<=i/\i<n:=by
 unfold ixN at h
 by_cases h0:0<=i
 ·rw[if_pos h0]at h
  by_cases h1:i<n
  ·rw[if_pos h1]at h;have e:i.toNat=j:=cF h;exact{by rw[LP h0 h1,e],by omega,by omega,h1}
  ·rw[if_neg h1]at h;cases h
 ·rw[if_neg h0]at h
  by_cases h1:-(n:Int)<=i
  ·rw[if_pos h1]at h;have e:(i+n).toNat=j:=cF h;exact{by rw[Io #[2] h1,e],by omega,h1,by omega}
  ·rw[if_neg h1]at h;cases h
theorem zQ{α:Type}{xs:List α}{v:α}(h:atI xs i=Z8 v):∃j,seqIndex? i xs.length=Z8 j/\xs[j]?=Z8 v/\j<xs.length/\-(xs.length:Int)<=i/\i<xs.length:=by
 unfold atI at h
 cases e:ixN xs.length i with
 |none=>rw[e]at h;cases h
 |some j=>
  rw[e]at h;obtain⟨h1,h2,Y,Z⟩:=zP e;exact⟨j,h1,h,h2,Y,Z⟩
theorem iO{α:Type}{xs:List α}{j:Nat}{v:α}(h:xs[j]?=Z8 v):atI xs (j:Int)=Z8 v:=by
 have Z:j<xs.length:=(aC.mp h).1;have e:ixN xs.length (j:Int)=Z8 j:=by
  unfold ixN;rw[if_pos #[2],if_pos #[2]];simp
 unfold atI;rw[e];exact h
def LQ(b:cK):Prop:=∀o i,AM b false o i=operate [o,i] (vc o i)
def IxR(X:Cx)(r:R2):Prop:=
 ∀(value Z:cK) (pins:List (ae×Obj)) (s:ai) (σ:St) (H:Hp) (x y:V) (v u:af) (Q:VK),Inv X pins σ H s->RelV x v->RelV y u->r x y H Q ->
  AM Z false v u=operate [v,u] (vc v u)->aP #[4] X.A (FP value Z v u) (EP X pins σ Q) X.xe s
def MtR(X:Cx)(id:String)(r:V->List V->Hp->VK->Prop):Prop:=
 ∀(pins:List (ae×Obj)) (s:ai) (σ:St) (H:Hp) (x:V) (xs:List V) (v:af) (us:List af) (Q:VK),Inv X pins σ H s->RelV x v->cW xs us->r x xs H Q ->
  aP #[4] X.A (vz (.builtin id) (v::us)) (EP X pins σ Q) X.xe s
section
variable{X:Cx}{a b:cK}{ta tb:TE}{pos:Pos}
theorem bR{r:R2}(Y:IxR X r)(ha:PE X a ta)(hb:PE X b tb)(hs:LQ b:=by intro _ _;rfl):PE X (.Subscript a b pos) (tOp r ta tb):=by
 intro pins s σ H Q I h;exact P8 (P2 ha hb I h fun v u s2 x y H2 W V Z q=>Y a b pins s2 σ H2 x y v u Q W V Z q (hs _ _))
inductive RIxL(K:ag)(x y:V)(H:Hp)(Q:VK):Prop where
 |mk(p:ae)(xs:List V)(i:Int)(v:V)(hx:x=.ref p)(hy:y=.int i)(s:SqL K H p xs)(e:atI xs i=Z8 v)(q:Q v H):RIxL K x y H Q
def P9(K:ag):R2:=fun x y H Q=>RIxL K x y H Q
inductive RIxT(K:ag)(x y:V)(H:Hp)(Q:VK):Prop where
 |mk(p:ae)(xs:List V)(i:Int)(v:V)(hx:x=.ref p)(hy:y=.int i)(s:SqT K H p xs)(e:atI xs i=Z8 v)(q:Q v H):RIxT K x y H Q
def rIxT(K:ag):R2:=fun x y H Q=>RIxT K x y H Q
def rIxS:R2:=fun x y H Q=>∃z i c,x=.str z/\y=.int i/\z.length<=aD/\atI z.cps.toList i=Z8 c/\Q (.str {#[c]}) H
theorem dD:IxR X (P9 X.K):=by
 intro value Z pins s σ H x y v u Q I g O h hs;obtain⟨p,xs,i,z,rfl,rfl,hq,M,q⟩:=h
 cases g;obtain⟨t,rfl⟩:=O;obtain⟨W,r,pl,hz⟩:=I.list hq;obtain⟨j,h1,h2,h3,J,h5⟩:=zQ M;obtain⟨w,U,V⟩:=r.get h2;have D:=r.length;have hn:=uo;have fin:EP X pins σ Q w s:=⟨z,H,I,V,q⟩
 by_cases h0:0<=i
 ·have Y:i.toNat=j:=by
   rw[LP h0 h5]at h1;exact cF h1
  exact item_listR pl.isList h0 #[2] (by rw[Y];simpa using U) fin hs
 ·have Y:(i+(W.toArray.size:Int)).toNat=j:=by
   rw[Io #[2] J]at h1;rw[aH,<- D];exact cF h1
  exact Iq (x:=w) pl.isList.typeIs RT.lookup
   (wpAny_getItem_list_neg (Q:=fun r s'=>r=w/\EP X pins σ Q r s') pl.isList #[2] (by rw[aH]<;>omega) #[2] (by rw[Y];simpa using U) ⟨Z9,fin⟩) hs
theorem cv:IxR X (rIxT X.K):=by
 intro value Z pins s σ H x y v u Q I J U h hs;obtain⟨p,xs,i,z,rfl,rfl,hq,O,q⟩:=h
 cases J;obtain⟨t,rfl⟩:=U;obtain⟨V,r,pl,hz⟩:=I.tuple hq;obtain⟨j,h1,h2,D,g,h5⟩:=zQ O;obtain⟨w,W,Y⟩:=r.get h2;have M:=r.length;have hn:=uo;have fin:EP X pins σ Q w s:=⟨z,H,I,Y,q⟩;exact Iq (x:=w) pl.typeIs slot_tuple_getitem.lookup
  (getItem_tuple (j:=j) (Q:=fun r s'=>r=w/\EP X pins σ Q r s') pl #[2] #[2] (by rw[aH,<- M];exact h1) (by simpa using W) ⟨Z9,fin⟩) hs
theorem Ir:IxR X rIxS:=by
 intro value Z pins s σ H x y v u Q I J W h hs;obtain⟨z,i,c,rfl,rfl,hz,V,q⟩:=h;obtain⟨t,rfl⟩:=J;obtain⟨t',rfl⟩:=W;obtain⟨j,h1,h2,g,O,D⟩:=zQ V;have U:z.cps.toList.length=z.length:=by simp[Str.length]
 rw[U]at h1 O D;have hn:=uo;exact tail_any (typeIs_str s z t) slot_str_getitem.lookup (getItem_str (c:=c) (by
  have Y:decide (i < -(2^63:Int))=false:=decide_eq_false #[2];have M:decide (i≥2^63)=false:=decide_eq_false #[2];rw[Y,M,Qa]) (by rw[h1];simpa using h2) {.str {#[c]},H,I.tok _,{_,Z9},q}) hs
theorem Cz(Z:List af)(n j:Nat)(u:af):cN (·.setIfInBounds j u) {cls:=.type "list",data:=.seq Z.toArray n}={cls:=.type "list",data:=.seq (Z.set j u).toArray n}:=by
 simp[cN]
theorem Inv.lst{σ:St}(I:Inv X pins σ H s)(h:H p=Z8 (.lst xs)) :
  ∃(Z:List af) (n:Nat),cW xs Z/\s.heap.get? p=Z8 {cls:=.type "list",data:=.seq Z.toArray n}/\xs.length<=aD:=by
 obtain⟨z,Z,n,r,e⟩:=I.hok p _ h;exact⟨Z,n,r,e,z⟩
theorem Inv.lstUpd{σ:St}{Z its':List af}(I:Inv X pins σ H s)(h:H p=Z8 (.lst xs))
  (U:s.heap.get? p=Z8 {cls:=.type "list",data:=.seq Z.toArray n}) (W:f {cls:=.type "list",data:=.seq Z.toArray n}={cls:=.type "list",data:=.seq its'.toArray Y}) (r:cW ys its') (hz:ys.length<=aD) (t:Nat) :
  Inv X pins σ (upd H p (.lst ys)) {s with heap:=s.heap.update p f,toks:=t}:=by
 have e:(s.heap.update p f).get? p=Z8 {cls:=.type "list",data:=.seq its'.toArray Y}:=by
  rw[dP f U (by rw[W]<;>rfl),W]
 refine I.write (x:=p) (e:=p) (by rw[h];trivial) (.inl rfl) (fun b u hb q=>(d9 _ _ (fb hb)).trans q) {_,e} ?_;exact⟨hz,its',Y,r,e⟩
def rSetL:V->V->V->Hp->(Hp->Prop)->Prop:=fun o i v H Q=>∃p xs k j,o=.ref p/\i=.int k/\H p=Z8 (.lst xs)/\ixN xs.length k=Z8 j/\Q (upd H p (.lst (xs.set j v)))
theorem qC:PSet X rSetL:=by
 intro pins s σ H o i v ov iv u Q I z g J h;obtain⟨p,xs,k,j,rfl,rfl,hp,D,q⟩:=h
 cases z;obtain⟨t,rfl⟩:=g;obtain⟨Z,n,r,Y,hz⟩:=I.lst hp;obtain⟨h1,h2,U,O⟩:=zP D;have V:=r.length;have hn:=uo;have M:Inv X pins σ (upd H p (.lst (xs.set j v))) {s with heap:=s.heap.update p (cN (·.setIfInBounds j u))}:=
  I.lstUpd hp Y (Cz Z n j u) (r.set J j) (by rw[xW];exact hz) s.toks
 by_cases h0:0<=k
 ·have hk:k.toNat=j:=by
   rw[LP h0 O]at h1;exact cF h1
  exact PySem.W.ki_setAt Y h0 #[2] (by rw[aH,<- V];exact O) (by rw[hk];exact{_,M,q})
 ·have hk:(k+(Z.toArray.size:Int)).toNat=j:=by
   rw[Io #[2] U]at h1;rw[aH,<- V];exact cF h1
  exact PySem.W.ki_setBack Y #[2] (by rw[aH,<- V];exact U) #[2] (by rw[hk];exact{_,M,q})
theorem zR(lo hi:Option Int)(n:Nat):(nF lo hi Z7 n).1=((HT.sIx n 0 lo:Nat):Int)/\(nF lo hi Z7 n).2.1=((HT.sIx n n hi:Nat):Int)/\(nF lo hi Z7 n).2.2=1:=by
 refine{?_,?_,Z9}
 ·cases lo with
  |none=>simp[nF,HT.sIx]
  |some i=>
   simp only[nF,HT.sIx,ve,show (1:Int)>0 by decide,if_true]
   by_cases h:i<0
   ·simp only[h,if_true]<;>omega
   ·simp only[h,if_false]<;>omega
 ·cases hi with
  |none=>simp[nF,HT.sIx]
  |some i=>
   simp only[nF,HT.sIx,ve,show (1:Int)>0 by decide,if_true]
   by_cases h:i<0
   ·simp only[h,if_true]<;>omega
   ·simp only[h,if_false]<;>omega
theorem yd(Z:List af)(lo hi:Option Int):slicePick Z.toArray lo hi Z7=((Z.drop (HT.sIx Z.length 0 lo)).take (HT.sIx Z.length Z.length hi-HT.sIx Z.length 0 lo)).toArray:=by
 obtain⟨h1,h2,Y⟩:=zR lo hi Z.toArray.size;unfold slicePick;rw[h1,h2,Y];simp only[sliceRange_one,pick_run,aH]<;>rfl
inductive SlLI(K:ag)(x:V)(lo hi:Option Int)(H:Hp)(Q:VK):Prop where
 |mk(a:ae)(xs:List V)(hx:x=.ref a)(s:SqL K H a xs)(q:∀p,H p=Z7->Q (.ref p) (upd H p (.lst (me xs lo hi)))):SlLI K x lo hi H Q
def rSlL(K:ag):V->Option Int->Option Int->Hp->VK->Prop:=fun x lo hi H Q=>SlLI K x lo hi H Q
theorem mh:SlR X (rSlL X.K):=by
 intro pins s σ H x v U M lo hi sl Q I V hs pl W h;obtain⟨a,xs,rfl,hx,q⟩:=h
 cases V;obtain⟨Y,r,ht,hz⟩:=I.list hx;have Z:=r.length;refine{"list",_,RT.lookup,ht.isList.typeIs,?_};refine wpAny_getItem_list_slice ht.isList hs pl W .none #[5] ?_ (by rw[aH]<;>omega);rw[yd,<- Z];refine{.ref s.heap.objs.size,_,I.laid (t':=s.toks) (o:=.lst (me xs lo hi)) (fun b O q=>aE _ q) (ay _) ?_,Z9,q _ (I.hok.fresh (ay _))};exact{cZ (qB xs lo hi) hz,_,0,(r.drop (HT.sIx xs.length 0 lo)).take (HT.sIx xs.length xs.length hi-HT.sIx xs.length 0 lo),aU _ rfl}
def tG:V->Bool
 |.non=>true
 |.bl _=>true
 |.int _=>true
 |.str _=>true
 |_=>false
def eqV:V->V->Bool
 |.non,.non=>true
 |.bl a,.bl b=>a==b
 |.bl a,.int b=>(if a then 1 else 0)==b
 |.int a,.bl b=>a==(if b then 1 else 0)
 |.int a,.int b=>a==b
 |.str a,.str b=>a==b
 |_,_=>false
theorem Qb(Y:RelV y u)(Z:RelV x v)(U:tG y=true)(W:tG x=true):ya A s u v (eqV y x):=by
 cases y with
 |non=>
  cases Y
  cases x with
  |non=>cases Z;exact CA _
  |bl b=>cases Z;exact SeqAt.EqAt.none_bool b
  |int b=>obtain⟨t,rfl⟩:=Z;exact SeqAt.EqAt.none_int b t
  |str b=>obtain⟨t,rfl⟩:=Z;exact SeqAt.EqAt.none_str b t
  |_=>exact absurd (show false=true from W) aT
 |bl a=>
  cases Y
  cases x with
  |non=>cases Z;exact SeqAt.EqAt.bool_none a
  |bl b=>cases Z;exact SeqAt.EqAt.bool_bool a b
  |int b=>obtain⟨t,rfl⟩:=Z;exact SeqAt.EqAt.bool_int a b t
  |str b=>obtain⟨t,rfl⟩:=Z;exact SeqAt.EqAt.bool_str a b t
  |_=>exact absurd (show false=true from W) aT
 |int a=>
  obtain⟨t',rfl⟩:=Y
  cases x with
  |non=>cases Z;exact SeqAt.EqAt.int_none a t'
  |bl b=>cases Z;exact SeqAt.EqAt.int_bool a t' b
  |int b=>obtain⟨t,rfl⟩:=Z;exact q9 a t' b t
  |str b=>obtain⟨t,rfl⟩:=Z;exact AI a t' b t
  |_=>exact absurd (show false=true from W) aT
 |str a=>
  obtain⟨t',rfl⟩:=Y
  cases x with
  |non=>cases Z;exact SeqAt.EqAt.str_none a t'
  |bl b=>cases Z;exact SeqAt.EqAt.str_bool a t' b
  |int b=>obtain⟨t,rfl⟩:=Z;exact AJ a t' b t
  |str b=>obtain⟨t,rfl⟩:=Z;exact SeqAt.EqAt.str_str a t' b t
  |_=>exact absurd (show false=true from W) aT
 |_=>exact absurd (show false=true from U) aT
def eqU(x:V)(u:af):Bool:=match u with
 |.none=>eqV .non x
 |.bool b=>eqV (.bl b) x
 |.int i _=>eqV (.int i) x
 |.str z _=>eqV (.str z) x
 |_=>false
theorem Iu(r:RelV y u)(f:tG y=true):eqU x u=eqV y x:=by
 cases y with
 |non=>cases r;rfl
 |bl b=>cases r;rfl
 |int i=>obtain⟨t,rfl⟩:=r;rfl
 |str z=>obtain⟨t,rfl⟩:=r;rfl
 |_=>exact absurd (show false=true from f) aT
theorem zS:∀{xs:List V} {us:List af},cW xs us->xs.all tG=true->us.any (eqU x)=xs.any fun y=>eqV y x
 |_,_,.nil,_=>rfl
 |y::xs,u::us,.cons r t,f=>by
  rw[Qc,gi]at f;rw[lS,lS,Iu r f.1,zS t f.2]
theorem w8(Z:RelV x v)(Y:tG x=true):∀{xs:List V} {us:List af},cW xs us->xs.all tG=true->∀u∈us,ya A s u v (eqU x u)
 |_,_,.nil,_=>fun u hu=>by cases hu
 |y::xs,u::us,.cons r t,f=>fun W hu=>by
  rw[Qc,gi]at f
  rcases aq.mp hu with rfl|hu
  ·rw[Iu r f.1];exact Qb r Z f.1 Y
  ·exact w8 Z Y t f.2 W hu
def inV(x:V)(xs:List V):Bool:=xs.any fun y=>eqV y x
def rIn(K:ag)(Z:Bool):R2:=fun x y H Q=>∃p xs,y=.ref p/\(SqL K H p xs\/SqT K H p xs)/\tG x=true/\xs.all tG=true/\Q (.bl (if Z then !inV x xs else inV x xs)) H
theorem FQ:OpR X (eB .In) (rIn X.K false):=by
 intro pins s σ H x y v u Q I Y V h;obtain⟨p,xs,rfl,hq,W,fs,q⟩:=h
 cases V
 rcases hq with hq|hq
 ·obtain⟨Z,r,pl,hz⟩:=I.list hq;refine SeqAt.in_listAt (eqU x) pl.isList (fun w hw=>w8 Y W r fs w (by simpa using hw)) {.bl _,H,I,Z9,?_};rw[show Z.toArray.any (eqU x)=Z.any (eqU x) by simp,zS r fs];exact q
 ·obtain⟨Z,r,pl,hz⟩:=I.tuple hq;refine SeqAt.in_tupleAt (eqU x) pl (fun w hw=>w8 Y W r fs w (by simpa using hw)) {.bl _,H,I,Z9,?_};rw[show Z.toArray.any (eqU x)=Z.any (eqU x) by simp,zS r fs];exact q
theorem i0:lE X (.builtin "len") (fun xs H Q=>∃p ys,xs=[.ref p]/\(SqL X.K H p ys\/SqT X.K H p ys)/\Q (.int ys.length) H):=by
 intro pins s σ H xs us Q I r h;obtain⟨p,ys,rfl,hq,q⟩:=h;obtain⟨u,rfl,V⟩:=vals1 r
 cases V;have U:=uo
 rcases hq with hq|hq
 ·obtain⟨Y,W,pl,hz⟩:=I.list hq;have Z:=W.length;exact Calls.call_len_list pl.isList (by simp only[aH]<;>omega) {.int ys.length,H,I.tok _,{s.toks+1,by rw[aH,Z]},q}
 ·obtain⟨Y,W,pl,hz⟩:=I.tuple hq;have Z:=W.length;exact len_tuple pl (by simp only[aH]<;>omega) {.int ys.length,H,I.tok _,{s.toks+1,by rw[aH,Z]},q}
theorem tH:lE X (.type "list") (fun xs H Q=>∃p ys,xs=[.ref p]/\(SqL X.K H p ys\/SqT X.K H p ys)/\∀l,H l=Z7->Q (.ref l) (upd H l (.lst ys))):=by
 intro pins s σ H xs us Q I r h;obtain⟨p,ys,rfl,hq,q⟩:=h;obtain⟨u,rfl,M⟩:=vals1 r
 cases M;have fin:∀(Z:List af),cW ys Z->ys.length<=aD->∀(h':cb) (W:Nat),(∀b o',s.heap.get? b=Z8 o'->h'.get? b=Z8 o') ->
   h'.get? s.heap.objs.size=Z8 {cls:=.type "list",dict:=Z7,data:=.seq Z.toArray W,slots:=#[]}->EP X pins σ Q (.ref s.heap.objs.size) {s with heap:=h'}:=fun Z Y hz h' W kp e=>
  {.ref s.heap.objs.size,_,I.laid (t':=s.toks) kp (ay _) (show dZ X.prog X.w _ h' _ (.lst ys) from⟨hz,Z,W,Y,e⟩),Z9,q _ (I.hok.fresh (ay _))}
 rcases hq with hq|hq
 ·obtain⟨Z,Y,pl,hz⟩:=I.list hq;have V:=Y.length;obtain⟨o,U,hc,n,O⟩:=pl.isList;exact call_list_seq p (.inl rfl) U hc O (fun h' W kp e=>fin Z Y hz h' W kp e) (by simp only[aH]<;>omega)
 ·obtain⟨Z,Y,pl,hz⟩:=I.tuple hq;have V:=Y.length;obtain⟨o,U,hc,n,O⟩:=pl;exact call_list_seq p (.inr rfl) U hc O (fun h' W kp e=>fin Z Y hz h' W kp e) (by simp only[aH]<;>omega)
theorem ye:lE X (.type "tuple") (fun xs H Q=>∃p ys,xs=[.ref p]/\((SqL X.K H p ys/\∀l,H l=Z7->Q (.ref l) (upd H l (.tup ys)))\/(SqT X.K H p ys/\Q (.ref p) H))):=by
 intro pins s σ H xs us Q I r h;obtain⟨p,ys,rfl,h⟩:=h;obtain⟨u,rfl,O⟩:=vals1 r
 cases O
 rcases h with⟨hq,q⟩|⟨hq,q⟩
 ·obtain⟨Z,Y,pl,hz⟩:=I.list hq;have W:=Y.length;refine call_tuple_list pl.isList (fun h' kp=>?_) (by simp only[aH]<;>omega);have V:Inv X pins σ H {s with heap:=h'}:=I.kept (t':=s.toks) kp;have U:Inv X pins σ (upd H h'.objs.size (.tup ys)) {s with heap:=h'.push {cls:=.type "tuple",data:=.seq Z.toArray}}:=
   V.laid (t':=s.toks) (fun b o e=>aE _ e) (ay _) (show dZ X.prog X.w _ _ _ (.tup ys) from{hz,Z,Y,Im _ _})
  exact{.ref h'.objs.size,_,U,Z9,q _ (V.hok.fresh (ay _))}
 ·obtain⟨Z,Y,pl,hz⟩:=I.tuple hq;exact call_tuple_same pl {.ref p,H,I,Z9,q}
def tyV(K:ag)(T:String)(x:V)(H:Hp):Prop:=match x with
 |.str _=>T="str"
 |.int _=>T="int"
 |.ref p=>(T="list"/\∃xs,SqL K H p xs)\/(T="tuple"/\∃o,K.lookup p=Z8 o/\o.cls=.type "tuple"/\o.dict=Z7) \/
   (T="dict"/\((∃kvs,H p=Z8 (.dK kvs))\/∃kvs,H p=Z8 (.dT kvs)))\/(T="set"/\∃S n,H p=Z8 (.set S n))
 |_=>False
theorem Iv{σ:St}(I:Inv X pins σ H s)(r:RelV x v)(ty:tyV X.K T x H) :
  s.TypeIs v T/\∀a,v=.ref a->∃W,s.heap.get? a=Z8 W/\W.dict=Z7:=by
 cases x with
 |str z=>
  obtain⟨t,rfl⟩:=r
  cases (show T="str" from ty);exact{typeIs_str s z t,fun _ e=>nomatch e}
 |int i=>
  obtain⟨t,rfl⟩:=r
  cases (show T="int" from ty);exact{typeIs_int s i t,fun _ e=>nomatch e}
 |ref p=>
  cases r
  rcases ty with⟨rfl,xs,hq⟩|⟨rfl,o,hk,hc,Z⟩|⟨rfl,hk⟩|⟨rfl,S,n,hk⟩
  ·obtain⟨U,_,pl,_⟩:=I.list hq;refine{pl.isList.typeIs,fun a e=>?_}
   cases e;obtain⟨o,n,e,c,Z,_⟩:=pl;exact⟨o,e,Z⟩
  ·refine{{o,I.kIn p o hk,hc},fun a e=>?_}
   cases e;exact{o,I.kIn _ o hk,Z}
  ·have z:∃o,s.heap.get? p=Z8 o/\o.ExactDict:=by
    rcases hk with⟨kvs,hk⟩|⟨kvs,hk⟩
    ·obtain⟨_,_,_,_,o,_,_,e,ex,_⟩:=I.hok p _ hk;exact⟨o,e,ex⟩
    ·obtain⟨_,_,_,_,o,_,_,e,ex,_⟩:=I.hok p _ hk;exact⟨o,e,ex⟩
   obtain⟨o,e,ex⟩:=z;refine{⟨o,e,ex.1⟩,fun a Y=>?_}
   cases Y;exact⟨o,e,ex.2.1⟩
  ·obtain⟨o,_,_,_,e,ex,_⟩:=I.hok p _ hk;refine{⟨o,e,ex.1⟩,fun a Y=>?_}
   cases Y;exact⟨o,e,ex.2.1⟩
 |_=>exact cY ty
def tBM0(K:ag)(T:String)(r:V->List V->Hp->VK->Prop)(to:TE):TE:=fun σ H Q=>to σ H fun x H1=>tyV K T x H1/\r x [] H1 Q
def tBM(K:ag)(T:String)(r:V->List V->Hp->VK->Prop)(to:TE)(t:TA):TE:=fun σ H Q=>to σ H fun x H1=>tyV K T x H1/\t σ H1 fun xs H2=>r x xs H2 Q
variable{o e:cK}{es:List cK}{to:TE}{t:TA}{name:Str}{apos cpos:Pos}{T id:String}{r:V->List V->Hp->VK->Prop}
theorem Qd(J:PlainAttrs T)(slot:Slot T name id)(W:typeOf (.builtin id)=pure (.type "method_descriptor"))(z:MtR X id r)(M:PE X o to)
  (Z:nr o name X.env (fY o X.env)=fY o X.env:=by rfl) (Y:(apos.endLine==cpos.line)=true:=by rfl):PE X (.Call (.Attribute o name apos) [] [] cpos) (tBM0 X.K T r to):=by
 intro pins s σ H Q I h;refine Hx Z Y (thn (M pins s σ H _ I h) fun v D ⟨x,H1,V,U,ty,O⟩=>?_);obtain⟨h1,h2⟩:=Iv V U ty;exact{T,id,J,slot,W,h1,h2,p6 rfl (Eu (z pins D σ H1 x [] v [] Q V U .nil O))}
theorem mO(pa:PlainAttrs T)(slot:Slot T name id)(U:typeOf (.builtin id)=pure (.type "method_descriptor"))(hm:MtR X id r)(ho:PE X o to)(ha:PA X (e::es) t)
  (Y:nr o name X.env (fY o X.env)=fY o X.env:=by rfl)
  (V:((jZ cpos (cz (e::es) X.env)).all (fun x=>!x.1)&&(px cpos (j9 [] X.env)).all (fun x=>x.1.isSome)
  &&decide ((e::es).length+([]:List RQ).length+(if ([]:List RQ).isEmpty then 0 else 1)<30))=true:=by rfl)
  (W:(apos.endLine==cpos.line)=true:=by rfl) (hs:cz (e::es) X.env=(false,fY e X.env)::cz es X.env:=by rfl) (Z:(jZ cpos (cz es X.env)).any (·.1)=false:=by rfl) :
  PE X (.Call (.Attribute o name apos) (e::es) [] cpos) (tBM X.K T r to t):=by
 intro pins s σ H Q I h;refine wpAny_Call_method_late Y V W rfl (thn (ho pins s σ H _ I h) fun v s1 ⟨x,H1,M,J,ty,q1⟩=>?_);obtain⟨h1,h2⟩:=Iv M J ty;refine{T,id,pa,slot,U,h1,h2,?_};have O:=ha cpos pins s1 σ H1 _ M q1;rw[hs]at O |-;refine p6 (by show (false||(jZ cpos (cz es X.env)).any (·.1))=false;rw[Z]<;>rfl) (CH ?_);exact thn O fun us s2 ⟨vs,H2,z,D,g⟩=>hm pins s2 σ H2 x vs v us Q z J D g
end
def MtM(X:Cx)(id:String)(r:V->List V->Hp->VK->Prop):Prop:=
 ∀(pins:List (ae×Obj)) (s:ai) (σ:St) (H:Hp) (x:V) (xs:List V) (v:af) (us:List af) (Q:VK),Inv X pins σ H s->RelV x v->cW xs us->r x xs H Q ->
  aP #[4] X.A (vz (.builtin id) (v::us)) (EP X pins σ Q) X.xe s
theorem cW.one:∀{x:V} {us:List af},cW [x] us->∃u,us=[u]/\RelV x u
 |_,_,r=>vals1 r
theorem cW.two:∀{x y:V} {us:List af},cW [x,y] us->∃u v,us=[u,v]/\RelV x u/\RelV y v
 |_,_,_,r=>vals2 r
theorem cW.zero:∀{us:List af},cW [] us->us=[]
 |_,.nil=>rfl
theorem cW.dropLast(h:cW xs us):cW xs.dropLast us.dropLast:=by
 induction h with
 |nil=>exact .nil
 |cons r t Z=>
  cases t with
  |nil=>exact .nil
  |cons q t'=>exact .cons r Z
theorem cW.eraseIdx:∀{xs:List V} {us:List af} (i:Nat),cW xs us->cW (xs.eraseIdx i) (us.eraseIdx i)
 |_,_,_,.nil=>.nil
 |_,_,0,.cons _ t=>t
 |_,_,i+1,.cons r t=>.cons r (cW.eraseIdx i t)
theorem cW.reverse(h:cW xs us):cW xs.reverse us.reverse:=by
 induction h with
 |nil=>exact .nil
 |cons r t Z=>rw[Iw,Iw];exact cW.append Z (.cons r .nil)
theorem CI{α:Type}(l:List α):l.eraseIdx (l.length-1)=l.dropLast:=by
 induction l with
 |nil=>rfl
 |cons a r Z=>
  cases r with
  |nil=>rfl
  |cons b r=>
   have e:(a::b::r).length-1=((b::r).length-1)+1:=by
    have h1:(a::b::r).length=r.length+2:=rfl;have h2:(b::r).length=r.length+1:=rfl;omega
   rw[e,List.eraseIdx_cons_succ,Z]
   all_goals rfl
theorem yK{α:Type}:∀(l:List α) (i:Nat),(l.eraseIdx i).length<=l.length
 | [],_=>ay _
 |_::_,0=>eD _
 |_::r,i+1=>Nat.succ_le_succ (yK r i)
section
variable{X:Cx}{pins:List (ae×Obj)}{σ:St}{H:Hp}{s:ai}{l b:ae}{xs ys zs:List V}
theorem Inv.lset{Z its':List af}(I:Inv X pins σ H s)(W:H l=Z8 (.lst xs))
  (e:s.heap.get? l=Z8 {cls:=.type "list",data:=.seq Z.toArray n}) (Y:f Z.toArray=its'.toArray) (hv:cW ys its') (hz:ys.length<=aD) :
  Inv X pins σ (upd H l (.lst ys)) {s with heap:=s.heap.update l (cN f),toks:=t'}:=by
 have q:=PySem.IsL.update e f;rw[Y]at q;refine I.write (x:=l) (e:=l) (by rw[W];exact trivial) (.inl rfl) (fun V u hb hu=>(d9 s.heap (cN f) (fb hb)).trans hu) {_,q} ?_;exact{hz,its',_,hv,q}
theorem Inv.lnew(I:Inv X pins σ H s)(hv:cW ys Z)(hz:ys.length<=aD) :
  Inv X pins σ (upd H s.heap.objs.size (.lst ys)) {s with heap:=s.heap.push {cls:=.type "list",data:=.seq Z.toArray},toks:=t'}:=
 I.laid (fun _ _ q=>aE _ q) (ay _) {hz,Z,0,hv,aU _ rfl}
theorem Inv.fresh(I:Inv X pins σ H s):H s.heap.objs.size=Z7:=I.hok.fresh (ay _)
theorem Inv.lstM(I:Inv X pins σ H s)(Y:H l=Z8 (.lst xs)):xs.length<=aD/\∃(Z:List af) (n:Nat),cW xs Z/\xs.length=Z.length/\s.heap.get? l=Z8 {cls:=.type "list",data:=.seq Z.toArray n}:=by
 obtain⟨z,Z,n,r,e⟩:=I.hok l _ Y;exact⟨z,Z,n,r,r.length,e⟩
theorem Iy(h:n<=aD):mC n=false:=by
 unfold mC;exact decide_eq_false #[2]
end
section
variable{X:Cx}
inductive AppI(x:V)(vs:List V)(H:Hp)(Q:VK):Prop where
 |mk(l:ae)(xs:List V)(y:V)(hx:x=.ref l)(hv:vs=[y])(h:H l=Z8 (.lst xs))(n:xs.length<aD)(q:Q .non (upd H l (.lst (xs++[y])))):AppI x vs H Q
def LR:V->List V->Hp->VK->Prop:=fun x vs H Q=>AppI x vs H Q
theorem ip:MtM X "list.append" LR:=by
 intro pins s σ H x vs v us Q I U W h;obtain⟨l,xs,y,rfl,rfl,Y,hz,q⟩:=h
 cases U;obtain⟨u,rfl,V⟩:=W.one;obtain⟨z,Z,n,r,O,e⟩:=I.lstM Y;refine sI F.slot_list_append {_,e,Z9} F.entry_list_append (F.args_list_append_2 _ _) (PySem.list_append l Z.toArray n u (by rw[aH];omega)) {e,?_};refine{.non,_,I.lset (its':=Z++[u]) Y e #[5] (r.append (.cons V .nil)) ?_,Z9,q};rw[au,CJ];omega
def LU:V->List V->Hp->VK->Prop:=fun x vs H Q=>∃l b xs zs,x=.ref l/\vs=[.ref b]/\H l=Z8 (.lst xs)/\H b=Z8 (.lst zs)/\xs.length+zs.length<=aD/\Q .non (upd H l (.lst (xs++zs)))
theorem FR:MtM X "list.extend" LU:=by
 intro pins s σ H x vs v us Q I rx O h;obtain⟨l,b,xs,zs,rfl,rfl,V,J,hz,q⟩:=h
 cases rx;obtain⟨u,rfl,g⟩:=O.one
 cases g;obtain⟨z,Y,n,r,hl,e⟩:=I.lstM V;obtain⟨z2,Z,t,U,M,D⟩:=I.lstM J;have hsz:Y.toArray.size+Z.toArray.size<=aD:=by rw[aH,aH];omega
 have W:¬(!Y.toArray.isEmpty&&mC (Y.toArray.size+Z.toArray.size))=true:=by
  rw[Iy hsz,Ou];exact aT
 refine sI F.slot_list_extend {_,e,Z9} F.entry_list_extend (F.args_list_extend_2 _ _)
  (AutoSeq1.list_extend_list_list_0 l Y.toArray n b Z.toArray t W (by rw[aH];omega) #[2]) {e,D,?_}
 refine{.non,_,I.lset (its':=Y++Z) V e #[5] (r.append U) ?_,Z9,q};rw[au];omega
def rPop:V->List V->Hp->VK->Prop:=fun x vs H Q=>∃l xs y,x=.ref l/\vs=[]/\H l=Z8 (.lst xs)/\xs[xs.length-1]?=Z8 y/\Q y (upd H l (.lst xs.dropLast))
theorem Qe:MtM X "list.pop" rPop:=by
 intro pins s σ H x vs v us Q I J U h;obtain⟨l,xs,y,rfl,rfl,V,hy,q⟩:=h
 cases J;have W:=U.zero;subst W;obtain⟨z,Z,n,r,O,e⟩:=I.lstM V;obtain⟨u,hu,M⟩:=r.get hy;have Y:Z.toArray[Z.toArray.size-1]?=Z8 u:=by
  show Z.toArray[Z.length-1]?=Z8 u;rw[<- jy,<- O];exact hu
 refine sI F.slot_list_pop {_,e,Z9} F.entry_list_pop (F.args_list_pop_1 _) (MeetsSeq.list_pop_last l Z.toArray n u Y (by rw[aH];omega)) {e,?_};refine{y,_,I.lset (its':=Z.dropLast) V e ?_ r.dropLast ?_,M,q}
 ·show Z.toArray.eraseIdxIfInBounds (Z.toArray.size-1)=Z.dropLast.toArray;rw[aH,vC,CI]
 ·rw[lX];omega
def Qf:V->List V->Hp->VK->Prop:=fun x vs H Q=>∃l xs i k y,x=.ref l/\vs=[.int i]/\H l=Z8 (.lst xs)/\-(2^63)<=i/\i<2^63/\seqIndex? i xs.length=Z8 k/\xs[k]?=Z8 y/\Q y (upd H l (.lst (xs.eraseIdx k)))
theorem Iz:MtM X "list.pop" Qf:=by
 intro pins s σ H x vs v us Q I M V h;obtain⟨l,xs,i,k,y,rfl,rfl,W,h1,h2,hk,hy,q⟩:=h
 cases M;obtain⟨u,rfl,O⟩:=V.one;obtain⟨t,rfl⟩:=O;obtain⟨z,Z,n,r,U,e⟩:=I.lstM W;obtain⟨w,hw,Y⟩:=r.get hy;refine sI F.slot_list_pop {_,e,Z9} F.entry_list_pop (F.args_list_pop_2 _ _)
  (MeetsSeq.list_pop_at l Z.toArray n i t k w (fitsIndex_both h1 h2) (by rw[aH,<- U];exact hk) (by rw[<- jy];exact hw) (by rw[aH];omega)) {e,?_}
 refine{y,_,I.lset (its':=Z.eraseIdx k) W e ?_ (r.eraseIdx k) ?_,Y,q}
 ·show Z.toArray.eraseIdxIfInBounds k=(Z.eraseIdx k).toArray;rw[vC]
 ·have:=yK xs k;omega
inductive CatI(x y:V)(H:Hp)(Q:VK):Prop where
 |mk(l b:ae)(xs zs:List V)(hx:x=.ref l)(hy:y=.ref b)(h:H l=Z8 (.lst xs))(g:H b=Z8 (.lst zs))(n:xs.length+zs.length<=aD)(q:∀p,H p=Z7->Q (.ref p) (upd H p (.lst (xs++zs)))):CatI x y H Q
def rCat:R2:=fun x y H Q=>CatI x y H Q
theorem sJ:OpR X (ji .Add) rCat:=by
 intro pins s σ H x y v u Q I t O h;obtain⟨l,b,xs,zs,rfl,rfl,M,U,hz,q⟩:=h
 cases t
 cases O;obtain⟨z,Y,n,r,g,e⟩:=I.lstM M;obtain⟨z2,Z,n2,W,V,J⟩:=I.lstM U;refine PySem.P.add_list e J ?_ (by rw[aH,aH];omega);have D:Y.toArray++Z.toArray=(Y++Z).toArray:=by simp
 rw[D];exact{.ref _,_,I.lnew (t':=s.toks) (r.append W) (by rw[au];omega),Z9,q _ I.fresh}
end
section
variable{prog:aI}{w:aY}{A:bJ}{E:af->ai->Prop}{s:ai}
end
section
variable{X:Cx}
end
end L2
namespace Att
open PySem PySem.W PySem.Calls PyProof.Rows
theorem ints_of_wellAll:∀(ns:List Int) (vs:List af),WellAll P h vs (ns.map WData.int)->dQ vs ns:=by
 intro ns
 induction ns with
 |nil=>
  intro vs w;rw[kU]at w
  cases w;exact .nil
 |cons n ns Z=>
  intro vs w;rw[bK]at w
  cases w with
  |cons a b=>
   cases a;exact .cons _ _ (Z _ b)
theorem script_of{l:OpenLaw}(z:l.most=Z8 n)
  (Z:l.row.toRowW.claim.pre args=true) (J:WellAll P h Y args) :
  ∃a vs ns,Y=[Value.ref a]/\args=[WData.list (ns.map WData.int)]/\h.get? a=Z8 {cls:=.type "list",data:=.seq vs.toArray}/\dQ vs ns/\ns.length<=n:=by
 have M:WShape.hasAll [] args [.list .int]=true:=(pre_splitW Z).1;have hc:l.pre.holds [] {args:=args}=true:=(pre_splitW Z).2;obtain⟨d,r,rfl,h1,h2⟩:=hasAllW_cons M;obtain rfl:=hasAllW_nil h2;obtain⟨xs,rfl,I⟩:=hasW_list h1;obtain⟨ns,rfl⟩:=items_int I;have W:ns.length<=n:=by
  unfold OpenLaw.pre at hc;have U:(WTm.not (.lt (.lit (.int (n:Int))) (.len (.arg 0)))).holds [] {args:=[.list (ns.map .int)]}=true:=by
   have U:=(holds_andW hc).1;rw[z]at U;exact U
  have O:=condW_of U (w_not (w_lt w_lit (w_len_list (w_arg rfl))));rw[ah]at O;refine Nat.le_of_not_lt fun q=>?_;have D:(n:Int)<((ns.length:Nat):Int):=by omega
  first
   |(rw[decide_eq_true D]at O;exact absurd O (by decide))
   |(simp at O;omega)
 cases J with
 |cons g w2=>
  cases w2
  cases g with
  |list t V=>exact{_,_,ns,Z9,Z9,t,ints_of_wellAll ns _ V,W}
theorem post_true(l:OpenLaw)(args:List WData):l.row.toRowW.claim.post args (.bool true) args=true:=
 postW_of (r:=l.row.toRowW) (X:=(true==true))
  (show RV [] (.bool true) .bool=true by first|rfl|decide|simp[RV,WShape.arms,WShape.armsAll])
  (show (WTm.eq .res (.lit (.bool true))).value [] {args:=args,res:=Z8 (.bool true),after:=args}=Z8 (.bool (true==true)) from w_eq_bool (w_res rfl) w_lit) rfl
section
variable{prog:aI}{w:aY}{A:bJ}{E:af->ai->Prop}{s:ai}{K:Frag}
end
end Att
namespace L2
open PySem PySem.Spec PyProof.Rows
theorem yL:∀{vs:List af} {ns:List Int},dQ vs ns->cW (ns.map V.int) vs
 |_,_,.nil=>.nil
 |_,_,.cons n t h=>.cons ⟨t,Z9⟩ (yL h)
def Only(H:Hp):Prop:=∀b,H b=Z7\/∃o xs,H b=Z8 (.frz o (.lst xs))
theorem IA{K:ag}
  (KX:K.In Z.heap) (cs:Z.heap.Ns bP mg) (hb:Z.heap.Ns PQ mb) (cn:∀x:Str,x≠"__name__"->mb x=eV x) (cx:Z.heap.NoLimit) (hg:Z.gens=#[])
  (ha:Z.heap.get? a=Z8 {cls:=.type "list",data:=.seq vs.toArray}) (hi:dQ vs ns) (hl:ns.length<=aD) (hr:dJ k yf)
  (F:∀base:cb,K.In base->base.Ns bP mg->bN P w K mg base CX k fa fd [x] sp) (O:∀(s:ai) (u:af),uY s fd {[u],[]} [(x,u)])
  (cr:∀H:Hp,Only H->SqL K H a (ns.map V.int)->sp [.ref a] H (fun v _=>v=.bl true) fun _ _ _=>False)
  (cl:∀H e s',CX [] H Z (fun _ _ _=>False) e s'->False) :
  kS (aS P w) yf (.call (.ref fa) {[.ref a],[]}) (fun r s'=>r=.ok (.ret (.bool true))/\OldK Z.heap s'.heap/\s'.os=Z.os/\p8 s'.gens) Z:=by
 have rv:=yL hi;have g:=hi.length
 -- from an abstract heap in which nothing but the script may be tracked
 have U:∀H:Hp,Only H->SqL K H a (ns.map V.int)->HOk P w H Z.heap->(∀b,H b≠Z7->b=a)->(H a≠Z7->K.lookup a=Z7) ->
   kS (aS P w) yf (.call (.ref fa) {[.ref a],[]}) (fun r s'=>r=.ok (.ret (.bool true))/\OldK Z.heap s'.heap/\s'.os=Z.os/\p8 s'.gens) Z:=by
  intro H hO hS I hA hK;have Y:∀{b:ae} {o:Obj},Z.heap.get? b=Z8 o->H b=Z7->(zy Z.heap H).get? b=Z8 o:=fun e n=>HF e n;have cp:∀{b:ae} {o:Obj} {es:Array Hy} {ep:Nat},Z.heap.get? b=Z8 o->o.data=.dict es ep->H b=Z7:=fun {b o es ep} e d=>by
   cases q:H b with
   |none=>rfl
   |some u=>
    have e':b=a:=hA b (by rw[q];simp);subst e';rw[ha]at e;cases e;have d':Data.seq vs.toArray _=Data.dict es ep:=d
    cases d'
  have W:∀{b:ae} {m:Str->Option af},Z.heap.Ns b m->(zy Z.heap H).Ns b m:=fun {b m} ⟨o,es,ep,e,d,r⟩=>{o,es,ep,Y e (cp e d),d,r};have D:K.In (zy Z.heap H):=fun b o e=>Y (KX b o e) (by
   cases q:H b with
   |none=>rfl
   |some u=>
    have e':b=a:=hA b (by rw[q];simp);subst e';rw[hK (by rw[q];simp)]at e;cases e)
  have hM:Mod K mg (zy Z.heap H):={D,W cs,{mb,W hb,cn},let ⟨mc,h1,h2⟩:=cx;{mc,W h1,h2}};have e0:zI P w K mg (zy Z.heap H) yf [] Z H:={Z9,hM,fun b o e=>Lz e,Nat.le_of_eq (FE _ _),trivial,fun b hb=>absurd (show b∈([]:List ae) from hb) #[5],I,.of_eq hg};refine jD ((F _ D (W cs)).run yf [] Z H {[.ref a],[]} [.ref a] [.ref a] _ _ hr e0 (O Z (.ref a)) (.cons rfl .nil) (cr H hO hS)) fun r s' h=>?_
  cases r with
  |error e=>exact (cl H e s' h).elim
  |ok fl=>
   cases fl with
   |next=>exact cY h
   |brk=>exact cY h
   |cont=>exact cY h
   |ret u=>
    obtain⟨v,H',os,t,un,M,r',q⟩:=h;have q':v=.bl true:=q;subst q';obtain rfl:u=Value.bool true:=r';refine{Z9,OldK.of_keep fun b o e=>?_,os,t}
    cases q:H b with
    |none=>exact un.keep b o e q (by intro z;exact absurd (show b∈([]:List ae) from z) #[5]) #[5]
    |some u=>
     rcases hO b with z|⟨ob,xs,z⟩
     ·rw[q]at z;cases z
     ·have z2:=un.frzs b ob _ z;obtain⟨e1,_⟩:=I b _ z;obtain⟨e2,_⟩:=M b _ z2;rw[e]at e1;cases e1;exact e2
 cases hk:K.lookup a with
 |some o=>
  -- the script is one of the module's own objects
  have e:=KX a o hk;rw[ha]at e
  cases e;refine U (fun _=>Z7) (fun _=>.inl rfl) (.inr {_,vs.toArray,_,hk,Z9,Z9,Z9,by rw[aH,g];exact hl,by simpa using rv}) (fun b u z=>by have J:(Z7:Option HO)=Z8 u:=z;cases J) (fun b z=>absurd rfl z) fun z=>absurd rfl z
 |none=>
  refine U (fun b=>if b=a then Z8 (.frz {cls:=.type "list",data:=.seq vs.toArray} (.lst (ns.map V.int))) else Z7) (fun b=>?_) (.inl (.inr {{cls:=.type "list",data:=.seq vs.toArray},if_pos rfl})) (fun b u z=>?_) (fun b z=>?_) fun _=>hk
  ·by_cases hb:b=a
   ·exact .inr {_,_,if_pos hb}
   ·exact .inl (if_neg hb)
  ·by_cases hb:b=a
   ·have J:=(if_pos hb).symm.trans z
    cases J;subst hb;exact{ha,by rw[ah];exact hl,vs,_,rv,ha}
   ·have J:=(if_neg hb).symm.trans z
    cases J
  ·by_cases hb:b=a
   ·exact hb
   ·exact absurd (if_neg hb) z
def hW(s:df)(j:Nat):df:=match s with
 |.ClassDef _ _ _ Z _ _ _ _ _ _ _=>Z.getD j (.Pass {0,0,0,0})
 |_=>.Pass {0,0,0,0}
def mi(s:df):Arguments:=match s with
 |.FunctionDef _ a _ _ _ _ _ _ _ _=>a
 |_=>{posonlyargs:=[],args:=[],vararg:=Z7,kwonlyargs:=[],kw_defaults:=[],kwarg:=Z7,defaults:=[]}
def j6(s:df):List df:=match s with
 |.FunctionDef _ _ b _ _ _ _ _ _ _=>b
 |_=>[]
def aR(s:df):kM:=match s with
 |.FunctionDef _ _ _ _ _ _ sc _ _ _=>sc
 |_=>{kind:=.function,names:=[],isGenerator:=false,isCoroutine:=false}
abbrev CX0:CXT:=fun _ _ _ _ _ _=>False
abbrev E0:XK:=fun _ _ _=>False
theorem jV:mI CX0 X E0:=fun _ _ _ _ _ _ _ h=>h.elim
structure Fun(K:ag)(x qual:Str)(st:df)(f:ae)(fd:bY):Prop where
 ex:∃(oc:af) (od:Option ae) (kV doc pm:af) (an:Option ae) (cdv ct:af) (osl:Array (Option af)),
  fd=fu x qual (mi st) (j6 st) (aR st) .none kV doc pm an cdv ct/\K.lookup f=Z8 {oc,od,.func fd,osl}/\kA K cdv qual=true
 kp:gX K (.ref f)=true
section
variable{P:aI}{w:aY}{K:ag}{mg:Str->Option af}{base:cb}
theorem Fun.ok{st:df}(F:Fun K x Z st f fd)(S:bM N ps (aR st))(len:∀vs H Q E,sp vs H Q E->vs.length=ps.length)
  (W:∀(Y:af) (A:bJ) (outer:List Env) (s:ai) (H:Hp) (vs:List V) (Q:VK) (E:XK),dJ k (A.deeper (uv Z (aR st) s.heap.objs.size f Y))->sp vs H Q E ->
   ∃t,PSs (rE CX0 P w K mg base N Z (aR st) f Y A outer s H E).nox (j6 st) t/\t {nx:=fun _ H'=>Q .non H',rt:=Q} (start N vs) H):bN P w K mg base CX0 (k+1) f fd ps sp:=by
 obtain⟨g,od,kV,J,pm,z,Y,ct,I,rfl,M,O⟩:=F.ex;refine Ot M O S len fun A outer s H vs Q E D U=>?_;obtain⟨t,h,q⟩:=W Y A outer s H vs Q E D U;exact⟨t,h.nox,q⟩
theorem Fun.binds{st:df}(F:Fun K x Z st f fd)
  (h:∀(kV W U:af) (V:Option ae) (Y ct:af) (us:List af),us.length=ps.length->Cs (fu x Z (mi st) (j6 st) (aR st) .none kV W U V Y ct) {us,[]}=pure (ps.zip us)):Binds K fd ps []:=by
 obtain⟨I,od,kV,W,U,V,Y,ct,O,rfl,J,M⟩:=F.ex;exact .all (h kV W U V Y ct)
theorem IB{st:df}{V:Array (Option af)}{kV W O Y ct:af}(l:K.lookup f=Z8 {M,od,.func (fu x Z (mi st) (j6 st) (aR st) .none kV W O U Y ct),V})
  (c:kA K Y Z=true) (k:gX K (.ref f)=true):Fun K x Z st f (fu x Z (mi st) (j6 st) (aR st) .none kV W O U Y ct):={⟨M,od,kV,W,O,U,Y,ct,V,Z9,l,c⟩,k}
end
theorem qD(Z:dJ k A):A.units+1<dM:=jm (tI (by decide:1<=64) _) Z.units
section
variable{X:Cx}
theorem pv(i:Nat){x:Str}{pos:Pos}(Y:X.N[i]?=Z8 x:=by rfl)(hv:Vis X.env.scope x:=by first|exact Or.inl rfl|exact Or.inr (Or.inl rfl)|exact Or.inr (Or.inr rfl))(W:(x==("__debug__":Str))=false:=by decide)
  (Z:(x==("__classdict__":Str))=false:=by decide):PE X (.Name x pos) (LC i):=PR Y hv W Z
end
theorem gz{A B:Prop}(h:B):if false=true then A else B:=by
 rw[if_neg aT];exact h
theorem iU{A B:Prop}(h:A):if true=true then A else B:=by
 rw[if_pos rfl];exact h
theorem gA{c A B:Prop}[Decidable c](h1:c->A)(h2:¬c->B):if c then A else B:=by
 by_cases h:c
 ·rw[if_pos h];exact h1 h
 ·rw[if_neg h];exact h2 h
def bj(H H':Hp):Prop:=∀b o,H b=Z8 o->H' b=Z8 o
theorem bj.refl(H:Hp):bj H H:=fun _ _ h=>h
theorem bj.trans(a:bj H H1)(b:bj H1 H2):bj H H2:=fun c o h=>b c o (a c o h)
theorem bj.free(e:bj H H')(h:H' l=Option.none):H l=Option.none:=by
 cases q:H l with
 |none=>rfl
 |some o=>
  rw[e l o q]at h
  cases h
section
variable{κ:Type}[DecidableEq κ]
def iR(kvs:List (κ×V))(k:κ):Option V:=(kvs.find? fun Z=>decide (Z.1=k)).map (·.2)
def iV(kvs:List (κ×V))(k:κ)(v:V):List (κ×V):=
 if (kvs.any fun Z=>decide (Z.1=k))=true then kvs.map (fun Z=>if Z.1=k then (Z.1,v) else Z) else kvs++[(k,v)]
theorem gZ{p:κ×V}{r:List (κ×V)}{k:κ}(e:p.1=k):iR (p::r) k=Z8 p.2:=by simp[iR,iF,e]
theorem g9{p:κ×V}{r:List (κ×V)}{k:κ}(e:¬p.1=k):iR (p::r) k=iR r k:=by simp[iR,iF,e]
theorem jH(k:κ):∀kvs:List (κ×V),(kvs.any fun Z=>decide (Z.1=k))=(iR kvs k).isSome
 | []=>rfl
 |p::r=>by
  rw[lS]
  by_cases e:p.1=k
  ·simp only[gZ e,decide_eq_true e,Bool.true_or,Option.isSome_some]
  ·rw[g9 e,decide_eq_false e,Bool.false_or];exact jH k r
theorem A9(k j:κ)(y:V):∀kvs:List (κ×V),iR (kvs.map fun Z=>if Z.1=k then (Z.1,y) else Z) j=(iR kvs j).map fun x=>if j=k then y else x
 | []=>rfl
 |p::r=>by
  have Y:=A9 k j y r;rw[bK]
  by_cases h:p.1=k
  ·rw[if_pos h]
   by_cases e:p.1=j
   ·rw[gZ (p:=(p.1,y)) e,gZ e,kd,if_pos (e.symm.trans h)]
   ·rw[g9 (p:=(p.1,y)) e,g9 e,Y]
  ·rw[if_neg h]
   by_cases e:p.1=j
   ·rw[gZ (p:=p) e,gZ e,kd,if_neg (fun z=>h (e.trans z))]
   ·rw[g9 (p:=p) e,g9 e,Y]
theorem yM(k j:κ)(y:V):∀kvs:List (κ×V),iR kvs k=Z7->iR (kvs++[(k,y)]) j=if j=k then Z8 y else iR kvs j
 | [],_=>by
  by_cases e:k=j
  ·rw[if_pos e.symm];exact gZ (p:=(k,y)) e
  ·rw[if_neg (fun z=>e z.symm)];exact g9 (p:=(k,y)) e
 |p::r,Z=>by
  rw[vR];have hk:¬p.1=k:=fun z=>by rw[gZ z]at Z;cases Z
  rw[g9 hk]at Z;have Y:=yM k j y r Z
  by_cases e:p.1=j
  ·rw[gZ e,gZ e,if_neg (fun z=>hk (e.trans z))]
  ·rw[g9 e,g9 e,Y]
theorem IC(kvs:List (κ×V))(k j:κ)(y:V):iR (iV kvs k y) j=if j=k then Z8 y else iR kvs j:=by
 unfold iV
 by_cases a:(kvs.any fun Z=>decide (Z.1=k))=true
 ·rw[if_pos a,A9];rw[jH]at a
  by_cases e:j=k
  ·obtain⟨x,hx⟩:=yH.mp a;rw[if_pos e,e,hx,kd,if_pos rfl]
  ·rw[if_neg e]
   cases iR kvs j with
   |none=>rfl
   |some x=>rw[kd,if_neg e]
 ·rw[if_neg a];refine yM k j y kvs ?_;rw[jH]at a
  cases q:iR kvs k with
  |none=>rfl
  |some x=>rw[q]at a;exact (a rfl).elim
theorem nY(kvs:List (κ×V))(k:κ)(v:V):(iV kvs k v).length<=kvs.length+1:=by
 unfold iV
 split
 ·rw[ah];omega
 ·rw[au,aX,cI];omega
theorem ID{kvs:List (κ×V)}{k:κ}(v:V)(h:iR kvs k=Z7):iV kvs k v=kvs++[(k,v)]:=by
 unfold iV;rw[jH,h];exact if_neg (by decide)
theorem p5.isSome_eq(r:p5 o u):o.isSome=u.isSome:=by
 cases o with
 |none=>cases u with
  |none=>rfl
  |some _=>exact (show False from r).elim
 |some _=>cases u with
  |none=>exact (show False from r).elim
  |some _=>rfl
theorem KV.val{kvs:List (κ×V)}{vs:List (κ×af)}(r:KV kvs vs)(k:κ):p5 (iR kvs k) (qf vs k):=by
 unfold KV at r
 induction r with
 |nil=>exact True.intro
 |@cons p q ps qs h t Y=>
  obtain⟨h1,h2⟩:=h
  by_cases e:p.1=k
  ·have Z:q.1=k:=h1.symm.trans e;have b:qf (q::qs) k=Z8 q.2:=by simp[qf,iF,Z]
   rw[gZ e,b];exact h2
  ·have Z:¬q.1=k:=fun z=>e (h1.trans z);have b:qf (q::qs) k=qf qs k:=by simp[qf,iF,Z]
   rw[g9 e,b];exact Y
theorem KV.any{kvs:List (κ×V)}{vs:List (κ×af)}(r:KV kvs vs)(k:κ):(kvs.any fun Z=>decide (Z.1=k))=vs.any fun Z=>decide (Z.1=k):=by
 unfold KV at r
 induction r with
 |nil=>rfl
 |cons h t Y=>rw[lS,lS,Y,h.1]
theorem KV.repl{kvs:List (κ×V)}{vs:List (κ×af)}(r:KV kvs vs)(k:κ){y:V}{u:af}(Y:RelV y u) :
  KV (kvs.map fun Z=>if Z.1=k then (Z.1,y) else Z) (vs.map fun Z=>if Z.1=k then (Z.1,u) else Z):=by
 unfold KV at r |-
 induction r with
 |nil=>exact .nil
 |@cons p q ps qs h t W=>
  rw[bK,bK];refine .cons ?_ W;obtain⟨h1,h2⟩:=h
  by_cases e:p.1=k
  ·rw[if_pos e,if_pos (h1.symm.trans e)];exact⟨h1,Y⟩
  ·rw[if_neg e,if_neg (fun z=>e (h1.trans z))];exact⟨h1,h2⟩
theorem KV.put{kvs:List (κ×V)}{vs:List (κ×af)}(r:KV kvs vs)(k:κ){y:V}{u:af}(Z:RelV y u):KV (iV kvs k y) (w9 vs k u):=by
 unfold iV w9;rw[r.any k]
 by_cases e:(vs.any fun Y=>decide (Y.1=k))=true
 ·rw[if_pos e,if_pos e];exact r.repl k Z
 ·rw[if_neg e,if_neg e];exact dy r ⟨Z9,Z⟩
theorem KV.length{kvs:List (κ×V)}{vs:List (κ×af)}(r:KV kvs vs):kvs.length=vs.length:=aL r
end
theorem yN(r:RelV (kV k) u):(cP P w).is k u=true:=by
 cases k with
 |inl i=>obtain⟨t,e⟩:=(show ∃t,u=Value.int i t from r);subst e;exact A0 P w i t
 |inr x=>obtain⟨t,e⟩:=(show ∃t,u=Value.str x t from r);subst e;exact A1 P w x t
theorem yO:∀{ks:List Key} {us:List af},cW (ks.map kV) us->ItemsAre (cP P w) ks us
 | [],_,r=>by rw[kU]at r;cases r;exact .nil
 |k::ks,_,r=>by
  rw[bK]at r
  cases r with
  |cons h t=>exact .cons (yN h) (yO t)
abbrev KT(H:Hp):List (List Key×V)->List (List Key×ae×af)->Prop:=aN fun p q=>p.1=q.1/\H q.2.1=Z8 (.tup (p.1.map kV))/\RelV p.2 q.2.2
theorem KT.val(r:KT H kvs xs)(k:List Key):p5 (iR kvs k) ((pA xs k).map (·.2)):=by
 induction r with
 |nil=>exact True.intro
 |@cons p q ps qs h t Y=>
  obtain⟨h1,_,h2⟩:=h
  by_cases e:p.1=k
  ·have Z:q.1=k:=h1.symm.trans e;have b:pA (q::qs) k=Z8 q.2:=by simp[pA,iF,Z]
   rw[gZ e,b];exact h2
  ·have Z:¬q.1=k:=fun z=>e (h1.trans z);have b:pA (q::qs) k=pA qs k:=by simp[pA,iF,Z]
   rw[g9 e,b];exact Y
theorem KT.repl(r:KT H kvs xs)(k:List Key)(U:RelV y u) :
  KT H (kvs.map fun Z=>if Z.1=k then (Z.1,y) else Z) (xs.map (putAt k u)):=by
 induction r with
 |nil=>exact .nil
 |@cons p q ps qs h t Y=>
  rw[bK,bK];refine .cons ?_ Y;obtain⟨h1,h2,W⟩:=h;unfold putAt
  by_cases e:p.1=k
  ·rw[if_pos e,if_pos (h1.symm.trans e)];exact⟨h1,h2,U⟩
  ·rw[if_neg e,if_neg (fun z=>e (h1.trans z))];exact⟨h1,h2,W⟩
theorem KT.put(r:KT H kvs xs)(k:List Key)(hb:H b=Z8 (.tup (k.map kV)))(Z:RelV y u) :
  KT H (iV kvs k y) (RW xs k b u):=by
 have e:(kvs.any fun Y=>decide (Y.1=k))=(pA xs k).isSome:=by
  rw[jH,(r.val k).isSome_eq,kL]
 unfold iV RW;rw[e]
 by_cases q:(pA xs k).isSome=true
 ·rw[if_pos q,if_pos q];exact r.repl k Z
 ·rw[if_neg q,if_neg q];exact dy r ⟨Z9,hb,Z⟩
theorem KT.keeps(r:KT H kvs xs)(ht:∀b ys,H b=Z8 (.tup ys)->H' b=Z8 (.tup ys)):KT H' kvs xs:=
 Paired.mapP r fun _ _ z=>{z.1,ht _ _ z.2.1,z.2.2}
section
variable{P:aI}{w:aY}{H:Hp}{h:cb}{a:ae}
theorem Ov(ok:HOk P w H h)(e:Rd H a u):dZ P w H h a u:=e.ok ok
theorem Ew(ok:HOk P w H h)(e:Rd H a (.dK kvs)):kvs.length<=aD/\(a==eF)=false/\∃vs,KV kvs vs/\h.DictOf (cP P w) a vs:=
 show dZ P w H h a (.dK kvs) from Ov ok e
theorem Ow(ok:HOk P w H h)(e:H a=Z8 (.dK kvs)):kvs.length<=aD/\(a==eF)=false/\∃vs,KV kvs vs/\h.DictOf (cP P w) a vs:=Ew ok (.inl e)
theorem xa(ok:HOk P w H h)(e:H a=Z8 (.tup (ks.map kV))):(zx (cP P w)).is h ks a:=by
 obtain⟨_,Z,r,o,h1,h2,n,Y⟩:=(show dZ P w H h a (.tup (ks.map kV)) from ok a _ e);exact{o,Z.toArray,n,h1,h2,Y,by simpa using yO r}
theorem Ey(ok:HOk P w H h)(e:Rd H a (.dT kvs)):kvs.length<=aD/\(a==eF)=false /\
  ∃xs,KT H kvs xs/\h.DictOfH (zx (cP P w)) a xs:=by
 obtain⟨z,y,xs,r,o,es,ep,h1,h2,Y,Z,W⟩:=(show dZ P w H h a (.dT kvs) from Ov ok e);refine{z,y,xs,r,o,es,ep,h1,h2,Y,Z,fun x hx=>?_,W};have all:∀{l:List (List Key×V)} {m:List (List Key×ae×af)},KT H l m->∀x∈m,(zx (cP P w)).is h x.1 x.2.1:=by
  intro l m q
  induction q with
  |nil=>intro x hx;exact nomatch hx
  |@cons p q ps qs hq t U=>
   intro x hx
   rcases aq.mp hx with e|hx
   ·subst e;exact xa ok (by rw[<- hq.1];exact hq.2.1)
   ·exact U x hx
 exact all r x hx
theorem dt_of(ok:HOk P w H h)(e:H a=Z8 (.dT kvs)):kvs.length<=aD/\(a==eF)=false /\
  ∃xs,KT H kvs xs/\h.DictOfH (zx (cP P w)) a xs:=Ey ok (.inl e)
end
def sL(H:Hp)(a:ae)(y:V)(r:Option V):Prop:=
 (∃kvs k,Rd H a (.dK kvs)/\y=kV k/\r=iR kvs k)\/∃kvs k b,Rd H a (.dT kvs)/\y=.ref b/\H b=Z8 (.tup (k.map kV))/\r=iR kvs k
def ux(H:Hp)(a:ae)(y v:V)(H':Hp):Prop:=
 (∃kvs k,H a=Z8 (.dK kvs)/\y=kV k/\kvs.length<aD/\H'=upd H a (.dK (iV kvs k v))) \/
 ∃kvs k b,H a=Z8 (.dT kvs)/\y=.ref b/\H b=Z8 (.tup (k.map kV))/\kvs.length<aD/\H'=upd H a (.dT (iV kvs k v))
theorem sL.k{k:Key}(e:H a=Z8 (.dK kvs)):sL H a (kV k) (iR kvs k):=.inl {kvs,k,.inl e,Z9,Z9}
theorem ux.k{k:Key}(e:H a=Z8 (.dK kvs))(Z:kvs.length<aD):ux H a (kV k) v (upd H a (.dK (iV kvs k v))):=.inl ⟨kvs,k,e,Z9,Z,Z9⟩
section
variable{X:Cx}{pins:List (ae×Obj)}{σ:St}{H:Hp}{s:ai}{a:ae}{y v:V}{u r:af}{o:Option V}{A:bJ}{E:af->ai->Prop}
theorem Inv.big(I:Inv X pins σ H s):eF<s.heap.objs.size:=by
 have h:bP<s.heap.objs.size:=(I.mod.glob.keeps I.bk).lt;exact jn (by decide) h
theorem FS(hu:A.units+1<dM)(I:Inv X pins σ H s)(g:sL H a y (Z8 v))(O:RelV y u)(h:∀W s',Inv X pins σ H s'->RelV v W->Q W s') :
  aP #[4] A (vc (.ref a) u) Q E s:=by
 rcases g with⟨kvs,k,e,V,l⟩|⟨kvs,k,b,e,V,M,l⟩
 ·subst V;obtain⟨z,J,vs,Z,dd⟩:=Ew I.hok e;obtain⟨W,hw,Y⟩:=p5.some_of (v:=v) (o:=qf vs k) (by rw[l];exact Z.val k);exact wpAny_getItem_of (yN O) dd.mapOf hw (h W _ (I.tok _) Y)
 ·subst V
  cases (show u=Value.ref b from O);obtain⟨z,J,xs,Z,dd⟩:=Ey I.hok e;obtain⟨W,hw,Y⟩:=p5.some_of (v:=v) (o:=(pA xs k).map (·.2)) (by rw[l];exact Z.val k);obtain⟨p,hp,U⟩:=dI.mp hw;refine Qg (xb hu) (xa I.hok M) dd hp ?_;rw[U];exact h W _ (I.tok _) Y
theorem d_in(hu:A.units+1<dM)(I:Inv X pins σ H s)(g:sL H a y o)(V:RelV y u)(h:∀s',Inv X pins σ H s'->Q (.bool o.isSome) s') :
  aP #[4] A (eB .In u (.ref a)) Q E s:=by
 rcases g with⟨kvs,k,e,Y,l⟩|⟨kvs,k,b,e,Y,U,l⟩
 ·subst Y;obtain⟨z,W,vs,Z,dd⟩:=Ew I.hok e;refine wpAny_in_of (yN V) W dd.mapOf ?_;rw[<- (Z.val k).isSome_eq,<- l];exact h _ (I.tok _)
 ·subst Y
  cases (show u=Value.ref b from V);obtain⟨z,W,xs,Z,dd⟩:=Ey I.hok e;refine wpAny_in_heap (xb hu) (xa I.hok U) W dd ?_;have q:=(Z.val k).isSome_eq;rw[kL]at q;rw[<- q,<- l];exact h _ (I.tok _)
theorem vS(I:Inv X pins σ H s)(Y:Mut (H a))(hs:gU a s.heap h')(W:∃q,h'.get? a=Z8 q)(new:dZ X.prog X.w (upd H a Z) h' a Z) :
  Inv X pins σ (upd H a Z) {s with heap:=h',toks:=t'}:=
 I.write (x:=a) (e:=a) Y (.inl rfl) (fun b q hb z=>(hs.2 b hb).trans z) W new
theorem zT(z:kvs.length<=aD)(Y:(a==eF)=false)(Z:KV kvs vs)(dd:h'.DictOf (cP P w) a vs) :
  dZ P w H' h' a (.dK kvs):=⟨z,Y,vs,Z,dd⟩
theorem FT(hu:A.units+1<dM)(I:Inv X pins σ H s)(g:ux H a y v H')(J:RelV y u)(M:RelV v r)(h:∀s',Inv X pins σ H' s'->Q () s') :
  aP #[4] A (setItem (.ref a) u r) Q E s:=by
 rcases g with⟨kvs,k,e,V,l,W⟩|⟨kvs,k,b,e,V,t,l,W⟩
 ·subst V W;obtain⟨z,U,vs,Z,dd⟩:=Ow I.hok e;have hz:vs.length<=aD:=by rw[<- Z.length];exact z
  have O:(iV kvs k v).length<=aD:=by have:=nY kvs k v;omega
  refine wpAny_setItem_pairs (hsz:=hz) (yN J) dd fun h' Y hs=>h _ ?_;have he:∃q,h'.get? a=Z8 q:=let ⟨q,_,_,hq,_⟩:=Y;⟨q,hq⟩;exact vS I (by rw[e];exact True.intro) hs he (zT O U (Z.put k M) Y)
 ·subst V W
  cases (show u=Value.ref b from J);obtain⟨z,U,xs,Z,dd⟩:=dt_of I.hok e;have hz:xs.length<=aD:=by rw[<- aL Z];exact z
  have O:(iV kvs k v).length<=aD:=by have:=nY kvs k v;omega
  refine Qh (hsz:=hz) (xb hu) (xa I.hok t) dd fun h' Y hs=>h _ ?_;obtain⟨q,es,ep,hq,h2,h3,h4,_,h5⟩:=Y;refine vS I (by rw[e];exact True.intro) hs ⟨q,hq⟩ {O,U,_,(Z.put k t M).keeps fun c ys D=>?_,q,es,ep,hq,h2,h3,h4,h5};rw[aQ (kg D e (fun z=>nomatch z))];exact D
end
section
variable{X:Cx}{pins:List (ae×Obj)}{σ:St}{H:Hp}{s:ai}{a:ae}{kvs:List (Key×V)}{k:Key}{u:af}{A:bJ}{E:af->ai->Prop}
end
def LV(i:cK):Prop:=∀Z iv,AM i false Z iv=operate [Z,iv] (vc Z iv)
theorem Ez{T id:String}
  (M:P7 (.type T) "__getitem__"=pure (Z8 (.builtin id))) (hs:LV Z)
  (h:aP (aS prog w) A (fY value env) (fun o V=>aP (aS prog w) A (fY Z env) (fun i Y=>Y.TypeIs o T/\aP (aS prog w) A (vc o i) Q E Y) E V) E s) :
  aP (aS prog w) A (fY (.Subscript value Z pos) env) Q E s:=by
 refine P8 (eQ h (fun o V U=>eQ U (fun i Y W=>?_) fun _ _ x=>x) fun _ _ x=>x);obtain⟨O,W⟩:=W;unfold FP;refine aa ?_;rw[getitemInPython_of_ne O.not_modules];refine aa (Ba O M ?_);have fin:aP (aS prog w) A (AM Z false o i) (fun r s₃=>aP (aS prog w) A (letTemporaryGo value o r >>= fun _=>pure r) Q E s₃) E Y:=by
  rw[hs o i];exact wpAny_operating (eQ W (fun r s₃ h₃=>aa (wpAny_letTemporaryGo (ax h₃))) fun _ _ x=>x)
 first
  |exact ax (aa fin)
  |exact aa (ax (aa fin))
  |exact aa fin
theorem Bb{σ:St}(I:Inv X pins σ H s)(g:sL H a y o):s.TypeIs (.ref a) "dict":=by
 rcases g with⟨kvs,k,e,_,_⟩|⟨kvs,k,b,e,_,_,_⟩
 ·obtain⟨_,_,vs,_,dd⟩:=Ew I.hok e;exact dd.typeIs
 ·obtain⟨_,_,xs,_,dd⟩:=Ey I.hok e;exact dd.typeIs
inductive DGI(x y:V)(H:Hp)(Q:VK):Prop where
 |mk(a:ae)(v:V)(hx:x=.ref a)(d:sL H a y (Z8 v))(q:Q v H):DGI x y H Q
def tDGet(td ty:TE):TE:=fun σ H Q=>td σ H fun x H1=>ty σ H1 fun y H2=>DGI x y H2 Q
def tDIn(ty td:TE):TE:=fun σ H Q=>ty σ H fun y H1=>td σ H1 fun x H2=>∃a o,x=.ref a/\sL H2 a y o/\Q (.bl o.isSome) H2
def sDPut(td ty tv:TE):TS:=fun D σ H=>tv σ H fun v H1=>td σ H1 fun x H2=>ty σ H2 fun y Y=>∃a Z,x=.ref a/\ux Y a y v Z/\D.nx σ Z
section
variable{X:Cx}{o i e value:cK}{pos pos' tpos:Pos}{td ty tv:TE}
theorem tJ(hu:X.A.units+1<dM)(M:PE X o td)(hi:PE X i ty)(hs:LV i:=by intro _ _;rfl):PE X (.Subscript o i pos) (tDGet td ty):=by
 intro pins s σ H Q I h;refine Ez xX.lookup hs (thn (M pins s σ H _ I h) fun u D ⟨x,H1,W,z,O⟩=>thn (hi pins D σ H1 _ W O) fun iv s2 ⟨y,H2,Y,V,a,v,ex,g,J⟩=>?_);subst ex;obtain rfl:u=Value.ref a:=z;exact{Bb Y g,FS hu Y g V fun w' t U Z=>⟨v,H2,U,Z,J⟩}
theorem CK(hu:X.A.units+1<dM)(hi:PE X i ty)(O:PE X o td):PC X .In i o (tDIn ty td):=by
 intro pins s σ H Q I h;refine thn (hi pins s σ H _ I h) fun iv M ⟨y,H1,D,Z,U⟩=>thn (O pins M σ H1 _ D U) fun u s2 ⟨x,H2,W,z,a,V,ex,g,J⟩=>?_;subst ex;obtain rfl:u=Value.ref a:=z;exact d_in hu W g Z fun t Y=>{.bl V.isSome,H2,Y,Z9,J}
theorem nZ(hu:X.A.units+1<dM)(z:PE X o td)(hi:PE X i ty)(hv:PE X value tv)(hs:mE value (Z8 (.Subscript o i pos')) pos.line X.env=pure false) :
  PS X (.Assign [.Subscript o i pos'] value pos) (sDPut td ty tv):=by
 intro pins s σ H D I h;refine IE (thn (hv pins s σ H _ I h) fun r s1 ⟨v,H1,Y,Z,J⟩=>thn (z pins s1 σ H1 _ Y J) fun u s2 ⟨x,H2,O,rx,t⟩=>thn (hi pins s2 σ H2 _ O t) fun iv s3 ⟨y,H3,U,V,a,M,ex,g,q3⟩=>?_) hs;subst ex;obtain rfl:u=Value.ref a:=rx;exact FT hu U g V Z fun s4 W=>⟨σ,M,W,q3⟩
end
theorem Bc(h:cb)(hb:eF<h.objs.size):dZ P w H (h.push {cls:=.type "dict",data:=.dict #[]}) h.objs.size (.dK []):=
 {aW _,beq_eq_false_iff_ne.mpr (fb (aM hb)),[],.nil,B6 h}
def Qi:TE:=fun _ H Q=>∀p,H p=Z7->Q (.ref p) (upd H p (.dK []))
section
variable{X:Cx}{pos:Pos}
theorem tK:PE X (.Dict [] [] pos) Qi:=fun pins s σ H Q I h=>
 wpAny_Dict_empty {.ref s.heap.objs.size,_,I.laid (a:=s.heap.objs.size) (o:=.dK []) (t':=s.toks) (fun _ _ q=>aE _ q) (ay _) (Bc s.heap I.big),Z9,h _ (I.hok.fresh (ay _))}
end
def CO:List (TE×TE)->St->Hp->(List (V×V)->Hp->Prop)->Prop
 | [],_,H,Q=>Q [] H
 |(tk,tv)::r,σ,H,Q=>tk σ H fun x H1=>tv σ H1 fun y H2=>CO r σ H2 fun ps Z=>Q ((x,y)::ps) Z
abbrev VV:List (V×V)->List (af×af)->Prop:=aN fun p q=>RelV p.1 q.1/\RelV p.2 q.2
def PPs(X:Cx)(pos:Pos)(Y:List (Option cK))(Z:List cK)(W:List (TE×TE)):Prop:=
 ∀(pins:List (ae×Obj)) (s:ai) (σ:St) (H:Hp) (Q:List (V×V)->Hp->Prop),Inv X pins σ H s->CO W σ H Q ->
  aP #[4] X.A (evalPairs (pairTrees Y Z X.env pos)) (fun vs s'=>∃ps H',Inv X pins σ H' s'/\VV ps vs/\Q ps H') X.xe s
theorem LW:PPs X pos [] [] []:=fun pins s σ H Q I h=>pairTrees_nil_walk {[],H,I,.nil,h}
theorem IF(hk:PE X k tk)(hv:PE X v tv)(J:PPs X pos ks vs Z) :
  PPs X pos (Z8 k::ks) (v::vs) ((tk,tv)::Z):=fun pins s σ H Q I h=>
 pairTrees_cons_walk (thn (hk pins s σ H _ I h) fun u g ⟨x,H1,V,W,D⟩=>thn (hv pins g σ H1 _ V D) fun w2 s2 ⟨y,H2,M,U,t⟩=>
  thn (J pins s2 σ H2 _ M t) fun ws s3 ⟨ps,z,O,Y,q3⟩=>{(x,y)::ps,z,O,.cons ⟨W,U⟩ Y,q3})
def qE(kvs more:List (Key×V)):List (Key×V):=more.foldl (fun Z Y=>iV Z Y.1 Y.2) kvs
theorem KV.merge:∀{more:List (Key×V)} {rs:List (Key×af)} {kvs:List (Key×V)} {vs:List (Key×af)},KV more rs->KV kvs vs->KV (qE kvs more) (merged vs rs):=by
 intro more rs kvs vs r;unfold KV at r
 induction r generalizing kvs vs with
 |nil=>intro q;exact q
 |@cons p q ps qs h t Y=>
  intro Z;have e:KV (iV kvs p.1 p.2) (w9 vs q.1 q.2):=by
   have:=Z.put p.1 h.2;rw[<- h.1];exact this
  exact Y e
theorem rN:∀(more kvs:List (Key×V)),(qE kvs more).length<=kvs.length+more.length
 | [],kvs=>by show kvs.length<=kvs.length+0;omega
 |p::r,kvs=>by
  have h1:=rN r (iV kvs p.1 p.2);have h2:=nY kvs p.1 p.2;show (qE (iV kvs p.1 p.2) r).length<=_;rw[aX];omega
theorem xc:∀{kvs:List (Key×V)} {Z:List (af×af)},VV (kvs.map fun Y=>(kV Y.1,Y.2)) Z->∃rs,Carries (cP P w) Z rs/\KV kvs rs
 | [],_,r=>by rw[kU]at r;cases r;exact{[],True.intro,.nil}
 |p::kvs,_,r=>by
  rw[bK]at r
  cases r with
  |@cons a b as bs h t=>
   obtain⟨rs,c,q⟩:=xc (P:=P) (w:=w) t;obtain⟨U,W⟩:=b;exact{(p.1,W)::rs,{yN h.1,Z9,c},.cons ⟨Z9,h.2⟩ q}
def tDisp(Z:List (TE×TE)):TE:=fun σ H Q=>∀p,H p=Z7->CO Z σ (upd H p (.dK [])) fun ps H2=>H2 p=Z8 (.dK [])/\∃kvs:List (Key×V),ps=kvs.map (fun Y=>(kV Y.1,Y.2))/\kvs.length<=15/\Q (.ref p) (upd H2 p (.dK (qE [] kvs)))
theorem LX{V:List (TE×TE)}(h:PPs X pos Z Y V)(U:Z.all (·.isSome)=true)(g:Z.length=Y.length)(h0:Z≠[])
  (M:Z.length<=15):PE X (.Dict Z Y pos) (tDisp V):=by
 intro pins s σ H Q I q;have hn:=I.hok.fresh (ay s.heap.objs.size);have D:=I.laid (a:=s.heap.objs.size) (o:=.dK []) (h':=s.heap.push {cls:=.type "dict",data:=.dict #[]}) (t':=s.toks) (fun _ _ q=>aE _ q) (ay _) (Bc s.heap I.big);refine wpAny_Dict_walk (knd:=cP X.prog X.w) U g h0 M (thn (h pins _ σ _ _ D (q _ hn)) fun ws s2 ⟨ps,H2,J,O,e,kvs,ep,lk,q2⟩=>?_);subst ep;obtain⟨rs,c,rk⟩:=xc (P:=X.prog) (w:=X.w) O;obtain⟨z,hd,br,r0,dd⟩:=Ow J.hok e
 cases r0;refine{rs,c,dd,fun h' W hs=>{.ref s.heap.objs.size,_,?_,Z9,q2}};have hz:(qE [] kvs).length<=aD:=by
  have h1:=rN kvs [];rw[cI]at h1;rw[nA];omega
 have t:∃q,h'.get? s.heap.objs.size=Z8 q:=let ⟨q,_,_,hq,_⟩:=W;⟨q,hq⟩;exact vS J (by rw[e];exact True.intro) hs t (zT hz hd (rk.merge .nil) W)
section
variable{X:Cx}{pins:List (ae×Obj)}{σ:St}{H:Hp}{s:ai}{a:ae}{y d:V}{u r:af}{o:Option V}{A:bJ}{E:af->ai->Prop}
end
section
variable{X:Cx}{o e f:cK}{apos cpos:Pos}{td ty tx:TE}
end
section
variable{X:Cx}{pins:List (ae×Obj)}{σ:St}{H:Hp}{s:ai}{a:ae}{kvs:List (Key×V)}{A:bJ}{E:af->ai->Prop}
end
section
variable{X:Cx}{pins:List (ae×Obj)}{σ:St}{H:Hp}{s:ai}{a:ae}{y:V}{u:af}{A:bJ}{E:af->ai->Prop}
end
section
variable{X:Cx}
end
section
variable{κ:Type}[DecidableEq κ]
theorem LY{kvs:List (κ×V)}{k:κ}{v:V}(h:iR kvs k=Z8 v):k∈kvs.map (·.1):=by
 have q:(kvs.any fun Z=>decide (Z.1=k))=true:=by
  rw[jH,h]
  all_goals rfl
 obtain⟨p,hp,e⟩:=pY.mp q;exact cB.mpr {p,hp,of_decide_eq_true e}
theorem EA:∀{l:List κ} {k:κ},l.Nodup->¬k∈l->(l++[k]).Nodup
 | [],k,_,_=>by simp
 |a::r,k,h,hk=>by
  obtain⟨h1,h2⟩:=cH.mp h;show (a::(r++[k])).Nodup;refine cH.mpr {fun m=>?_,EA h2 fun m=>hk (aq.mpr (Or.inr m))}
  rcases cj.mp m with q|q
  ·exact h1 q
  ·exact hk (aq.mpr (Or.inl (aK.mp q).symm))
end
end L2
set_option maxHeartbeats 4000000
namespace L2
open PySem PySem.Spec PyProof.Rows
theorem dZ.has(x:dZ P w H h a o):∃Z,h.get? a=Z8 Z:=by
 cases o with
 |lst xs=>obtain⟨_,_,_,_,e⟩:=x;exact{_,e}
 |tup xs=>obtain⟨_,_,_,Z,e,_⟩:=x;exact{_,e}
 |dK kvs=>obtain⟨_,_,_,_,o,_,_,e,_⟩:=x;exact{_,e}
 |dT kvs=>obtain⟨_,_,_,_,o,_,_,e,_⟩:=x;exact{_,e}
 |set S n=>obtain⟨o,_,_,_,e,_⟩:=x;exact{_,e}
 |ins C dx fs=>obtain⟨_,_,_,e,_⟩:=x;exact{_,e}
 |own y=>exact x
 |xd fs=>obtain⟨_,⟨_,_,_,e,_⟩,_⟩:=x;exact{_,e}
 |rng lo hi=>obtain⟨_,_,_,e⟩:=x;exact{_,e}
 |frz Z u=>obtain⟨e,_⟩:=x;exact{_,e}
 |tbl ps=>exact{_,(show h.get? a=Z8 _ from x)}
 |met f y=>exact{_,(show h.get? a=Z8 _ from x)}
 |ext φ=>obtain⟨_,e,_⟩:=x;exact e
theorem HOk.has(x:HOk P w H h)(n:H b≠Z7):∃Z,h.get? b=Z8 Z:=by
 cases z:H b with
 |none=>exact absurd z n
 |some u=>exact (x b u z).has
def FlD(B:cb)(l:List Env)(e:ae)(cls fl:af)(h:cb):Prop:=
 B.StaysIn h/\B.get? e=Z7/\h.FunFrames B l/\∃Z vs T Y W,h.get? e=Z8 Z/\Z.cls=cls/\Z.dict=Z7/\Z.data=.fields vs/\vs[1]?=Z8 (.ref T)/\B.get? T=Z7/\T≠e/\h.get? T=Z8 Y/\Y.data=.fields W/\W[3]?=Z8 fl
theorem FU(o:Obj)(f:Array af->Array af):(o.mapFields f).dict=o.dict:=by
 obtain⟨c,d,Z,sl⟩:=o
 cases Z<;>rfl
section
variable{M:LB}{A:bJ}{E:af->ai->Prop}{s:ai}{B:cb}{env:Env}{outer l:List Env}{L e:ae}{cls fl:af}{Q:Unit->ai->Prop}
theorem Bd(t:A.frames=Z8 (env::outer))(J:s.heap.FunFrames B (env::outer))(hf:env.frame=Z8 L)(O:s.heap.get? e=Z8 Y)(hB:B.StaysIn s.heap)(g:B.get? e=Z7)
  (W:Y.data=.fields vs) (hz:1<vs.size) (I:Y.dict=Z7) (k:∀h',FlD B (env::outer) e Y.cls (gN L) h'->s.heap.UpToSlots h'->Q () {s with heap:=h'}) :
  aP M A (do let a <- frameOf env;let pl <- entryPlaceOf L nx;let b <- zU Z a .none (gN L) .none pl;setField (.ref e) 1 b) Q E s:=by
 have ef:e∉(env::outer).filterMap (·.frame):=fun D=>by
  obtain⟨_,o,ho,q⟩:=J.mem D;rw[O]at ho
  cases ho;exact q vs W
 refine aa (wpAny_frameOf_fun t J hf fun h1 U=>aa (wpAny_entryPlaceOf fun pl V=>?_));unfold zU newFields;refine aa (eM ?_ (V.sizeOk5 _ _ _ _ _));have e1:h1.get? e=Z8 Y:=(U.2.1 e ef).trans O;have b1:B.StaysIn h1:=fun b o z=>(U.2.1 b fun D=>by rw[(J.mem D).1]at z;cases z).trans (hB b o z);have ne:h1.objs.size≠e:=gW (aO e1);generalize hob:({cls:=.type "traceback",dict:=Z7,data:=.fields ([Z,.ref L,.none,gN L,.none]++(if pl.isEmpty then cy 6 Value.none else pl)).toArray}:Obj)=ob;have e2:(h1.push ob).get? e=Z8 Y:=aE _ e1;have t2:(h1.push ob).get? h1.objs.size=Z8 ob:=aU h1 (by rw[<- hob];rfl);refine jo e2 W hz (k _ ?_ ?_)
 ·have d3:=dA W (·.setIfInBounds 1 (Value.ref h1.objs.size));have keep:∀b o,b≠e->h1.get? b=Z8 o->((h1.push ob).update e (iS (·.setIfInBounds 1 (Value.ref h1.objs.size)))).get? b=Z8 o:=fun b o q z=>by
   rw[d9 _ _ (fb q)];exact aE _ z
  refine{fun b o z=>keep b o (fun q=>by rw[q,g]at z;cases z) (b1 b o z),g,J.of_keeps fun b o z q=>?_,_,_,h1.objs.size,ob,_,dP _ e2 (iq d3),o6 _ _,(FU _ _).trans I,d3,by simp[hz],b1.fresh,ne,?_,by rw[<- hob],?_}
  ·obtain⟨sl,w⟩:=U.2.2 b o z;exact{_,keep b _ (fun y=>by rw[y,O]at z;cases z;exact q vs W) w,Z9}
  ·rw[d9 _ _ (fb ne)];exact t2
  ·first|(simp;done)|(rcases V with rfl|⟨_,_,_,_,_,_,_,rfl⟩<;>simp)
 ·intro b o z q;obtain⟨sl,w⟩:=U.2.2 b o z;refine{sl,?_};rw[d9 _ _ (fun y=>by rw[<- y,O]at z;cases z;exact q vs W)];exact aE _ w
theorem vT{h:cb}(V:h.get? T=Z8 Y)(Z:Y.data=.fields W)(hb:h.get? b=Z8 o)(q:∀vs,o.data≠.fields vs):b≠T:=fun y=>by
 rw[y,V]at hb
 cases hb;exact q W Z
theorem EB(W:A.frames=Z8 (env::outer))(O:env.frame=Z8 L)(x:FlD B (env::outer) e cls .none s.heap)(k:∀h',FlD B (env::outer) e cls (gN L) h'->s.heap.UpToSlots h'->Q () {s with heap:=h'}) :
  aP M A (Hz (.ref e) env) Q E s:=by
 obtain⟨g,hn,hl,oe,vs,T,oT,ts,J,rfl,V,I,h1,t,Te,Y,dT,U⟩:=x;unfold Hz;simp only[O];refine aa (nC J I h1 ?_);rw[if_pos (show (Value.ref T != Value.none)=true from by simp)];refine aa (nC Y dT U ?_);rw[if_neg (show ¬((Value.none==gN L)=true) from by simp[gN])];refine aa (jo Y dT (nJ.mp U).1 ?_);have Z:∀b,b≠T->(s.heap.update T (iS (·.setIfInBounds 3 Value.none))).get? b=s.heap.get? b:=fun b hb=>d9 _ _ (fb hb);refine Bd (s:={s with heap:=s.heap.update T (iS (·.setIfInBounds 3 Value.none))}) W (hl.of_keeps fun b o z q=>{o,(Z b (vT Y dT z q)).trans z,Z9}) O ((Z e (fb Te)).trans J)
  (fun b o z=>(Z b fun y=>by rw[y,t]at z;cases z).trans (g b o z)) hn I (nJ.mp h1).1 V fun h' y1 D=>k h' y1 fun b o z q=>D b o ((Z b (vT Y dT z q)).trans z) q
theorem tL(x:FlD B l e cls fl s.heap)(k:∀h',FlD B l e cls .none h'->s.heap.UpToSlots h'->Q () {s with heap:=h'}):aP M A (setFlight (.ref e) Z7) Q E s:=by
 obtain⟨t,g,hl,oe,vs,T,oT,ts,U,hc,W,O,h1,V,I,Y,dT,D⟩:=x;have J:3<ts.size:=(nJ.mp D).1;have Z:∀b,b≠T->(s.heap.update T (iS (·.setIfInBounds 3 ((Z7:Option ae).elim Value.none fun f=>gN f)))).get? b=s.heap.get? b:=fun b hb=>d9 _ _ (fb hb);unfold setFlight;refine aa (nC U O h1 ?_);rw[if_pos (show (Value.ref T != Value.none)=true from by simp)];refine jo Y dT J (k _ {fun b o z=>(Z b fun y=>by rw[y,V]at z;cases z).trans (t b o z),g,hl.of_keeps fun b o z q=>{o,(Z b (vT Y dT z q)).trans z,Z9},oe,vs,T,_,_,(Z e (fb I)).trans U,hc,W,O,h1,V,I,dP _ Y (iq (dA dT _)),dA dT _,by simp[J]}
  fun b o z q=>{o.slots,(Z b (vT Y dT z q)).trans z})
theorem FlD.tail(x:FlD B (env::outer) e cls fl s.heap):FlD B outer e cls fl s.heap:=by
 obtain⟨a,b,⟨_,_,c⟩,d⟩:=x;exact⟨a,b,c,d⟩
theorem FlD.there(x:FlD B l e cls fl h):∃Z,h.get? e=Z8 Z/\Z.cls=cls:=by
 obtain⟨_,_,_,Y,_,_,_,_,W,hc,_⟩:=x;exact⟨Y,W,hc⟩
theorem FV(Z:A.frames=Z8 (env::outer))(W:env.frame=Z8 L)(x:FlD B (env::outer) e cls .none s.heap)(k:∀h',FlD B outer e cls .none h'->s.heap.UpToSlots h'->Q () {s with heap:=h'}):aP M A (B5 env (.ref e)) Q E s:=by
 unfold B5;refine aa (EB Z W x fun h1 x1 u1=>tL (s:={s with heap:=h1}) x1 fun h2 Y u2=>k h2 (FlD.tail (s:={s with heap:=h2}) Y) (u1.trans u2))
theorem LZ(Z:A.frames=Z8 (env::outer))(W:env.frame=Z8 L)(Y:B.StaysIn h)(J:h.FunFrames B (env::outer))(x:Ox h s.heap e cls args)
  (k:∀h',FlD B outer e cls .none h'->s.heap.UpToSlots h'->Q () {s with heap:=h'}):aP M A (B5 env (.ref e)) Q E s:=by
 obtain⟨t,V,U,ht⟩:=x.there;have en:B.get? e=Z7:=by
  cases q:B.get? e with
  |none=>rfl
  |some o=>have z:=Y e o q;rw[x.new]at z;cases z
 unfold B5 Hz;simp only[W];refine aa (aa (nC (x:=Value.none) V rfl rfl ?_));rw[if_neg (show ¬((Value.none != Value.none)=true) by decide)];exact Bd Z (J.of_keeps fun b o z _=>{o,x.keeps b o z,Z9}) W V (fun b o z=>x.keeps b o (Y b o z)) en rfl (show 1<6 by decide) rfl fun h1 x1 u1=>tL (s:={s with heap:=h1}) x1 fun h2 O u2=>k h2 (FlD.tail (s:={s with heap:=h2}) O) (u1.trans u2)
end
def Fly(B:cb)(stk:List Env)(Z C:ae)(h:cb):Prop:=FlD B stk Z (.ref C) .none h
def CXo(P:aI)(w:aY):CXT:=fun outer H s E e s'=>
 ∃(Z C:ae) (H':Hp) (B:cb),e=.ref Z/\E (.ref C) Z7 H'/\s'.os=s.os/\p8 s'.gens/\Un (frs outer) [] H H' s.heap s'.heap/\HOk P w H' s'.heap/\Fly B outer Z C s'.heap /\
  ∀b o,(H' b≠Z7\/∃o',s.heap.get? b=Z8 o')->b∉frs outer->s'.heap.get? b=Z8 o->B.get? b=Z8 o
theorem Un.left{fs stk:List ae}{h₀ h h' B:cb}(u:Un fs [] H₀ H h₀ h)(V:B.StaysIn h')(Z:∀b o,(H b≠Z7\/∃o',h₀.get? b=Z8 o')->b∉stk->h.get? b=Z8 o->B.get? b=Z8 o)
  (Y:∀b o,h₀.get? b=Z8 o->b∈stk->b∈fs) (sl:∀b∈fs,∀o,h.get? b=Z8 o->∃sl,h'.get? b=Z8 {o with slots:=sl}):Un fs [] H₀ H h₀ h' where
 keep:=fun b o e n hb hx=>V b o (Z b o (.inr ⟨o,e⟩) (fun z=>hb (Y b o e z)) (u.keep b o e n hb hx))
 slot:=fun b o e n hb hx=>by
  obtain⟨M,O⟩:=u.slot b o e n hb hx;obtain⟨s2,W⟩:=sl b hb _ O;exact⟨s2,W⟩
 free:=u.free
 there:=fun b o e hx=>by
  obtain⟨o',U⟩:=u.there b o e hx
  by_cases hb:b∈stk
  ·obtain⟨s2,W⟩:=sl b (Y b o e hb) _ U;exact{_,W}
  ·exact{o',V b o' (Z b o' (.inr ⟨o,e⟩) hb U)}
 tups:=u.tups
 frzs:=u.frzs
 tbls:=u.tbls
theorem HOk.left{h h' B:cb}(ok:HOk P w H h)(Y:B.StaysIn h')(Z:∀b o,H b≠Z7->h.get? b=Z8 o->B.get? b=Z8 o):HOk P w H h':=fun a o e=>
 (ok a o e).stay (fun b u hb q=>Y b u (Z b u (by
  rcases hb with z|z
  ·rw[z,e];simp
  ·rw[z];simp) q)) (fun _ q=>q) (fun _ _ q=>q)
section
variable{X:Cx}{pins:List (ae×Obj)}{σ:St}{H:Hp}{s:ai}{E E':XK}
theorem Inv.oldfs(I:Inv X pins σ H s):∀b o,X.s₀.heap.get? b=Z8 o->b∈frs X.stack->b∈X.fs:=fun b o e hb=>by
 rcases aq.mp (I.stkSub b hb) with z|z
 ·exact absurd (bf (aO e) I.ok.above) (by rw[z];exact hU _)
 ·exact z
theorem Inv.ntr(I:Inv X pins σ H s):∀b,H b≠Z7->b∉frs X.stack:=fun b Z z=>Z (I.stkFree b z)
theorem Inv.slotsOf(I:Inv X pins σ H s)(sm:s.heap.UpToSlots h'):∀b∈X.fs,∀o,s.heap.get? b=Z8 o->∃sl,h'.get? b=Z8 {o with slots:=sl}:=fun b hb o e=>by
 obtain⟨_,o',Z,Y⟩:=I.funs.mem hb;rw[e]at Z
 cases Z;exact sm b o e Y
structure vg(X:Cx)(E:XK):Prop where
 stk:X.stack=X.env::X.outer
 fr:X.env.frame=Z8 X.env.locals
 ex:X.ex=[]
 xe:X.xe=fun e s'=>aP #[4] X.A (B5 X.env e) (fun _ s''=>CXo X.prog X.w X.outer X.H₀ X.s₀ E e s'') (fun e' s''=>CXo X.prog X.w X.outer X.H₀ X.s₀ E e' s'') s'
theorem eC{K:ag} :
  vg (rE (CXo P w) P w K mg base N Y Z f W A outer s H E) E:=⟨Z9,Z9,Z9,Z9⟩
theorem vg.raises(hb:vg X E)(I:Inv X pins σ H s)(hx:Ox s.heap h' e (.ref C) vs)(q:E (.ref C) Z7 H):X.xe (.ref e) {s with heap:=h'}:=by
 rw[hb.xe];have U:X.A.frames=Z8 (X.env::X.outer):=by rw[I.ok.frames,hb.stk]
 have O:∀env∈X.stack,∀a,env.frame=Z8 a->a∈frs X.stack:=fun env he a ha=>nX.mpr ⟨env,he,ha⟩;have fl:s.heap.FunFrames (pV s.heap (frs X.stack)) (X.env::X.outer):=by
  have z:=PySem.W.funFrames_hide I.stack O;rw[hb.stk]at z |-;exact z
 have D:Un X.fs [] X.H₀ H X.s₀.heap s.heap:=by
  have z:=I.base;rw[hb.ex]at z;exact z
 have Z:∀b o,b∉frs X.stack->s.heap.get? b=Z8 o->(pV s.heap (frs X.stack)).get? b=Z8 o:=fun b o n e=>B2 _ e n;refine LZ (B:=pV s.heap (frs X.stack)) (h:=s.heap) U hb.fr (fun b o z=>Cc _ z) fl hx fun Y x1 x4=>?_;have sm:s.heap.UpToSlots Y:=(RX hx.keeps).trans x4;refine{e,C,H,_,Z9,q,I.os,I.bare,D.left (stk:=frs X.stack) x1.1 (fun b o _ n e=>Z b o n e) I.oldfs (I.slotsOf sm),I.hok.left x1.1 (fun b o n e=>Z b o (I.ntr b n) e),x1,?_};intro b o c n g;have M:b∉frs X.stack:=by
  rcases c with c|⟨o',c⟩
  ·exact I.ntr b c
  ·exact fun z=>n (I.oldfs b o' c z)
 obtain⟨V,t⟩:∃V,s.heap.get? b=Z8 V:=by
  rcases c with c|⟨o',c⟩
  ·exact I.hok.has c
  ·exact D.there b o' c #[5]
 have e3:Y.get? b=Z8 V:=x1.1 b V (Z b V M t);have J:Y.get? b=Z8 o:=g;rw[e3]at J
 cases J;exact Z b _ M t
theorem vg.passes(hb:vg X E)(hE:∀c d H,E' c d H->E c d H):mI (CXo X.prog X.w) X E':=fun pins σ H s e s' I h=>by
 obtain⟨ea,C,H',B,rfl,q,os,V,un,M,fl,U⟩:=h;have J:Inv X pins σ H' s':=I.call' (ch:=[]) os un M V (fun b z=>absurd z #[5]);rw[hb.xe];have O:X.A.frames=Z8 (X.env::X.outer):=by rw[I.ok.frames,hb.stk]
 have ub:Un X.fs [] X.H₀ H' X.s₀.heap s'.heap:=by
  have z:=J.base;rw[hb.ex]at z;exact z
 have ui:Un X.fs [] X.H₀ H X.s₀.heap s.heap:=by
  have z:=I.base;rw[hb.ex]at z;exact z
 have Z:∀b o,(H' b≠Z7\/∃o',X.s₀.heap.get? b=Z8 o')->b∉frs X.stack->s'.heap.get? b=Z8 o->B.get? b=Z8 o:=fun b o c n e=>
  U b o (c.imp_right fun⟨o',z⟩=>ui.there b o' z #[5]) n e
 have D:FlD B (X.env::X.outer) ea (.ref C) .none s'.heap:=by
  rw[<- hb.stk];exact fl
 refine FV O hb.fr D fun W x1 x2=>?_;refine{ea,C,H',B,Z9,hE _ _ _ q,J.os,J.bare,ub.left (stk:=frs X.stack) x1.1 Z J.oldfs (J.slotsOf x2),J.hok.left x1.1 (fun b o n e=>Z b o (.inl n) (J.ntr b n) e),x1,?_};intro b o c n e1;have t:b∉frs X.stack:=by
  rcases c with c|⟨o',c⟩
  ·exact J.ntr b c
  ·exact fun z=>n (J.oldfs b o' c z)
 obtain⟨Y,e2⟩:∃Y,s'.heap.get? b=Z8 Y:=by
  rcases c with c|⟨o',c⟩
  ·exact J.hok.has c
  ·exact ub.there b o' c #[5]
 have e3:W.get? b=Z8 Y:=x1.1 b Y (Z b Y c t e2);have g:W.get? b=Z8 o:=e1;rw[e3]at g
 cases g;exact Z b _ c t e2
end
section
variable{X:Cx}{E:XK}{x:Str}{C:ae}{np cpos pos:Pos}{e₀:cK}{rest:List cK}{ta:TA}{K:ag}{h:cb}
theorem L0(X:K.In h)(q:dU K C U Z=true) :
  ∃bm N nm q bs hdct sn sub ab col dd k0 k1 k2 k3 k5 mN,h.get? C=Z8 (excClassObj nm q C N bs bm hdct sn sub ab col dd k0 k1 k2 k3 k5 Z)/\h.Ns N mN/\mN "__init__"=Z7/\OwnTail h U bm:=by
 unfold dU at q
 split at q
 ·rename_i dd cd sl ho
  split at q
  ·rename_i C' bm k0 k1 k2 k3 n k5 hm hs
   simp only[gi,beq_iff_eq,Bool.not_eq_true']at q;obtain⟨⟨⟨⟨⟨rfl,rfl⟩,Y⟩,ht⟩,V⟩,O⟩:=q;obtain⟨nm,bs,J,ns,qn,D,sn,sub,ab,col,I⟩:=cd;dsimp only at hm Y V O;subst hm Y;have e:sl=#[k0,k1,k2,k3,Z8 (.builtin n),k5]:=by
    obtain⟨l⟩:=sl;have M:l=[k0,k1,k2,k3,Z8 (.builtin n),k5]:=hs;rw[M]
   subst e;exact{bm,ns,nm,qn,bs,D,sn,sub,ab,col,dd,k0,k1,k2,k3,k5,_,X _ _ ho,.of_isNs (PySem.W.isNs_of_in X V),PySem.W.nsMap_none_of_in X V O,PySem.W.tail_of_in X ht}
  ·cases q
 ·cases q
def sM:List af:=[.type "ValueError",.type "Exception",.type "BaseException",.type "object"]
def Qj(C:ae)(E:XK)(ta:TA):TS:=fun _ σ H=>ta σ H fun vs H1=>vs.length<=aD/\E (.ref C) Z7 H1
theorem mP(hb:vg X E)(hc:X.calm=true)(hg:Gl X x)(V:X.mg x=Z8 (.ref C))(hx:dU X.K C sM "ValueError.__new__"=true)(ha:PA X (e₀::rest) ta)
  (t:(x==("__debug__":Str))=false:=by decide) (U:cz (e₀::rest) X.env=(false,fY e₀ X.env)::cz rest X.env:=by rfl) (Y:(jZ cpos (cz rest X.env)).any (·.1)=false:=by rfl) :
  PS X (.Raise (Z8 (.Call (.Name x np) (e₀::rest) [] cpos)) Z7 pos) (Qj C E ta):=by
 intro pins s σ H D I h;obtain⟨bm,N,nm,q,bs,hdct,sn,sub,ab,col,dd,k0,k1,k2,k3,k5,mN,O,M,W,T⟩:=L0 I.ok.mod.kin hx;have base:sM.contains (.type "BaseException")=true:=F.excBase_ValueError.hasBase;refine wpAny_Raise_call_subT (C:=C) (nm:=nm) (q:=q) (N:=N) (bs:=bs) (bm:=bm) (hdct:=hdct) (sn:=sn) (sub:=sub) (ab:=ab) (col:=col) (dd:=dd) (k0:=k0) (k1:=k1) (k2:=k2) (k3:=k3) (k5:=k5)
  F.excBase_ValueError (mN:=mN) (T.hasType base) (I.ok.hd hc) (by rw[U];show (false||(jZ cpos (cz rest X.env)).any (·.1))=false;rw[Y];rfl) W (tw I hg V {Z9,?_} t)
 have h1:=ha cpos pins s σ H _ I h;rw[U]at h1 |-;refine CH (eQ h1 (fun us s2 z=>?_) fun _ _ y=>y);obtain⟨vs,H1,Z,r,g,J⟩:=z;exact{Z9,by rw[<- r.length];exact g,Z.bk _ _ O,M.keeps Z.bk,T.keeps Z.bk,fun h' e V=>hb.raises Z V J}
end
section
variable{X:Cx}{pins:List (ae×Obj)}{σ:St}{H:Hp}{s:ai}{T:ae->St->Hp->Prop}
def zV(X:Cx)(pins:List (ae×Obj))(H:Hp)(B h:cb):Prop:=
 ∀b o,(H b≠Z7\/(b∉X.ex/\∃o',X.s₀.heap.get? b=Z8 o')\/∃p∈X.pn++pins,p.1=b)->b∉frs X.stack->h.get? b=Z8 o->B.get? b=Z8 o
def tryW(X:Cx)(pins:List (ae×Obj))(T:ae->St->Hp->Prop):af->ai->Prop:=fun e s'=>
 ∃Z C B σ H,e=.ref Z/\Inv X pins σ H s'/\Fly B X.stack Z C s'.heap/\zV X pins H B s'.heap/\T C σ H
abbrev Cx.tr(X:Cx)(pins:List (ae×Obj))(T:ae->St->Hp->Prop):Cx:={X with xe:=tryW X pins T,pn:=X.pn++pins}
theorem Inv.tr(I:Inv X pins σ H s)(T:ae->St->Hp->Prop):Inv (X.tr pins T) [] σ H s:=
 ⟨⟨I.ok.mod,I.ok.kind,I.ok.glob,I.ok.blt,I.ok.above,I.ok.inj,I.ok.has,I.ok.cab,I.ok.hd,I.ok.frames,I.ok.stk,I.ok.exf,I.ok.bs,I.ok.bsz,I.ok.noex,I.ok.exfs,I.ok.funs,I.ok.frf⟩,I.os,I.bare,I.base,I.loc,I.cell,I.free,I.freeC,
  fun p hp=>I.pin p (by simpa using hp),I.hok,I.len⟩
theorem Inv.untr(I:Inv (X.tr pins T) Z σ H s):Inv X pins σ H s:=
 ⟨⟨I.ok.mod,I.ok.kind,I.ok.glob,I.ok.blt,I.ok.above,I.ok.inj,I.ok.has,I.ok.cab,I.ok.hd,I.ok.frames,I.ok.stk,I.ok.exf,I.ok.bs,I.ok.bsz,I.ok.noex,I.ok.exfs,I.ok.funs,I.ok.frf⟩,I.os,I.bare,I.base,I.loc,I.cell,I.free,I.freeC,
  fun p hp=>I.pin p (iI _ hp),I.hok,I.len⟩
theorem EC{h h':cb}(x:h.IsCell c v)(sm:h.UpToSlots h'):h'.IsCell c v:=by
 obtain⟨o,Y,Z⟩:=x;obtain⟨sl,e⟩:=sm c o Y (fun vs q=>by rw[Z]at q;cases q);exact{_,e,Z}
theorem Inv.landed(I:Inv X pins σ H s)(W:B.StaysIn h')(Z:zV X pins H B s.heap)(sm:s.heap.UpToSlots h'):Inv X pins σ H {s with heap:=h'}:=by
 refine{I.ok,I.os,I.bare,{fun b o e n hb hx=>?_,fun b o e n hb hx=>?_,I.base.free,fun b o e hx=>?_,I.base.tups,I.base.frzs,I.base.tbls},?_,fun x c e=>?_,I.free,I.freeC,fun p hp=>?_,I.hok.left W (fun b o n e=>Z b o (.inl n) (I.ntr b n) e),I.len}
 ·exact W b o (Z b o (.inr (.inl ⟨hx,o,e⟩)) (fun z=>hb (I.oldfs b o e z)) (I.base.keep b o e n hb hx))
 ·obtain⟨J,V⟩:=I.base.slot b o e n hb hx;obtain⟨s2,Y⟩:=I.slotsOf sm b hb _ V;exact⟨s2,Y⟩
 ·obtain⟨o',U⟩:=I.base.there b o e hx
  by_cases hb:b∈frs X.stack
  ·obtain⟨s2,Y⟩:=I.slotsOf sm b (I.oldfs b o e hb) _ U;exact{_,Y}
  ·exact{o',W b o' (Z b o' (.inr (.inl ⟨hx,o,e⟩)) hb U)}
 ·obtain⟨m,M,O⟩:=I.loc;refine{m,sm.ns M,fun i x v V Y e3=>?_};obtain⟨u,r,l⟩:=O i x v V Y e3;refine{u,r,?_}
  rcases l with l|⟨k,c,e,l⟩
  ·exact .inl l
  ·exact .inr {k,c,e,EC l sm}
 ·obtain⟨v,q⟩:=I.cell x c e;exact{v,EC q sm}
 ·obtain⟨e,n,l,f,d⟩:=I.pin p hp;exact{W _ _ (Z p.1 p.2 (.inr (.inr ⟨p,hp,Z9⟩)) (fun z=>(aq.mp (I.stkSub _ z)).elim l f) e),n,l,f,d}
theorem zV.land(I:Inv X pins σ H s)(U:B.StaysIn h')(Z:zV X pins H B s.heap):zV X pins H B h':=fun b o c n e=>by
 obtain⟨Y,W⟩:∃Y,s.heap.get? b=Z8 Y:=by
  rcases c with c|⟨hx,o',c⟩|⟨p,hp,rfl⟩
  ·exact I.hok.has c
  ·exact I.base.there b o' c hx
  ·exact{_,(I.pin p hp).1}
 have V:=U b Y (Z b Y c n W);rw[e]at V
 cases V;exact Z b _ c n W
abbrev Cx.hdl(X:Cx)(Z:ae):Cx:={X with A:=X.A.mark (Z8 (.ref Z)),calm:=false,xe:=fun _ _=>False}
theorem Inv.hdl(I:Inv X pins σ H s)(Z:ae):Inv (X.hdl Z) pins σ H s:=
 ⟨{I.ok.mod,I.ok.kind,I.ok.glob,I.ok.blt,I.ok.above,I.ok.inj,I.ok.has,I.ok.cab,fun z=>vU z,I.ok.frames,I.ok.stk,I.ok.exf,I.ok.bs,I.ok.bsz,I.ok.noex,I.ok.exfs,I.ok.funs,I.ok.frf},I.os,I.bare,I.base,I.loc,I.cell,I.free,I.freeC,
  I.pin,I.hok,I.len⟩
theorem Inv.unhdl(ok:X.Ok)(I:Inv (X.hdl Z) pins σ H s):Inv X pins σ H s:=⟨ok,I.os,I.bare,I.base,I.loc,I.cell,I.free,I.freeC,I.pin,I.hok,I.len⟩
abbrev TH:=ae->TS
def PHs(X:Cx)(hs:List vV)(th:TH):Prop:=
 ∀(pins:List (ae×Obj)) (s:ai) (σ:St) (H:Hp) (D:lD) (Z C:ae) (B:cb),Inv X pins σ H s->Fly B X.stack Z C s.heap->zV X pins H B s.heap->th C D σ H ->
  aP #[4] X.A (handleBy (.ref Z) X.env hs) (SP X pins D) X.xe s
def thNil:TH:=fun _ _ _ _=>False
theorem L7:PHs X [] thNil:=fun _ _ _ _ _ _ _ _ _ _ _ h=>h.elim
def ED(CX:CXT)(X:Cx)(E:St->XK):Prop:=∀(pins:List (ae×Obj)) (σ:St) (H:Hp) (s:ai) (e:af) (s':ai),Inv X pins σ H s->CX X.stack H s (E σ) e s'->X.xe e s'
def tryE(T:ae->St->Hp->Prop):St->XK:=fun σ c _ H=>∃C,c=.ref C/\T C σ H
theorem CQ:ED (CXo X.prog X.w) (X.tr pins T) (tryE T):=fun Z σ H s e s' I h=>by
 obtain⟨t,C,H',B,rfl,⟨g,M,q⟩,U,Y,un,V,fl,W⟩:=h
 cases M;have J:Inv (X.tr pins T) Z σ H' s':=I.call' (ch:=[]) U un V Y (fun b z=>absurd z #[5]);refine{t,C,B,σ,H',Z9,J.untr,fl,fun b o c n e=>W b o ?_ n e,q}
 rcases c with c|⟨D,o',O⟩|⟨p,hp,rfl⟩
 ·exact .inl c
 ·exact .inr (I.base.there b o' O D)
 ·exact .inr {_,(I.pin p (iI _ hp)).1}
def Qk(sp:Sp)(E:St->XK)(t:TA):TE:=fun σ H Q=>t σ H fun vs H1=>sp vs H1 Q (E σ)
variable{CX:CXT}{k:Nat}{f:ae}{fd:bY}{ps:List Str}{sp:Sp}{E:St->XK}{x:Str}{p pos:Pos}{e:cK}{es:List cK}{t:TA}
theorem IG(F:bN X.prog X.w X.K X.mg X.base CX k f fd ps sp)(J:dJ k X.A)(O:Gl X x)(g:X.mg x=Z8 (.ref f))(hk:gX X.K (.ref f)=true)(hb:Binds X.K fd ps [])(hx:ED CX X E)(ha:PA X (e::es) t)
  (V:(x==("__debug__":Str))=false:=by decide) (M:cz (e::es) X.env=(false,fY e X.env)::cz es X.env:=by rfl) (W:(jZ pos (cz es X.env)).any (·.1)=false:=by rfl) :
  PE X (.Call (.Name x p) (e::es) [] pos) (Qk sp E t):=by
 intro pins s σ H Q I h;refine jE (tw I O g ?_ V);refine mJ (h₀:=X.base) I.ok.mod.kin hk (thn (ha pos pins s σ H _ I h) fun us U z=>?_) M W;obtain⟨vs,H1,Z,r,q⟩:=z;refine{Z.kIn,?_};have D:(us++[]).length=ps.length:=by
  rw[cO,<- r.length];exact F.len _ _ _ _ q
 have Y:=hb U us Z.kIn D;rw[cO]at Y;refine w5 (jD (F.run X.A X.stack U H1 {us,[]} us vs Q (E σ) J Z.env0 Y r q) fun r s' hq=>?_)
 cases r with
 |error e=>exact hx pins σ H1 U e s' Z hq
 |ok fl=>
  cases fl with
  |ret u=>exact Z.after hq
  |next=>exact cY hq
  |brk=>exact cY hq
  |cont=>exact cY hq
end
theorem Fun.okX{K:ag}{st:df}(F:Fun K x Z st f fd)(S:bM N ps (aR st))(len:∀vs H Q E,sp vs H Q E->vs.length=ps.length)
  (W:∀(Y:af) (A:bJ) (outer:List Env) (s:ai) (H:Hp) (vs:List V) (Q:VK) (E:XK),dJ k (A.deeper (uv Z (aR st) s.heap.objs.size f Y))->sp vs H Q E ->
   ∃t,PSs (rE (CXo P w) P w K mg base N Z (aR st) f Y A outer s H E) (j6 st) t/\t {nx:=fun _ H'=>Q .non H',rt:=Q} (start N vs) H):bN P w K mg base (CXo P w) (k+1) f fd ps sp:=by
 obtain⟨g,od,kV,J,pm,z,Y,ct,I,rfl,M,O⟩:=F.ex;exact Ot M O S len fun A outer s H vs Q E D U=>W Y A outer s H vs Q E D U
theorem zW{it V:af}(J:Nat->ai->Prop)
  (turn:∀n s,J n s->aP (aS prog w) A (o9 it) (fun r I=>match r with
   |none=>R (.ok .next) I
   |some v=>aP (aS prog w) A (sW Z it v) (fun _ s2=>aP (aS prog w) A (zz Z env v) (fun _ D=>
     aP (aS prog w) A (forIn O true fun c r=>if r=true then do let ok <- HG c env (fY c env);pure (ForInStep.yield ok) else pure (ForInStep.yield r)) (fun ok M=>
      if ok=true then aP (aS prog w) A (fY U env) (fun x s5=>aP (aS prog w) A (vz (.builtin "list.append") [V,x]) (fun _ t=>∃m,m<n/\J m t) (fun _ _=>False) s5) (fun _ _=>False) M
      else ∃m,m<n/\J m M) (fun _ _=>False) D) (fun _ _=>False) s2) (fun _ _=>False) I) (fun _ _=>False) s)
  (n:Nat) (h:J n s):kS (aS prog w) A (.compLoop (.ListComp U [{Z,W,O,0}] Y pos) 0 it V env) R s:=by
 refine codeAny_loop rfl J (fun n s hI=>?_) n h;show aP _ A ((compTurn (.ListComp U [{Z,W,O,0}] Y pos) 0 it V env).onRaise
  (fun x=>do Hz x env;theTreesLotGoes x)) _ _ s
 refine wpAny_noted ?_;rw[compTurn_list];refine aa (FG (aa (eQ (turn n s hI) (fun r I h1=>?_) fun _ _ z=>z.elim)))
 cases r with
 |none=>exact ax h1
 |some v=>
  refine aa (eQ h1 (fun _ s2 h2=>?_) fun _ _ z=>z.elim);refine aa (eQ h2 (fun _ D h3=>?_) fun _ _ z=>z.elim);refine aa (eQ h3 (fun ok M g=>?_) fun _ _ z=>z.elim)
  cases ok with
  |false=>exact ax ⟨Z9,g⟩
  |true=>
   refine aa (aa (eQ g (fun x s5 h5=>?_) fun _ _ z=>z.elim));exact aa (eQ h5 (fun _ t h6=>ax (ax ⟨Z9,h6⟩)) fun _ _ z=>z.elim)
theorem Be{env:Env}:∀{names:List (Str×lQ)} {x:Str},
  (names.map fun (n,k)=>if (k==NameKind.free&&env.scope.kind==.function&&env.kindOf n==Z8 .cell) then (n,NameKind.cell) else (n,k)).lookup x=Z8 .local->names.lookup x=Z8 .local
 | [],_,h=>by simp at h
 |(n,k)::r,x,h=>by
  have Z:=@Be env r x;rw[bK]at h;dsimp only at h
  by_cases hc:(k==NameKind.free&&env.scope.kind==.function&&env.kindOf n==Z8 .cell)=true
  ·rw[if_pos hc]at h
   cases hx:x==n with
   |true=>simp[cC,hx]at h
   |false=>
    simp only[cC,hx]at h |-;exact Z h
  ·rw[if_neg hc]at h
   cases hx:x==n with
   |true=>
    simp only[cC,hx]at h |-;exact h
   |false=>
    simp only[cC,hx]at h |-;exact Z h
theorem zX{env:Env}:∀{names:List (Str×lQ)} {x:Str},
  ((names.map fun (n,k)=>if (k==NameKind.free&&env.scope.kind==.function&&env.kindOf n==Z8 .cell) then (n,NameKind.cell) else (n,k)).lookup x=Z8 .cell \/
   (names.map fun (n,k)=>if (k==NameKind.free&&env.scope.kind==.function&&env.kindOf n==Z8 .cell) then (n,NameKind.cell) else (n,k)).lookup x=Z8 .free)->names.lookup x=Z8 .cell\/names.lookup x=Z8 .free
 | [],_,h=>by simp at h
 |(n,k)::r,x,h=>by
  have Z:=@zX env r x;rw[bK]at h;dsimp only at h
  by_cases hc:(k==NameKind.free&&env.scope.kind==.function&&env.kindOf n==Z8 .cell)=true
  ·rw[if_pos hc]at h;have hk:k=.free:=by
    have z:=(rO.mp (rO.mp hc).1).1;exact eq_of_beq z
   cases hx:x==n with
   |true=>
    simp only[cC,hx];rw[hk];exact .inr rfl
   |false=>
    simp only[cC,hx]at h |-;exact Z h
  ·rw[if_neg hc]at h
   cases hx:x==n with
   |true=>
    simp only[cC,hx]at h |-;exact h
   |false=>
    simp only[cC,hx]at h |-;exact Z h
def qF(env:Env):List (Str×lQ)->List (Str×ae)->List (Str×ae)
 | [],Z=>Z
 |(n,k)::r,Z=>qF env r (if k=.free then (match env.cells.lookup n with|some c=>(n,c)::Z|none=>Z) else Z)
theorem Bf:∀(names:List (Str×lQ)) (Z:List (Str×ae)),(∀y∈names,y.2=.free->∃c,env.cells.lookup y.1=Z8 c) ->
  (forIn names Z fun x r=>(do
   if (x.2==NameKind.free)=true then do
    let c <- cellOf env x.1
    pure (ForInStep.yield ((x.1,c)::r))
   else pure (ForInStep.yield r):Sem (ForInStep (List (Str×ae)))))=(pure (qF env names Z):Sem (List (Str×ae)))
 | [],Z,_=>rfl
 |(n,k)::r,Z,h=>by
  have V:=fun W=>Bf r W (fun y hy=>h y (aj _ hy));rw[List.forIn_cons]
  by_cases hk:k=.free
  ·subst hk;obtain⟨c,hc⟩:=h _ aB rfl;have U:cellOf env n=pure c:=by
    unfold cellOf;rw[show env.cells.lookup n=Z8 c from hc]
   have Y:qF env ((n,.free)::r) Z=qF env r ((n,c)::Z):=by
    show qF env r (if NameKind.free=.free then (match env.cells.lookup n with|some c=>(n,c)::Z|none=>Z) else Z)=_;rw[if_pos rfl,show env.cells.lookup n=Z8 c from hc]
   rw[Y,<- V];simp[U]
  ·have Y:qF env ((n,k)::r) Z=qF env r Z:=by
    show qF env r (if k=.free then _ else Z)=_;rw[if_neg hk]
   rw[Y,<- V];have e3:(k==NameKind.free)=false:=by
    cases k<;>first|rfl|exact absurd rfl hk
   simp[e3]
theorem Bg:∀{names:List (Str×lQ)} {Y:List (Str×ae)} {n:Str} {c:ae},(∀n c,Y.lookup n=Z8 c->env.cells.lookup n=Z8 c)->(qF env names Y).lookup n=Z8 c->env.cells.lookup n=Z8 c
 | [],_,_,_,h,e=>h _ _ e
 |(m,k)::r,Y,n,c,h,e=>by
  refine Bg (names:=r) (fun W V Z=>?_) e
  by_cases hk:k=.free
  ·rw[if_pos hk]at Z
   cases hm:env.cells.lookup m with
   |none=>
    rw[hm]at Z;exact h _ _ Z
   |some d=>
    rw[hm]at Z;dsimp only at Z;rw[cC]at Z
    split at Z
    ·rename_i z
     rw[eq_of_beq z,hm];exact Z
    ·exact h _ _ Z
  ·rw[if_neg hk]at Z;exact h _ _ Z
theorem yP:∀(names:List (Str×lQ)) (Z:List (Str×ae)) (n:Str),(∃c,Z.lookup n=Z8 c)->∃c,(qF env names Z).lookup n=Z8 c
 | [],_,_,h=>h
 |(m,k)::r,Z,n,h=>by
  refine yP r _ n ?_
  by_cases hk:k=.free
  ·rw[if_pos hk]
   cases hm:env.cells.lookup m with
   |none=>exact h
   |some d=>
    dsimp only;rw[cC]
    split
    ·exact{_,Z9}
    ·exact h
  ·rw[if_neg hk];exact h
theorem Bh:∀{names:List (Str×lQ)} {Z:List (Str×ae)} {n:Str},(n,NameKind.free)∈names->(∃c,env.cells.lookup n=Z8 c)->∃c,(qF env names Z).lookup n=Z8 c
 | [],_,_,h,_=>by cases h
 |(m,k)::r,Z,n,h,hc=>by
  rcases aq.mp h with e|e
  ·obtain⟨W,Y⟩:=Prod.mk.inj e;subst W Y;obtain⟨c,hc⟩:=hc;refine yP r _ n {c,?_};rw[if_pos rfl,hc];dsimp only;rw[cC,beq_self_eq_true]
  ·exact Bh (names:=r) e hc
structure iG(X:Cx)(scope:kM)(NN:List Str):Prop where
 nocell:∀y∈scope.names,y.2≠.cell
 kind:scope.kind=.function
 names:∀y∈scope.names,y.2=.local->scope.names.lookup y.1=Z8 .local
 far:∀y∈scope.names,y.2=.free->X.env.kindOf y.1=Z8 .cell\/X.env.kindOf y.1=Z8 .free
 len:NN.length=X.N.length
 apart:∀(i:Nat) (n:Str),NN[i]?=Z8 n->scope.names.lookup n≠Z8 .local/\(X.N[i]?=Z8 n\/scope.names.lookup n=Z7)
theorem iG.closed(Y:∀y∈Z.names,y.2≠.free)(hc:∀y∈Z.names,y.2≠.cell)(hk:Z.kind=.function)(W:∀y∈Z.names,y.2=.local->Z.names.lookup y.1=Z8 .local)
  (ha:∀n∈X.N,Z.names.lookup n≠Z8 .local):iG X Z X.N where
 nocell:=hc
 kind:=hk
 names:=W
 far:=fun y hy e=>absurd e (Y y hy)
 len:=rfl
 apart:=fun i n e=>{ha n (bC e),.inl e}
theorem iG.open(W:X.N=N)(Y:X.env.scope=sc)(hc:∀y∈Z.names,y.2≠.cell)(hk:Z.kind=.function)(M:∀y∈Z.names,y.2=.local->Z.names.lookup y.1=Z8 .local)
  (O:∀y∈Z.names,y.2=.free->sc.names.lookup y.1=Z8 .cell) (V:NN.length=N.length) (ha:∀p∈NN.zip N,Z.names.lookup p.1≠Z8 .local/\(p.2=p.1\/Z.names.lookup p.1=Z7)):iG X Z NN where
 nocell:=hc
 kind:=hk
 names:=M
 far:=fun y hy e=>.inl (by have z:=O y hy e;rw[<- Y]at z;exact z)
 len:=by rw[W];exact V
 apart:=fun i n e=>by
  have lt:i<N.length:=by rw[<- V];exact (aC.mp e).1
  have U:N[i]?=Z8 N[i]:=aw lt;have z:=ha (n,N[i]) (bC (i:=i) (by rw[zY];exact⟨e,U⟩));refine{z.1,?_}
  rcases z.2 with z|z
  ·left
   rw[W,U];exact congrArg Z8 z
  ·exact .inr z
abbrev cxC(X:Cx)(Z:kM)(V:List Str)(fp:List ae)(Y:ai)(W:Hp)(C:ae):Cx:=
 {X with N:=V,s₀:=Y,H₀:=W,env:=compEnvC Z (qF X.env Z.names []) C X.env,outer:=X.stack,ex:=fp,fn:=fun _=>false,pn:=[],xe:=fun _ _=>False}
def PTs(X:Cx)(Z:List cK)(t:TT):Prop:=
 ∀(pins:List (ae×Obj)) (s:ai) (σ:St) (H:Hp) (Q:Bool->Hp->Prop),Inv X pins σ H s->t σ H Q ->
  aP #[4] X.A (forIn Z true fun c r=>if r=true then do let ok <- HG c X.env (fY c X.env);pure (ForInStep.yield ok) else pure (ForInStep.yield r)) (TP X pins σ Q) X.xe s
def tM:TT:=fun _ H Q=>Q true H
theorem jP:PTs X [] tM:=fun pins s σ H Q I h=>wpAny_tests_nil ⟨H,I,h⟩
theorem L8(h:PT X c t):PTs X [c] t:=fun pins s σ H Q I q=>wpAny_tests_one (h pins s σ H Q I q)
def vh(n:Nat)(I:TI)(g:TG)(tc:TT)(te:TE):TE:=fun σ H Q=>I σ H fun J H1=>∃W:Nat->Nat->List V->Hp->Prop,(∃m,W 0 m [] H1)/\∀i m ys H,W i m ys H->ys.length<aD /\
 ((J.stop i H/\∀p,H p=Z7->Q (.ref p) (upd H p (.lst ys))) \/
  (J.go i H/\∃N:List V->Hp->Prop,(∀Y H',N Y H'->∃U,U<m/\W (i+1) U Y H')/\∀x H',J.yld i H x H'->g x (cy n Z7++σ) H' fun Z H2=>Z.drop n=σ/\tc Z H2 fun b O=>
   if b=true then te Z O fun y M=>N (ys++[y]) M else N ys O))
section
variable{X:Cx}
theorem Bi{σ Z:St}(h:Z.drop n=σ)(i:Nat)(v:V)(e:(cy n Z7++σ)[i]?=Z8 (Z8 v)):Z[i]?=Z8 (Z8 v):=by
 by_cases hi:i<n
 ·rw[d8 (by simpa using hi),pX,if_pos hi]at e
  cases e
 ·rw[dh (by simpa using hi),lG]at e;rw[<- h,HA]at e;rw[show n+(i-n)=i by omega]at e;exact e
theorem Bj(own:List Str)(ok:iG X Z NN)(hc:X.calm=true)(hi:PI X O gS wi)
  (hg:∀fp gw ha C,PG (cxC X Z (own++NN) fp gw ha C) O g) (ht:∀fp gw ha C,PTs (cxC X Z (own++NN) fp gw ha C) fx tc) (he:∀fp gw ha C,PE (cxC X Z (own++NN) fp gw ha C) fw te)
  (hs:∀x,qc gS X.env x=pure x)   {σ:St}   (I:Inv X pins σ H s) (h:vh own.length wi g tc te σ H Q)
  (fa:∀(s4:ai) (C D:ae) (H':Hp) (m:Str->Option af),s4.heap.Ns C m->Inv X pins σ H' s4->H' C=Z7->C≠X.env.locals->X.s₀.heap.objs.size<=C->(∀x c,X.env.cells.lookup x=Z8 c->c≠C)->(∀p∈X.pn++pins,p.1≠C)->Q (.ref D) H' ->
   compPost #[4] X.A X.xe use Qv (.ref D) C (.ok .next) s4) :
  aP #[4] X.A (comprehension (.ListComp fw [{O,gS,fx,0}] Z pos) Z X.env pos' (newList []) false (fY gS X.env) use) Qv X.xe s:=by
 have fe:∀y∈Z.names,y.2=.free->∃c,X.env.cells.lookup y.1=Z8 c:=fun y hy e=>I.ok.has _ (ok.far y hy e);have gn:closureFor Z X.env=pure (qF X.env Z.names []):=by
  unfold closureFor;rw[<- Bf Z.names [] fe];simp
 have Y:∀n c,(qF X.env Z.names []).lookup n=Z8 c->X.env.cells.lookup n=Z8 c:=fun n c e=>Bg (fun n c e=>by simp at e) e;have gt:∀n,(Z.names.lookup n=Z8 .cell\/Z.names.lookup n=Z8 .free)->(∃c,(qF X.env Z.names []).lookup n=Z8 c)/\(X.env.kindOf n=Z8 .cell\/X.env.kindOf n=Z8 .free):=fun n e=>by
  rcases e with e|e
  ·exact absurd rfl (ok.nocell _ (gP e))
  ·have m:=gP e;exact{Bh m (fe _ m rfl),ok.far _ m rfl}
 refine wpAny_comprehension_free (use:=use) rfl hs gn ok.kind ok.names (thn (hi pins s σ H _ I h) fun xv s1 h1=>thn h1 fun ec s2 h2=>?_);obtain⟨it,fp,tn,J,H2,e,t,T,ft,f2,W,⟨m0,w0⟩,turn⟩:=h2;subst e;have gq:∀b∈fp,b<s2.heap.objs.size:=fun b hb=>by
  obtain⟨o,e,_⟩:=T.obj _ _ ft b hb;exact aO e
 refine eM (wpAny_newFunctionEnv ok.nocell (by intro y hy;simp at hy) (fun h1 fy gg=>?_) ok.kind);dsimp only at fy gg |-;generalize hP:s2.heap.push {cls:=.type "list",dict:=Z7,data:=.seq ([]:List af).toArray}=P at fy gg |-;have hC:P.objs.size=s2.heap.objs.size+1:=by rw[<- hP,gB]
 have eH:s2.heap.objs.size≠P.objs.size:=by rw[hC];exact aM (ia _)
 have gv:s2.heap.objs.size<=P.objs.size:=by rw[hC];exact eD _
 have old:∀b o,s2.heap.get? b=Z8 o->h1.get? b=Z8 o:=fun b o e=>
  gg.extBut b o (by rw[hC];exact aM (dY (aO e))) (aE _ (hP ▸ aE _ e))
 have fq:h1.get? s2.heap.objs.size=Z8 {cls:=.type "list",data:=.seq ([]:List af).toArray 0}:=gg.extBut _ _ eH (aE _ (hP ▸ aU _ rfl))
 -- the block's context is well made
 have fz:(cxC X Z (own++NN) fp s2 H2 P.objs.size).Ok:=by
  refine⟨I.ok.mod,ok.kind,I.ok.glob,I.ok.blt,by show s2.heap.objs.size<=P.objs.size;omega,fun y z c a b=>I.ok.inj y z c (Y _ _ a) (Y _ _ b),fun y hy=>(gt y (zX hy)).1,fun y c z _=>vU z,I.ok.hd,I.ok.frames,.inl rfl,
   fun b hb=>{fun z=>?_,fun y c e=>(f2 b hb).2.2.2.2.1 y c (Y _ _ e)},t.bs,cZ I.ok.bsz t.sz,fun b o e hb=>?_,fun b hb z=>?_,t.stack,t.stkFree⟩
  ·exact aM (bf (gq b hb) gv) z
  ·rcases (f2 b hb).2.2.2.1 with q|q
   ·exact I.ok.noex b o e q
   ·exact absurd (bf (aO e) (cZ I.ok.bsz q)) (hU _)
  ·rcases aq.mp (t.stkSub b z) with q|q
   ·exact (f2 b hb).2.1 q
   ·exact (f2 b hb).2.2.1 q
 have fpOk:∀{H':Hp} {o:Obj},(∀b∈fp,H' b=Z7)->∀b∈fp,zA (cxC X Z (own++NN) fp s2 H2 P.objs.size) [(s2.heap.objs.size,o)] H' b:=fun {H' o} hn b hb=>by
  have lt:=gq b hb;refine{hn b hb,fun z=>?_,fun z=>fz.exfs b hb z,.inl hb,fun y c e=>(fz.exf b hb).2 y c e,fun p hp z=>?_}
  ·exact aM (bf lt gv) z
  ·have fo:p=(s2.heap.objs.size,o):=by simpa using hp
   subst fo;exact aM lt (Eq.symm z)
 have gl:∀y c,(qF X.env Z.names []).lookup y=Z8 c->c<s2.heap.objs.size:=fun y c e=>by
  obtain⟨v,q⟩:=t.cell y c (Y _ _ e);exact q.lt
 have start:Inv (cxC X Z (own++NN) fp s2 H2 P.objs.size) [] (cy own.length Z7++σ) H2 {s2 with heap:=h1,toks:=s2.toks+([]:List (Str×af)).length}:=by
  refine{fz,Z9,t.bare,Un.kept old,{_,fy,fun i y v e1 e2 e3=>?_},fun y c e=>?_,t.hok.fresh (by show s2.heap.objs.size<=P.objs.size;omega),fun y c e=>t.freeC y c (Y _ _ e),fun p hp=>absurd (show p∈([]:List (ae×Obj)) from by simpa using hp) #[5],t.hok.kept old,?_}
  ·by_cases hi:i<own.length
   ·rw[d8 (by simpa using hi),pX,if_pos hi]at e2
    cases e2
   ·have ee:NN[i-own.length]?=Z8 y:=by
     have z:(own++NN)[i]?=Z8 y:=e1;rw[dh #[2]]at z;exact z
    rw[dh (by simpa using hi),lG]at e2;obtain⟨ek,ej⟩:=ok.apart _ y ee
    rcases e3 with e3|e3
    ·exact absurd (Be e3) ek
    ·obtain⟨⟨c,ez⟩,kc⟩:=gt y (zX e3);have ei:X.N[i-own.length]?=Z8 y:=by
      rcases ej with z|z
      ·exact z
      ·rcases zX e3 with q|q<;>(rw[z]at q;cases q)
     obtain⟨m,hn,hl⟩:=t.loc;obtain⟨u,r,l⟩:=hl (i-own.length) y v ei e2 (.inr kc);refine{u,r,.inr {e3,c,ez,?_}}
     rcases l with⟨l,_⟩|⟨_,c',e',q⟩
     ·rcases kc with kc|kc<;>(rw[l]at kc;cases kc)
     ·rw[Y _ _ ez]at e'
      cases e';exact q.keeps old
  ·obtain⟨v,q⟩:=t.cell y c (Y _ _ e);exact{v,q.keeps old}
  ·show (cy own.length Z7++σ).length=(own++NN).length;rw[au,au,lG,t.len,ok.len]
 have gh:s2.heap.objs.size≠P.objs.size:=eH;have eo:s2.heap.objs.size∉frs X.stack:=fun z=>by
  rcases aq.mp (t.stkSub _ z) with q|q
  ·exact aM t.lt (Eq.symm q)
  ·exact t.nofs (ay _) q
 have gd:∀s₃:ai,s₃={s2 with heap:=h1,toks:=s2.toks+([]:List (Str×af)).length} ->
   kS #[4] X.A (.compLoop (.ListComp fw [{O,gS,fx,0}] Z pos) 0 (.ref it) (.ref s2.heap.objs.size) (compEnvC Z (qF X.env Z.names []) P.objs.size X.env))
    (compPost #[4] X.A X.xe use Qv (.ref s2.heap.objs.size) P.objs.size) s₃:=by
  rintro s₃ rfl;refine zW (fun n s'=>∃(i:Nat) (ys:List V) (H':Hp) (U:List af) (k:Nat),Inv (cxC X Z (own++NN) fp s2 H2 P.objs.size) [] (cy own.length Z7++σ) H' s'/\tn i s'.heap/\(∀b∈fp,H' b=Z7)/\H' s2.heap.objs.size=Z7/\cW ys U /\
   s'.heap.get? s2.heap.objs.size=Z8 {cls:=.type "list",data:=.seq U.toArray k}/\W i n ys H') ?_ m0
   {0,[],H2,[],0,start,T.keep _ _ _ ft (fun b _ o e=>old b o e),fun b hb=>(f2 b hb).1,t.hok.fresh (ay _),.nil,fq,w0}
  rintro n s3 ⟨i,ys,H3,U,k,I3,ey,et,nD,rv,hD,w3⟩;have Ip:Inv (cxC X Z (own++NN) fp s2 H2 P.objs.size) [(s2.heap.objs.size,{cls:=.type "list",data:=.seq U.toArray k})] (cy own.length Z7++σ) H3 s3:=I3.pins_of fun p hp=>by
   have fo:p=(s2.heap.objs.size,{cls:=.type "list",data:=.seq U.toArray k}):=by simpa using hp
   subst fo;exact{hD,nD,gh,eo,fun v z=>by cases z}
  obtain⟨hl,hw⟩:=turn i n ys H3 w3
  rcases hw with⟨eL,fin⟩|⟨go,N,hN,step⟩
  ·refine thn (T.done (cxC X Z (own++NN) fp s2 H2 P.objs.size) rfl rfl rfl hc i _ s3 _ H3 _ Ip (fpOk et) ey eL) fun r s4 z=>?_;obtain⟨hr,I4⟩:=z;subst hr;obtain⟨m,hn,_⟩:=I4.loc;have ef:s4.heap.get? s2.heap.objs.size=Z8 {cls:=.type "list",data:=.seq U.toArray k}:=(I4.pin _ (bL _ aB)).1;obtain⟨h',eu⟩:∃h',h'=s4.heap:={_,Z9};have gr:∀b o,b≠P.objs.size->s4.heap.get? b=Z8 o->h'.get? b=Z8 o:=fun b o hb e=>by rw[eu];exact e
   have hf:∀b o,s2.heap.get? b=Z8 o->b≠P.objs.size/\b≠s2.heap.objs.size:=fun b o e=>by
    have lt:=aO e;exact{aM (bf lt gv),aM lt}
   have M:∀b u,H3 b=Z8 u->b≠P.objs.size/\b≠s2.heap.objs.size:=fun b u e=>by
    refine{fun z=>?_,fun z=>?_}
    ·have q:H3 P.objs.size=Z7:=I4.free;rw[<- z,e]at q
     cases q
    ·rw[z,nD]at e
     cases e
   have un:Un (frs X.stack) fp H2 (upd H3 s2.heap.objs.size (.lst ys)) s2.heap h':=by
    have B:=I4.base;refine{fun b o e q hb hx=>gr b o (hf b o e).1 (B.keep b o e q hb hx),fun b o e q hb hx=>?_,fun b o e q hx=>?_,fun b o e hx=>?_,fun b xs e=>?_,fun b o u e=>?_,fun b ps e=>?_}
    ·obtain⟨sl,e1⟩:=B.slot b o e q hb hx;exact{sl,gr _ _ (hf b o e).1 e1}
    ·rw[aQ (hf b o e).2];exact B.free b o e q hx
    ·obtain⟨o',e1⟩:=B.there b o e hx;exact{o',gr _ _ (hf b o e).1 e1}
    ·have q:=B.tups b xs e;rw[aQ (M _ _ q).2];exact q
    ·have q:=B.frzs b o u e;rw[aQ (M _ _ q).2];exact q
    ·obtain⟨more,q⟩:=B.tbls b ps e;refine{more,?_};rw[aQ (M _ _ q).2];exact q
   have er:HOk X.prog X.w (upd H3 s2.heap.objs.size (.lst ys)) h':=fun b u e=>by
    by_cases hb:b=s2.heap.objs.size
    ·subst hb;rw[ak]at e
     cases e;exact{ny hl,U,k,rv,gr _ _ gh ef}
    ·rw[aQ hb]at e;refine (I4.hok b u e).stay (fun c v hc q=>gr c v ?_ q) (fun c q=>?_) fun c xs q=>?_
     ·rcases hc with z|z
      ·rw[z];exact (M _ _ e).1
      ·exact (M _ _ z).1
     ·rw[aQ (M _ _ q).2];exact q
     ·rw[aQ (M _ _ q).2];exact q
   have J:=t.call' (s':={s4 with heap:=h'}) (ch:=fp) I4.os un er I4.bare fun b hb=>{(f2 b hb).2.2.2.1,(f2 b hb).2.1,(f2 b hb).2.2.2.2.1,(f2 b hb).2.2.2.2.2};subst eu;refine fa s4 P.objs.size s2.heap.objs.size (upd H3 s2.heap.objs.size (.lst ys)) m hn J ?_ ?_ ?_ (fun y c e=>?_) (fun q hq=>?_) (fin _ nD)
   ·rw[aQ gh.symm];exact I4.free
   ·exact gW (bf t.lt gv)
   ·exact cZ t.sz gv
   ·obtain⟨v,z⟩:=t.cell y c e;exact aM (bf z.lt gv)
   ·exact aM (bf (aO (t.pin q hq).1) gv)
  ·refine thn (T.item (cxC X Z (own++NN) fp s2 H2 P.objs.size) rfl rfl rfl hc i _ s3 _ H3 _ Ip (fpOk et) ey go) fun r s4 z=>?_;obtain⟨u,hr,h4⟩:=z;subst hr;refine thn h4 fun _ s5 z=>?_;obtain⟨x,H5,I5,r5,y5,fG,eg⟩:=z;have ed:=I5.pinned (fpOk eg) (T.obj _ _ fG);refine thn (hg fp s2 H2 P.objs.size _ s5 _ H5 x u _ ed r5 (step x H5 y5)) fun _ s6 z=>?_;obtain⟨gM,H6,I6,ew,q6⟩:=z;refine thn (ht fp s2 H2 P.objs.size _ s6 gM H6 _ I6 q6) fun eh s7 z=>?_;obtain⟨H7,I7,q7⟩:=z;have fZ:∀{H8:Hp} {s8:ai},Inv (cxC X Z (own++NN) fp s2 H2 P.objs.size) ([(s2.heap.objs.size,{cls:=.type "list",data:=.seq U.toArray k})]++um fp s5.heap) gM H8 s8 ->
     s8.heap.get? s2.heap.objs.size=Z8 {cls:=.type "list",data:=.seq U.toArray k}/\H8 s2.heap.objs.size=Z7:=fun I8=>by
    have z:=I8.pin (s2.heap.objs.size,{cls:=.type "list",data:=.seq U.toArray k}) (bL _ (iI _ aB));exact⟨z.1,z.2.1⟩
   have ge:∀{H8:Hp} {s8:ai},Inv (cxC X Z (own++NN) fp s2 H2 P.objs.size) ([(s2.heap.objs.size,{cls:=.type "list",data:=.seq U.toArray k})]++um fp s5.heap) gM H8 s8 ->
     tn (i+1) s8.heap/\∀b∈fp,H8 b=Z7:=fun {H8 s8} I8=>by
    refine{T.keep _ _ _ fG fun b hb o e=>(I8.pin (b,o) (bL _ (bL _ (pe hb e)))).1,fun b hb=>?_};obtain⟨o,e,_⟩:=T.obj _ _ fG b hb;exact (I8.pin (b,o) (bL _ (bL _ (pe hb e)))).2.1
   have ga:(cy own.length Z7++σ).length=gM.length:=by rw[I6.len,start.len]
   cases eh with
   |false=>
    have em:N ys H7:=q7;obtain⟨m',lt,w'⟩:=hN _ _ em;obtain⟨d1,d2⟩:=fZ I7;obtain⟨p1,p2⟩:=ge I7;have J7:Inv (cxC X Z (own++NN) fp s2 H2 P.objs.size) [] gM H7 s7:=I7.pins_of (fun p hp=>absurd hp #[5]);exact{m',lt,i+1,ys,H7,U,k,J7.weak ga (Bi ew),p1,p2,d2,rv,d1,w'}
   |true=>
    refine thn (he fp s2 H2 P.objs.size _ s7 gM H7 _ I7 q7) fun v8 s8 z=>?_;obtain⟨y,H8,I8,r8,n8⟩:=z;obtain⟨m',lt,w'⟩:=hN _ _ n8;obtain⟨d1,d2⟩:=fZ I8;obtain⟨p1,p2⟩:=ge I8;refine append_at (hsz:=by rw[aH,<- rv.length];exact ny hl) d1 fun h9 sb el=>?_;have J8:Inv (cxC X Z (own++NN) fp s2 H2 P.objs.size) [] gM H8 s8:=I8.pins_of (fun p hp=>absurd hp #[5]);have J9:Inv (cxC X Z (own++NN) fp s2 H2 P.objs.size) [] gM H8 {s8 with heap:=h9}:=J8.turned (t':=s8.toks) (it:=s2.heap.objs.size) (fun b o hb e=>sb.extBut b o hb e) d2 gh (.inr (ay _)) (fun y c e=>aM (gl y c e)) (fun p hp=>absurd hp #[5]);refine{m',lt,i+1,ys++[y],H8,U++[v8],k+1,J9.weak ga (Bi ew),T.keep _ _ _ p1 (fun b hb o e=>sb.extBut b o (aM (gq b hb)) e),p2,d2,rv.append (.cons r8 .nil),?_,w'};show h9.get? _=_;rw[el,List.push_toArray]
 exact codeAny_compStart_list (gd _ rfl) (T.self X.A 0 _ _ _ (T.keep _ _ _ ft (fun b _ o e=>old b o e)) (gd _ rfl))
theorem kZ{O Y U:cK}{M:List cK}{Z:kM}{NN:List Str}{pos:Pos}{z:TI}{g:TG}{tc:TT}{te:TE}(own:List Str)(ok:iG X Z NN)(hc:X.calm=true)(hi:PI X Y U z)
  (hg:∀fp W V C,PG (cxC X Z (own++NN) fp W V C) Y g) (ht:∀fp W V C,PTs (cxC X Z (own++NN) fp W V C) M tc) (he:∀fp W V C,PE (cxC X Z (own++NN) fp W V C) O te)
  (hs:∀x,qc U X.env x=pure x:=by intro _;rfl):PE X (.ListComp O [{Y,U,M,0}] Z pos) (vh own.length z g tc te):=by
 intro pins s σ H Q I h;rw[eval_ListComp];refine Bj (use:=Z7) own ok hc hi hg ht he hs I h fun s4 C D H' m hn J t n2 n3 n4 n5 q=>?_;exact{m,hn,fun h' sb=>{.ref D,H',J.turned (t':=s4.toks) (it:=C) (fun b o hb e=>sb.extBut b o hb e) t n2 (.inr n3) n4 n5,Z9,q}}
theorem vW{O Y W:cK}{M:List cK}{Z:kM}{NN:List Str}{pos pos' t:Pos}{wi:TI}{g:TG}{tc:TT}{te:TE}{i:Nat}{x:Str}(own:List Str)(ok:iG X Z NN)(hc:X.calm=true)(hN:X.N.Nodup)(bH:X.N[i]?=Z8 x)(hx:Loc X.env.scope x)(hi:PI X Y W wi)
  (hg:∀fp U V C,PG (cxC X Z (own++NN) fp U V C) Y g) (ht:∀fp U V C,PTs (cxC X Z (own++NN) fp U V C) M tc) (he:∀fp U V C,PE (cxC X Z (own++NN) fp U V C) O te)
  (hs:∀x,qc W X.env x=pure x:=by intro _;rfl) (hf:X.fn x=true\/X.env.scope.names.lookup x=Z8 .local:=by first|exact .inl rfl|exact .inr rfl|assumption)
  (bG:mE (.ListComp O [{Y,W,M,0}] Z pos) (Z8 (.Name x pos')) t.line X.env=pure true:=by rfl):PS X (.Assign [.Name x pos'] (.ListComp O [{Y,W,M,0}] Z pos) t) (HL (vh own.length wi g tc te) (wQ i)):=by
 intro pins s σ H D I h;rw[exec_Assign_Name_used _ _ _ _ bG];refine aa (FG (aa ?_));show aP _ X.A (do let _ <- comprehension (.ListComp O [{Y,W,M,0}] Z pos) Z X.env _ (newList []) false (fY W X.env) (Z8 (zz (.Name x pos') X.env))) _ _ s;refine aa (eQ (Bj (use:=Z8 (zz (.Name x pos') X.env)) (Qv:=fun _ s'=>SP X pins D .next s') own ok hc hi hg ht he hs I h fun s4 C DD H' m hn J n1 n2 n3 n4 n5 q=>?_) (fun _ s' hq=>ax (ax hq)) fun _ _ e=>e);show aP _ X.A (zz (.Name x pos') X.env (.ref DD)) _ _ s4;refine RO (yz J hN bH hx (show RelV (.ref DD) (.ref DD) from rfl) (fun s' J' z=>?_) hf);obtain⟨a,sb,ha⟩:=z;have na:C≠a:=by
  rcases ha with ha|ha
  ·rw[ha];exact n2
  ·exact (n4 x a ha).symm
 refine{m,hn.at' fun o e=>sb.extBut C o na e,fun h' bF=>{_,H',J'.turned (t':=s'.toks) (it:=C) (fun b o hb e=>bF.extBut b o hb e) n1 n2 (.inr n3) n4 n5,q}}
end
section
variable{K:ag}{a:ae}{xs:List V}{n:Nat}{g:TG}{tc:TT}{te:TE}{σ:St}{H:Hp}{Q:VK}
theorem yQ(Y:Nat->List V->Hp->Prop)(h0:Y 0 [] H)(hl:∀i ys H,i<=xs.length->Y i ys H->SqL K H a xs/\ys.length<aD)
  (hs:∀i x ys H,xs[i]?=Z8 x->Y i ys H->g x (cy n Z7++σ) H fun Z H2=>Z.drop n=σ/\tc Z H2 fun b M=>if b=true then te Z M fun y J=>Y (i+1) (ys++[y]) J else Y (i+1) ys M)
  (t:∀ys H,Y xs.length ys H->∀p,H p=Z7->Q (.ref p) (upd H p (.lst ys))) :
  ∃W:Nat->Nat->List V->Hp->Prop,(∃m,W 0 m [] H)/\∀i m ys H,W i m ys H->ys.length<aD/\(((Itl K a).stop i H/\∀p,H p=Z7->Q (.ref p) (upd H p (.lst ys))) \/
   ((Itl K a).go i H/\∃N:List V->Hp->Prop,(∀U H',N U H'->∃I,I<m/\W (i+1) I U H')/\∀x H',(Itl K a).yld i H x H'->g x (cy n Z7++σ) H' fun Z H2=>Z.drop n=σ/\tc Z H2 fun b M=>
    if b=true then te Z M fun y J=>N (ys++[y]) J else N ys M)):=by
 refine{fun i m ys H=>m=xs.length-i/\i<=xs.length/\Y i ys H,{xs.length,by simp,aW _,h0},?_};rintro i m ys H ⟨rfl,hi,p⟩;obtain⟨q,z⟩:=hl i ys H hi p;refine{z,?_}
 by_cases O:i<xs.length
 ·refine .inr {{xs,xs[i],q,by simp[O]},Y (i+1),fun U H' D=>{xs.length-(i+1),by omega,Z9,O,D},fun x H' y=>?_};obtain⟨e,y⟩:=y;subst e;exact hs i x ys _ (y xs q) p
 ·have e:i=xs.length:=by omega
  subst e;exact .inl {{xs,q,ay _},t ys H p}
theorem IH(Y:Nat->List V->Hp->Prop)(h0:Y 0 [] H)(hl:∀i ys H,i<=xs.length->Y i ys H->SqT K H a xs/\ys.length<aD)
  (hs:∀i x ys H,xs[i]?=Z8 x->Y i ys H->g x (cy n Z7++σ) H fun Z H2=>Z.drop n=σ/\tc Z H2 fun b M=>if b=true then te Z M fun y J=>Y (i+1) (ys++[y]) J else Y (i+1) ys M)
  (t:∀ys H,Y xs.length ys H->∀p,H p=Z7->Q (.ref p) (upd H p (.lst ys))) :
  ∃W:Nat->Nat->List V->Hp->Prop,(∃m,W 0 m [] H)/\∀i m ys H,W i m ys H->ys.length<aD/\(((Itt K a).stop i H/\∀p,H p=Z7->Q (.ref p) (upd H p (.lst ys))) \/
   ((Itt K a).go i H/\∃N:List V->Hp->Prop,(∀U H',N U H'->∃I,I<m/\W (i+1) I U H')/\∀x H',(Itt K a).yld i H x H'->g x (cy n Z7++σ) H' fun Z H2=>Z.drop n=σ/\tc Z H2 fun b M=>
    if b=true then te Z M fun y J=>N (ys++[y]) J else N ys M)):=by
 refine{fun i m ys H=>m=xs.length-i/\i<=xs.length/\Y i ys H,{xs.length,by simp,aW _,h0},?_};rintro i m ys H ⟨rfl,hi,p⟩;obtain⟨q,z⟩:=hl i ys H hi p;refine{z,?_}
 by_cases O:i<xs.length
 ·refine .inr {{xs,xs[i],q,by simp[O]},Y (i+1),fun U H' D=>{xs.length-(i+1),by omega,Z9,O,D},fun x H' y=>?_};obtain⟨e,y⟩:=y;subst e;exact hs i x ys _ (y xs q) p
 ·have e:i=xs.length:=by omega
  subst e;exact .inl {{xs,q,ay _},t ys H p}
end
end L2
namespace PySem
theorem zZ:P7 (.type "list") "keys"=pure Z7:=by rw[Bk,tN];kernel_rfl
theorem Bm:CT RM "dict.update.loop"=Z8 eK.«dict.update.loop»:=entryFor_of_tree (by kernel_rfl)
section
variable{prog:aI}{w:aY}{A:bJ}{E:af->ai->Prop}{s:ai}
theorem L9(hx:s.heap.get? a=Z8 {cls:=.type "list",dict:=Z7,data:=.seq xs k,slots:=sl})(U:A.handled=Z7)
  (h:∀h' tk,(∀b o,s.heap.get? b=Z8 o->h'.get? b=Z8 o)->Q Z7 {s with heap:=h',toks:=tk}):aP (aS prog w) A (getAttr? (.ref a) "keys") Q E s:=by
 obtain⟨hp,g,d,tk,W⟩:=s;have V:∀Z,(⟨hp,g,d,Z,W⟩:ai).TypeIs (.ref a) "list":=fun _=>{_,hx,Z9};have f1:=sub_AttributeError;have J:=F.slot_list_getattribute.lookup;have D:=F.slot_list_getattribute.bind (.ref a);have I:=am_list_getattr_none;unfold getAttr? getAttrBy? getAttrBy;have go:∀(u:Tok) (tk:Nat) (Q:af->ai->Prop) (E:af->ai->Prop),(∀h' Z e,Heap.NewAttrErr hp h' e (.ref a) "keys"->E (.ref e) ⟨h',g,d,Z,W⟩)->aP (aS prog w) A (vz (Value.builtin "list.__getattribute__") [.ref a,.str "keys" u]) Q E ⟨hp,g,d,tk,W⟩:=fun u tk Q E k1=>
  sI F.slot_list_getattribute (V _) am_entry_list_getattribute (F.args_list_getattribute_2 _ _) (meets_getattribute_miss_list a xs k sl "keys" _ zZ #[1]) {hx,U,fun h' Z e Y=>k1 h' Z e Y}
 repeat (any_goals (first|assumption|exact V _|refine go _ _ _ _ (fun h' Z e Y=>?_)|wp_step))
 obtain⟨t',O,M⟩:=Y.there
 repeat (any_goals (first|assumption|wp_step))
 exact h _ _ Y.keeps
def CV{prog:aI}{w:aY}{K:Type}[DecidableEq K](knd:KeyKind prog w K)(h:cb)(p:K×af)(x:af):Prop:=
 ∃(a:ae) (Z:af) (o:Obj) (n:Nat),x=.ref a/\h.get? a=Z8 o/\o.cls=.type "tuple"/\o.data=.seq #[Z,p.2] n/\knd.is p.1 Z=true
variable{K:Type}[DecidableEq K]{knd:KeyKind prog w K}
theorem II(Z:s.heap.get? a=Z8 o)(hc:o.cls=.type "tuple")(W:o.data=.seq #[k,v] n)(h:Q [k,v] s):aP (aS prog w) A (vX (.ref a)) Q E s:=by
 unfold vX;have Y:s.TypeIs (.ref a) "tuple":=⟨o,Z,hc⟩;refine aa (sF Y ?_);rw[if_pos (by decide)];refine aa (uy Z W (ax ?_));exact h
theorem EE{R:Cm->ai->Prop}{it l d:ae}{items:Array af}{Z:af}(hA:A.handled=Z7)(hl:l≠d)(hi:it≠d)(dj:it≠l):∀(ps:List (K×af)) (i:Nat) (kvs:List (K×af)) (s:ai) (t:Tok) (z:Int),
  s.heap.IsListIter it l i->s.heap.IsList l items->s.heap.DictOf knd d kvs->aN (fun p x=>CV knd s.heap p x/\x≠.ref d/\x≠.ref it) ps (items.toList.drop i)->kvs.length+ps.length<=aD ->
  (∀h' tk,h'.DictOf knd d (ps.foldl (fun m p=>w9 m p.1 p.2) kvs)->(∀b o,b≠d->b≠it->s.heap.get? b=Z8 o->h'.get? b=Z8 o)->R (.ok (.ret Z)) {s with heap:=h',toks:=tk}) ->
  kS (aS prog w) A (.builtin "dict.update.loop" {[.ref d,.ref it,.int z t,Z],[]}) R s
 | [],i,kvs,s,t,z,W,Y,hd,hp,hz,h=>by
  have I:items.toList.drop i=[]:=by
   have e:=hp.length;exact List.length_eq_zero_iff.mp e.symm
  have hx:items[i]?=Z7:=by
   have e:=List.drop_eq_nil_iff.mp I;simp only[bZ]at e;exact kO e
  refine gj Bm ?_;unfold eK.«dict.update.loop»;dsimp only;refine aa (Lr hA W Y hx fun h' eb=>?_);dsimp only;refine aa ?_;unfold Builtin.Dict.addKeywords;refine ax ?_;refine ax (h h' _ (hd.extBut eb hi.symm) fun b o _ hb e=>eb b o hb e)
 |p::ps,i,kvs,s,t,z,W,Y,hd,hp,hz,h=>by
  cases e0:items.toList.drop i with
  |nil=>
   rw[e0]at hp
   cases hp
  |cons x r=>
   rw[e0]at hp
   cases hp with
   |cons h1 h2=>
    obtain⟨⟨a,kv,o,n,rfl,ho,hc,cn,hk⟩,nd,ni⟩:=h1;have hx:items[i]?=Z8 (.ref a):=by
     have e:=congrArg (fun l=>l[0]?) e0;simpa using e
    have hr:items.toList.drop (i+1)=r:=by
     have e:=congrArg List.tail e0;simpa using e
    refine gj Bm ?_;unfold eK.«dict.update.loop»;dsimp only;refine aa (HQ W Y hx fun de O sb=>?_);dsimp only;refine aa (cU (aa (wpAny_tryCatch ?_)));have da:a≠it:=fun q=>ni (by rw[q]);have ck:a≠d:=fun q=>nd (by rw[q]);refine II (s:={s with heap:=de}) ((sb.2 a da).trans ho) hc cn ?_;dsimp only;refine cU (wpAny_dictSet_pairs (s:={s with heap:=de}) hk (hd.extBut sb.extBut hi.symm) (fun J dc dg=>?_) (by simp only[aX]at hz;omega));refine ax {ug _ #[1],?_};have keep:∀b M,b≠d->b≠it->s.heap.get? b=Z8 M->J.get? b=Z8 M:=fun b M U V e=>dg.extBut b M U (sb.extBut b M V e);refine EE (items:=items) hA hl hi dj ps (i+1) (w9 kvs p.1 p.2) {s with heap:=J,toks:=s.toks+1} _ _ ?_ ?_ dc ?_ ?_ ?_
    ·obtain⟨oi,ei,ci,di⟩:=O;exact{oi,dg.extBut it oi hi ei,ci,di}
    ·obtain⟨ol,el,cl⟩:=Y;exact{ol,keep l ol hl dj.symm el,cl}
    ·rw[hr];clear e0 hr h hz hd W O Y
     induction h2 with
     |nil=>exact .nil
     |cons q1 q2 ih=>
      refine .cons ?_ ih;obtain⟨⟨a',db,o',n',rfl,cx,cr,dk,cp⟩,g,D⟩:=q1;exact{{a',db,o',n',Z9,keep a' o' (fun q=>g (by rw[q])) (fun q=>D (by rw[q])) cx,cr,dk,cp},g,D}
    ·have hs:(w9 kvs p.1 p.2).length<=kvs.length+1:=by
      unfold w9
      split
      ·rw[ah];omega
      ·simp
     simp only[aX]at hz;omega
    ·intro h' tk cs k';exact h h' tk cs fun b M U V e=>k' b M U V (keep b M U V e)
theorem Ma{l:ae}{items:Array af}{k:Nat}{sl:Array (Option af)}{ps:List (K×af)}{Q:af->ai->Prop}(I:A.handled=Z7)(hx:s.heap.get? l=Z8 {cls:=.type "list",dict:=Z7,data:=.seq items k,slots:=sl})
  (hp:aN (CV knd s.heap) ps items.toList) (hz:ps.length<=aD)
  (h:∀h' tk,h'.DictOf knd s.heap.objs.size (ps.foldl (fun m p=>w9 m p.1 p.2) [])->(∀b o,s.heap.get? b=Z8 o->h'.get? b=Z8 o)->Q (.ref s.heap.objs.size) {s with heap:=h',toks:=tk}) :
  aP (aS prog w) A (vz (.type "dict") [.ref l]) Q E s:=by
 refine callType_codes (Q₁:=fun obj D=>obj=.ref s.heap.objs.size/\D={s with heap:=s.heap.push {cls:=.type "dict",data:=.dict #[]}}) F.kt_called_dict (F.kt_typeCall_dict_1 _) F.entry_dict_init (kt_code_dict_new _ ⟨Z9,Z9⟩) ?_;rintro obj D ⟨rfl,rfl⟩;have Z:(s.heap.push {cls:=.type "dict",data:=.dict #[]}).DictOf knd s.heap.objs.size []:=B6 s.heap;have up:∀b o,s.heap.get? b=Z8 o->(s.heap.push {cls:=.type "dict",data:=.dict #[]}).get? b=Z8 o:=fun b o e=>aE _ e;have W:=aO hx;refine{Z.typeIs,F.args_dict_init_2 _ _,?_};unfold eK.«dict.__init__»;refine aa ?_;unfold Builtin.Dict.selfAndRest;refine aa (wpAny_notOrdered_dict Z.typeIs ?_);show aP _ _ (pure (s.heap.objs.size,[Value.ref l])) _ _ _;refine ax ?_;show aP _ _ (vD "dict.__init__" s.heap.objs.size (.ref l) [] .none) _ _ _;unfold vD;have hT:({s with heap:=s.heap.push {cls:=.type "dict",data:=.dict #[]}}:ai).TypeIs (.ref l) "list":={_,up _ _ hx,Z9};refine aa (sF hT ?_);rw[if_pos (by decide)];refine aa (L9 (s:={s with heap:=s.heap.push {cls:=.type "dict",data:=.dict #[]}}) (up _ _ hx) I fun h1 O k1=>?_);rw[if_pos #[7]];refine aa (pB (aa ?_));have U:h1.IsList l items:={_,k1 _ _ (up _ _ hx),Z9,k,Z9};refine x8 (s:={s with heap:=h1,toks:=O}) U ?_;have Y:s.heap.objs.size<h1.objs.size:=by
  obtain⟨o,_,_,e,_⟩:=Z;exact aO (k1 _ _ e)
 have V:∀b o,s.heap.get? b=Z8 o->(h1.push {cls:=.type "list_iterator",data:=.fields #[.ref l,.int 0 0]}).get? b=Z8 o:=fun b o e=>aE _ (k1 _ _ (up _ _ e));refine ax {ug _ #[1],?_};refine EE (A:=A.in1) (knd:=knd) (items:=items) I (l:=l) (aM W) (gW Y) (gW (jn W Y)) ps 0 [] _ _ _ ?_ ?_ ?_ ?_ ?_ ?_
 ·exact{_,aU _ rfl,Z9,Z9}
 ·exact U.push _
 ·obtain⟨o,es,ep,e,r⟩:=Z;exact{o,es,ep,aE _ (k1 _ _ e),r}
 ·rw[yR];clear h hz;generalize items.toList=xs at hp
  induction hp with
  |nil=>exact .nil
  |cons q1 q2 t=>
   refine .cons ?_ t;obtain⟨a,g,o,n,rfl,J,hc,M,hk⟩:=q1;have z:=aO J;refine{{a,g,o,n,Z9,V _ _ J,hc,M,hk},fun q=>?_,fun q=>?_}
   ·injection q with q;exact aM z q
   ·injection q with q;exact aM (jn z Y) q
 ·simpa using hz
 ·intro h' tk M k';refine{Z9,h h' tk M fun b o e=>k' b o ?_ ?_ (V b o e)}
  ·exact aM (aO e)
  ·exact aM (jn (aO e) Y)
end
end PySem
namespace L2
open PySem PySem.Spec PyProof.Rows
section
variable{X:Cx}
theorem yS(h:n<2^64):n.log2<9000:=by
 by_cases z:n=0
 ·subst z;decide
 ·exact jn ((Nat.log2_lt z).mpr h) (by decide)
def Oy(_ j:Int):Prop:=0<j/\j<2^64
theorem xf:OpR X (ji .FloorDiv) (rI Oy fun i j=>.int (i/j)):=opI fun i j _ _ _ _ _ hc q=>by
 have h1:(0:Int)<j:=hc.1;have h2:j<2^64:=hc.2;have Z:j.natAbs<2^64:=by omega
 exact HY #[2] (by rw[zD i #[2]];exact q) (.inl (yg (yS Z)))
def CDivM(_ j:Int):Prop:=j≠0/\j.natAbs<2^64
theorem IJ:OpR X (ji .FloorDiv) (rI CDivM fun i j=>.int (i.fdiv j)):=opI fun _ _ _ _ _ _ _ hc q=>HY hc.1 q (.inl (yg (yS hc.2)))
theorem Mb:OpR X (ji .Mult) (rI IntMulOk fun i j=>.int (i*j)):=opI fun _ _ _ _ _ _ _ hc q=>mul_int q hc
theorem n6:lE X (.builtin "isinstance") (fun xs H Q=>∃x n t b,xs=[x,.ty n]/\uu X.K H x t/\gY X.K t (.type n)=Z8 b/\Q (.bl b) H):=by
 intro pins s σ H xs us Q I r h;obtain⟨x,n,t,b,rfl,ty,e,q⟩:=h;obtain⟨u,Y,rfl,Z,rt⟩:=vals2 r
 cases (show Y=Value.type n from rt);exact FO I Z ty e fun tk=>{.bl b,H,I.tok _,Z9,q}
def vY(H:Hp):List (Key×V)->List V->Prop:=aN fun (p:Key×V) x=>∃a,x=V.ref a/\H a=Z8 (.tup [kV p.1,p.2])
theorem IK(ok:HOk P w H h):∀{ps:List (Key×V)} {vs:List V} {us:List af},vY H ps vs->cW vs us->∃qs:List (Key×af),KV ps qs/\aN (CV (cP P w) h) qs us:=by
 intro ps vs us r;unfold vY at r
 induction r generalizing us with
 |nil=>
  intro v
  cases v;exact{[],.nil,.nil}
 |@cons p x ps vs I g M=>
  intro v
  cases v with
  |cons t Y=>
   obtain⟨a,rfl,ha⟩:=I;obtain⟨qs,k1,k2⟩:=M Y
   cases t;obtain⟨_,O,W,o,D,hc,n,z⟩:=(show dZ P w H h a (.tup [kV p.1,p.2]) from ok a _ ha);obtain⟨U,J,rfl,rk,Z⟩:=vals2 W;exact{(p.1,J)::qs,.cons ⟨Z9,Z⟩ k1,.cons {a,U,o,n,Z9,D,hc,z,yN rk} k2}
theorem Mc(r:KV ps qs):∀{m:List (Key×V)} {n:List (Key×af)},KV m n->KV (ps.foldl (fun m p=>iV m p.1 p.2) m) (qs.foldl (fun m p=>w9 m p.1 p.2) n):=by
 unfold KV at r
 induction r with
 |nil=>
  intro m n k;exact k
 |@cons p q ps qs h t Z=>
  intro m n k;obtain⟨h1,h2⟩:=h;rw[xY,xY,<- h1];exact Z (k.put p.1 h2)
theorem Bn(ps:List (Key×V)):∀m:List (Key×V),(ps.foldl (fun m p=>iV m p.1 p.2) m).length<=m.length+ps.length:=by
 induction ps with
 |nil=>
  intro m;exact ay _
 |cons p ps Z=>
  intro m;rw[xY,aX];have h1:=Z (iV m p.1 p.2);have h2:=nY m p.1 p.2;omega
theorem CW(hc:X.calm=true):lE X (.type "dict") (fun xs H Q=>∃p vs ps,xs=[V.ref p]/\H p=Z8 (.lst vs)/\vY H ps vs/\ps.length<=aD/\∀d,H d=Z7->Q (.ref d) (upd H d (.dK (ps.foldl (fun m p=>iV m p.1 p.2) [])))):=by
 intro pins s σ H xs us Q I r h;obtain⟨p,vs,ps,rfl,hp,Y,hz,q⟩:=h;obtain⟨u,rfl,D⟩:=vals1 r
 cases D;obtain⟨_,W,n,Z,O⟩:=(show dZ X.prog X.w H s.heap p (.lst vs) from I.hok p _ hp);obtain⟨qs,k1,k2⟩:=IK I.hok Y Z;refine Ma (knd:=cP X.prog X.w) (I.ok.hd hc) O k2 (by rw[<- k1.length];exact hz) fun h' tk M kk=>?_;have U:=Mc k1 (m:=[]) (n:=[]) .nil;have J:=Bn ps [];refine{.ref s.heap.objs.size,_,I.laid (a:=s.heap.objs.size) (o:=.dK (ps.foldl (fun m p=>iV m p.1 p.2) [])) (t':=tk) kk (ay _) ?_,Z9,q _ (I.hok.fresh (ay _))};exact zT (by simp only[cI]at J;omega) (beq_eq_false_iff_ne.mpr (fb (aM I.big))) U M
end
end L2
namespace Att
open PySem PySem.W PySem.Calls PyProof.Rows
theorem weight_mem:∀(xs:List WData) (x:WData),x∈xs->mQ x<=xg xs
 | [],_,h=>by cases h
 |y::r,x,h=>by
  unfold xg
  rcases aq.mp h with e|e
  ·subst e;omega
  ·have:=weight_mem r x e;omega
theorem bits_of_lay{ns:List Int}(h:WData.layableAll [WData.list (ns.map WData.int)]=true):∀n∈ns,fg n<=1048576:=fun n Z=>by
 have h1:(WData.list (ns.map WData.int)).layable=true:=(layW_cons h).1;unfold WData.layable at h1;have h2:mQ (WData.list (ns.map WData.int))<=2^20:=of_decide_eq_true (rO.mp h1).2;have W:=weight_mem (ns.map WData.int) (WData.int n) (cB.mpr ⟨n,Z,Z9⟩);have Y:mQ (WData.list (ns.map WData.int))=xg (ns.map WData.int):=by
  rw[mQ]
 have V:mQ (WData.int n)=fg n:=by
  rw[mQ];rfl
 have e:(2:Nat)^20=1048576:=by decide
 omega
theorem attach_callB{l:OpenLaw}
  (hn:l.most=Z8 n) (D:d.params.defaults=[])
  (vz:∀(w:aY) (s₀ Z:ai) (mg z:Str->Option af) (I:ae) (a:ae) (vs:List af) (ns:List Int),
   Ground q W [] XP w s₀ mg z Z.heap->YP w Z.heap->mg d.name=Z8 (.ref I) ->
   Z.heap.get? a=Z8 {cls:=.type "list",data:=.seq vs.toArray}->dQ vs ns->ns.length<=n->(∀x∈ns,fg x<=1048576)->Z.gens=#[] ->
   kS (aS l.prog w) yf (.call (.ref I) {[.ref a],[]}) (fun r s'=>r=.ok (.ret (.bool true))/\OldK Z.heap s'.heap/\s'.os=Z.os/\p8 s'.gens) Z) :
  WalkO q W XP YP l.row.toRowW d [] (fun f vs=>FW f vs):=by
 intro w s₀ Z mg z G Y I o pm cd bW dV kV ho hd bH hD t hg args ca as U M bG g bI;obtain rfl:dV=.none:=Dflts.none hD D;obtain rfl:kV=.none:=Dflts.noKw hD;obtain⟨a,vs,ns,rfl,rfl,J,V,O⟩:=script_of hn U g;refine enter_call (jD (vz w s₀ Z mg z I a vs ns G Y t J V O (bits_of_lay M) hg) fun r s' hq=>?_);obtain⟨rfl,h2,h3,h4⟩:=hq;exact{.inl {.bool true,.bool true,[],Z9,fun _=>rfl,.bool true,post_true l _,fun _=>{List.Pairwise.nil,fun _ hm=>(nomatch hm)}},h2,h3,h4}
end Att
namespace L2
open PySem PySem.Spec PyProof.Rows
theorem walk_ofB{l:vE}{K:Params->ag}{CX:aY->CXT}{sp:aY->Sp}
  (hn:l.most=Z8 n) (t:n<=aD) (D:d.params.defaults=[]) (hr:dJ k yf)
  (hY:∀(w:aY) (h:cb),YP w h->(K w.params).In h)
  (F:∀(w:aY) (mg:Str->Option af) (I:ae) (h:cb),(K w.params).In h->h.Ns bP mg->mg d.name=Z8 (.ref I) ->
   ∃fd:bY,(∀(s:ai) (u:af),uY s fd {[u],[]} [(x,u)]) /\
    ∀base:cb,(K w.params).In base->base.Ns bP mg->bN l.prog w (K w.params) mg base (CX w) k I fd [x] (sp w))
  (z:∀(w:aY) (H:Hp) (a:ae) (ns:List Int),ns.length<=n->(∀x∈ns,fg x<=1048576)->SqL (K w.params) H a (ns.map V.int)->sp w [.ref a] H (fun v _=>v=.bl true) fun _ _ _=>False)
  (bw:∀(w:aY) (H:Hp) (s:ai) (e:af) (s':ai),CX w [] H s (fun _ _ _=>False) e s'->False) :
  Lu q O XP YP l.row.toRowW d [] (fun f vs=>FW f vs):=by
 refine Att.attach_callB hn D fun w s₀ M mg mb I a vs ns G Y bz J W Z U hg=>?_;have KX:=hY w _ Y;obtain⟨fd,hb,hF⟩:=F w mg I _ KX G.T.g bz;exact IA KX G.T.g G.T.b G.T.builtins G.T.nolimit hg J W (cZ Z t) hr hF hb (fun H hO hS=>z w H a ns Z U hS) fun H e s'=>bw w H M e s'
end L2
namespace PySem
open SeqAt MeetsSeq MeetsSeq2 MeetsSeq3 SeqRoads2
open AutoSeq1 (wpAny_loadPart')
def nK(prog:aI)(w:aY)(A:bJ)(s:ai)(y x:af):Prop:=
 ∀(E:af->ai->Prop) (Q:Bool->ai->Prop),Q true s->aP (aS prog w) A (eqBool y x) Q E s
def RcIn(prog:aI)(w:aY)(A:bJ)(s:ai)(y x:af):Prop:=
 ∀(E:af->ai->Prop) (Q:af->ai->Prop),Q (.bool true) s->aP (aS prog w) A (qe .Eq y x) Q E s
section
variable{prog:aI}{w:aY}{A:bJ}{s:ai}
theorem nK.of_at(h:EqAt A s y x true):nK prog w A s y x:=fun E Q q=>h prog w E Q q
theorem nK.self(v:af):nK prog w A s v v:=nK.of_at (EqAt.same v)
theorem nK.refs(h:RcIn prog w A s (.ref l) (.ref b)):nK prog w A s (.ref l) (.ref b):=by
 by_cases e:l=b
 ·rw[e];exact nK.self _
 ·intro E Q q;unfold eqBool;refine cU (gm (fun z=>?_) (fun _=>?_))
  ·exact absurd (by have Z:=eq_of_beq z;injection Z) e
  ·exact aa (h E _ (j1 q))
theorem Md(l b:ae)(xs ys:Array af)(n m:Nat)(dd D:Option ae)(sl sm:Array (Option af))(hsz:xs.size=ys.size):∀k i:Nat,xs.size-i=k ->
  IM prog w (eK.«list.__eq__.loop» {[.ref l,.ref b,gN i,gN 2],[]}) (fun A R s=>
   s.heap.get? l=Z8 {cls:=.type "list",dict:=dd,data:=.seq xs n,slots:=sl}/\s.heap.get? b=Z8 {cls:=.type "list",dict:=D,data:=.seq ys m,slots:=sm} /\
   (∀j (h1:j<xs.size) (h2:j<ys.size),nK prog w A.in1 s xs[j] ys[j])/\R (.ok (.ret (.bool true))) s):=by
 intro k
 induction k with
 |zero=>
  intro i hk A R s q;obtain⟨hp,g,d,tk,M⟩:=s;obtain⟨Z,Y,V,W⟩:=q;have a1:xs[((i:Nat):Int).toNat]?=Z7:=by simp;omega
  have a2:ys[((i:Nat):Int).toNat]?=Z7:=by simp;omega
  wp_walk using cQ Z,cQ Y
  rw[a1,a2]
  wp_walk using cQ Z,cQ Y
  show R (.ok (.ret (.bool (xs.size==ys.size)))) _;rw[hsz,beq_self_eq_true];exact W
 |succ k I=>
  intro i hk A R s q;obtain⟨hp,g,d,tk,M⟩:=s;obtain⟨Z,Y,V,W⟩:=q;have U:i<xs.size:=by omega
  have O:i<ys.size:=by omega
  have a1:xs[((i:Nat):Int).toNat]?=Z8 xs[i]:=by simp[U]
  have a2:ys[((i:Nat):Int).toNat]?=Z8 ys[i]:=by simp[O]
  have J:((i:Int)+1)=((i+1:Nat):Int):=by push_cast;rfl
  wp_walk using cQ Z,cQ Y
  rw[a1,a2];refine aa (V i U O _ _ ?_)
  wp_walk
  rw[J];refine{kP plain_eq_loop _,gj entry_eq_loop ?_};rw[gu plain_eq_loop _];exact I (i+1) #[2] A R _ ⟨Z,Y,V,W⟩
theorem Me(l b:ae)(xs ys:Array af)(n m:Nat)(dd Z:Option ae)(sl sm:Array (Option af))(hsz:xs.size=ys.size) :
  IM prog w (eK.«list.__eq__» {[.ref l,.ref b],[]}) (fun A R s=>
   s.heap.get? l=Z8 {cls:=.type "list",dict:=dd,data:=.seq xs n,slots:=sl}/\s.heap.get? b=Z8 {cls:=.type "list",dict:=Z,data:=.seq ys m,slots:=sm} /\
   (∀j (h1:j<xs.size) (h2:j<ys.size),nK prog w A.in1 s xs[j] ys[j])/\R (.ok (.ret (.bool true))) s):=by
 intro A R s q;obtain⟨hp,g,d,tk,O⟩:=s;obtain⟨Y,W,U,V⟩:=q;have f1:=AutoSeq1.sub_list_list;have M:¬(xs.size != ys.size)=true:=by simp[hsz]
 wp_walk using cQ Y,cQ W
 refine{kP plain_eq_loop _,gj entry_eq_loop ?_};rw[gu plain_eq_loop _];exact Md l b xs ys n m dd Z sl sm hsz _ 0 rfl A R _ ⟨Y,W,U,V⟩
theorem RcIn.lists(U:s.heap.IsList l xs)(hb:s.heap.IsList b ys)(hsz:xs.size=ys.size)(hu:A.units<dM)
  (W:∀j (h1:j<xs.size) (h2:j<ys.size),nK prog w A.in1 s xs[j] ys[j]):RcIn prog w A s (.ref l) (.ref b):=fun E Q q=>by
 obtain⟨⟨O,dd,t1,sl⟩,Z,rfl,n,rfl⟩:=id U;obtain⟨⟨M,V,J,sm⟩,Y,rfl,m,rfl⟩:=id hb;refine ig (op:=.Eq) {_,Z,Z9} {_,Y,Z9} F.slot_list_eq (oJ F.slot_list_eq {_,Z,Z9} F.entry_list_eq (F.args_list_eq_2 _ _) (Me l b xs ys n m dd V sl sm hsz) {Z,Y,W,?_}) hu;exact{fun z=>(nomatch z),q}
variable{K:Type}[DecidableEq K]{knd:KeyKind prog w K}
theorem pairs_at{es:List Hy}{kvs:List (K×af)}(h:Pairs knd es kvs):∀{i:Nat} {e:Hy},es[i]?=Z8 e->∃Z,kvs[i]?=Z8 Z/\knd.is Z.1 e.key=true/\e.val=Z.2:=by
 induction h with
 |nil=>
  intro i e q;simp at q
 |cons a b _ Y=>
  intro i e q
  cases i with
  |zero=>
   simp at q;subst q;exact{_,Z9,a,b}
  |succ i=>
   obtain⟨Z,z⟩:=Y (i:=i) (by simpa using q);exact{Z,by simpa using z.1,z.2}
theorem IP{nm:String}{d b:ae}{kvs kws:List (K×af)}{Q:Bool->ai->Prop}{E:af->ai->Prop}(hd:(d==eF)=false)(hb:(b==eF)=false)(m1:s.heap.DictOf knd d kvs)(D:s.heap.DictOf knd b kws)
  (hl:kvs.length=kws.length) (he:∀W∈kvs,∃O,qf kws W.1=Z8 O/\nK prog w A s W.2 O) (q:Q true s):aP (aS prog w) A (vZ nm d b) Q E s:=by
 obtain⟨o1,es,ep,h1,x1,t1,k1,t,n1⟩:=id m1;obtain⟨o2,fs,fp,h2,x2,M,k2,p2,n2⟩:=id D;have z1:es.size=kvs.length:=by rw[<- t.length,bZ]
 have z2:fs.size=kws.length:=by rw[<- p2.length,bZ]
 unfold vZ;unfold Builtin.Dict.showsAll;rw[if_neg (by rw[hd];exact aT),if_neg (by rw[hb];exact aT)];refine aa (ax (aa (ax ?_)));refine aa (qg h1 t1 (aa (qg h2 M ?_)));rw[if_neg (by rw[z1,z2,hl];simp)];refine aa (wpAny_dictEpoch h1 t1 (aa ?_));rw[Oz];simp only[OA,Nat.sub_zero,IQ,Nat.div_one];refine jj _ (fun rest r s'=>s'=s/\r.1=Z7/\∃i,rest=List.range' i (es.size-i)/\i<=es.size) _ ?_ ?_ _ _ {Z9,Z9,0,by simp,aW _}
 ·rintro x rest ⟨J,r2⟩ s' ⟨rfl,V,i,U,hi⟩;have lt:i<es.size:=by
   rcases jq i es.size with z|z
   ·exact z
   ·rw[Nat.sub_eq_zero_of_le z]at U;simp at U
  obtain⟨rfl,Y⟩:x=i/\rest=List.range' (i+1) (es.size-(i+1)):=by
   rw[show es.size-i=(es.size-(i+1))+1 by omega,List.range'_succ]at U;injection U with a1 a2;exact⟨a1,a2⟩
  obtain⟨W,y1,I,y3⟩:=pairs_at t (i:=x) (e:=es[x]) (by simp[lt]);obtain⟨kk,y4,y5⟩:=k1 es[x] (Array.getElem_mem lt);have y6:kk=W.1:=knd.inj _ _ _ y4 I;subst y6;obtain⟨O,Z,g2⟩:=he W (bC y1);obtain⟨o3,fs',g,a1,_,a2,a3,hf⟩:=D.mapOf;rw[h2]at a1
  cases a1;rw[M]at a2
  cases a2;rw[<- hf W.1,findBy_of_findIdx?]at Z;refine aa (qg h1 t1 ?_);rw[eR lt];dsimp only;refine aa (cU (aa ?_));rw[y5];refine wpAny_dictFind_of I h2 M k2 ?_
  cases hj:fs.findIdx? fun e=>knd.is W.1 e.key with
  |none=>
   rw[hj]at Z
   cases Z
  |some j=>
   rw[hj]at Z;dsimp only at Z |-;refine aa (qg h2 M ?_)
   cases hx:fs[j]? with
   |none=>
    simp[hx]at Z
   |some fe=>
    have g3:fe.val=O:=by simpa[hx] using Z
    dsimp only;refine cU ?_;rw[y3,g3];refine g2 _ _ ?_;rw[if_neg (by decide)];refine aa (wpAny_dictEpoch h1 t1 ?_);rw[if_neg #[5]];exact ax {Z9,Z9,x+1,Y,lt}
 ·rintro⟨J,r2⟩ s' ⟨rfl,V,_⟩;have V:J=Z7:=V;subst V;exact ax q
theorem FX(d b:ae)(O:(d==eF)=false)(hb:(b==eF)=false) :
  IM prog w (eK.«dict.__eq__» {[.ref d,.ref b],[]}) (fun A R s=>∃kvs kws,s.heap.DictOf knd d kvs/\s.heap.DictOf knd b kws/\kvs.length=kws.length /\
   (∀Z∈kvs,∃Y,qf kws Z.1=Z8 Y/\nK prog w A.in1 s Z.2 Y)/\R (.ok (.ret (.bool true))) s):=
 .of_wp fun A R s h=>by
  obtain⟨kvs,kws,U,W,M,V,q⟩:=h;unfold eK.«dict.__eq__»;show aP _ _ (uz "__eq__" {[.ref d,.ref b],[]} >>= _) _ _ s;refine aa ?_;unfold uz;unfold Builtin.Dict.notOrdered;rw[if_neg (by decide)];refine aa (ax ?_);show aP _ _ (pure (Value.ref d,Value.ref b)) _ _ s;refine ax ?_;dsimp only;refine aa (rF W.typeIs isSubtype_dict_dict ?_);rw[if_neg (by decide)];refine aa (ax (aa (ax (aa (IP O hb U W M V ?_)))));exact ax {_,Z9,q}
theorem RcIn.dicts{d b:ae}{kvs kws:List (K×af)}(O:(d==eF)=false)(hb:(b==eF)=false)(Z:s.heap.DictOf knd d kvs)(V:s.heap.DictOf knd b kws)(M:kvs.length=kws.length)(hu:A.units<dM)
  (U:∀Y∈kvs,∃W,qf kws Y.1=Z8 W/\nK prog w A.in1 s Y.2 W):RcIn prog w A s (.ref d) (.ref b):=fun E Q q=>
 ig (op:=.Eq) Z.typeIs V.typeIs F.slot_dict_eq (oJ F.slot_dict_eq Z.typeIs F.entry_dict_eq (F.args_dict_eq_2 _ _) (FX (knd:=knd) d b O hb) {kvs,kws,Z,V,M,U,{fun z=>(nomatch z),q}}) hu
end
end PySem
namespace L2
open PySem PySem.Spec PyProof.Rows PySem.SeqAt
def sc0:V->Prop
 |.int _=>True
 |.str _=>True
 |.bl _=>True
 |.non=>True
 |_=>False
def TEq(H:Hp):Nat->V->V->Prop
 |0,x,y=>sc0 x/\x=y
 |n+1,x,y=>(sc0 x/\x=y)\/(∃p q xs ys,x=.ref p/\y=.ref q/\H p=Z8 (.lst xs)/\H q=Z8 (.lst ys)/\aN (TEq H n) xs ys) \/
   ∃p q xs ys,x=.ref p/\y=.ref q/\H p=Z8 (.tup xs)/\H q=Z8 (.tup ys)/\aN (TEq H n) xs ys
def DEq(H:Hp):Nat->V->V->Prop
 |0,x,y=>∃n,n<=20/\TEq H n x y
 |n+1,x,y=>(∃n,n<=20/\TEq H n x y)\/(∃p q xs ys,x=.ref p/\y=.ref q/\H p=Z8 (.lst xs)/\H q=Z8 (.lst ys)/\aN (DEq H n) xs ys) \/
   ∃p q kvs kws,x=.ref p/\y=.ref q/\H p=Z8 (.dK kvs)/\H q=Z8 (.dK kws)/\aN (fun (a b:Key×V)=>a.1=b.1/\DEq H n a.2 b.2) kvs kws
section
variable{P:aI}{w:aY}{H:Hp}{s:ai}
theorem oK:∀{xs ys:List V} {us vs:List af},aN R xs ys->cW xs us->cW ys vs->us.length=vs.length/\∀j (h1:j<us.length) (h2:j<vs.length),∃x y,R x y/\RelV x us[j]/\RelV y vs[j]:=by
 intro xs ys us vs p
 induction p generalizing us vs with
 |nil=>
  intro a b
  cases a
  cases b;exact{Z9,fun j h1=>absurd h1 (jz _)}
 |cons r rs Z=>
  intro a b
  cases a with
  |cons a as=>
  cases b with
  |cons b bs=>
  obtain⟨e,z⟩:=Z as bs;refine{by rw[aX,aX,e],fun j h1 h2=>?_}
  cases j with
  |zero=>exact{_,_,r,a,b}
  |succ j=>exact z j (jr h1) (jr h2)
theorem EF(h:sc0 x)(Y:RelV x u)(Z:RelV x v):EqAt A s u v true:=by
 cases x with
 |non=>cases Y;cases Z;exact EqAt.same _
 |bl b=>cases Y;cases Z;exact EqAt.same _
 |int i=>
  obtain⟨t,rfl⟩:=Y;obtain⟨t',rfl⟩:=Z;have z:=EqAt.int_int (A:=A) (s:=s) i t i t';rw[beq_self_eq_true]at z;exact z
 |str i=>
  obtain⟨t,rfl⟩:=Y;obtain⟨t',rfl⟩:=Z;have z:=EqAt.str_str (A:=A) (s:=s) i t i t';rw[beq_self_eq_true]at z;exact z
 |byt b=>exact h.elim
 |flt b=>exact h.elim
 |ref a=>exact h.elim
 |ty a=>exact h.elim
theorem fV(ok:HOk P w H s.heap)(h:H p=Z8 (.lst xs)):∃us:List af,cW xs us/\s.heap.IsList p us.toArray:=by
 obtain⟨_,us,n,r,e⟩:=(show dZ P w H s.heap p (.lst xs) from ok p _ h);exact{us,r,_,e,Z9,n,Z9}
theorem i9(ok:HOk P w H s.heap)(h:H p=Z8 (.tup xs)):∃us:List af,cW xs us/\s.heap.IsTuple p us.toArray:=by
 obtain⟨_,us,r,o,e,c,n,d⟩:=(show dZ P w H s.heap p (.tup xs) from ok p _ h);exact⟨us,r,o,e,c,n,d⟩
theorem tO(n:Nat):((gK n).all fun _=>true)=true:=by simp
theorem Bo(ok:HOk P w H s.heap)(hu:A.units<dM)(h1:H p=Z8 (.lst xs))(h2:H q=Z8 (.lst ys))(r:aN R xs ys)
  (O:∀x y u v,R x y->RelV x u->RelV y v->EqAt A.in1 s u v true):RcAt A s (.ref p) (.ref q) true:=by
 obtain⟨us,W,J⟩:=fV ok h1;obtain⟨vs,Z,Y⟩:=fV ok h2;obtain⟨e,z⟩:=oK r W Z;have k:=RcAt.lists (e:=fun _=>true) J Y (by simpa using e) hu (fun j a b=>by
  obtain⟨x,y,M,I,U⟩:=z j (by simpa using a) (by simpa using b);simpa using O _ _ _ _ M I U)
 rw[tO]at k;exact k
theorem EG(ok:HOk P w H s.heap)(hu:A.units<dM)(h1:H p=Z8 (.tup xs))(h2:H q=Z8 (.tup ys))(r:aN R xs ys)
  (O:∀x y u v,R x y->RelV x u->RelV y v->EqAt A.in1 s u v true):RcAt A s (.ref p) (.ref q) true:=by
 obtain⟨us,W,J⟩:=i9 ok h1;obtain⟨vs,Z,Y⟩:=i9 ok h2;obtain⟨e,z⟩:=oK r W Z;have k:=RcAt.tuples (e:=fun _=>true) J Y hu (fun j a b=>by
  obtain⟨x,y,M,I,U⟩:=z j (by simpa using a) (by simpa using b);simpa using O _ _ _ _ M I U)
 rw[tO,AN,aH,aH,e,beq_self_eq_true]at k;exact k
theorem EqAt.of_rc(h:RcAt A s (.ref l) (.ref b) true):EqAt A s (.ref l) (.ref b) true:=by
 by_cases e:l=b
 ·rw[e];exact EqAt.same _
 ·exact EqAt.of_refs e h
theorem qG(ok:HOk P w H s.heap):∀{n:Nat} {A:bJ} {x y:V} {u v:af},A.units+n<dM->TEq H n x y->RelV x u->RelV y v->EqAt A s u v true
 |0,A,x,y,u,v,hu,h,W,Y=>by
  obtain⟨h1,rfl⟩:=h;exact EF h1 W Y
 |n+1,A,x,y,u,v,hu,h,W,Y=>by
  have Z:A.in1.units+n<dM:=by
   show A.units+1+n<dM;omega
  rcases h with⟨h1,rfl⟩|⟨p,q,xs,ys,rfl,rfl,h1,h2,r⟩|⟨p,q,xs,ys,rfl,rfl,h1,h2,r⟩
  ·exact EF h1 W Y
  ·cases W
   cases Y;exact EqAt.of_rc (Bo ok #[2] h1 h2 r fun _ _ _ _ z a b=>qG ok Z z a b)
  ·cases W
   cases Y;exact EqAt.of_rc (EG ok #[2] h1 h2 r fun _ _ _ _ z a b=>qG ok Z z a b)
theorem xh(ok:HOk P w H s.heap)(hu:A.units<dM)(h1:H p=Z8 (.lst xs))(h2:H q=Z8 (.lst ys))(r:aN R xs ys)
  (O:∀x y u v,R x y->RelV x u->RelV y v->nK P w A.in1 s u v):RcIn P w A s (.ref p) (.ref q):=by
 obtain⟨us,W,J⟩:=fV ok h1;obtain⟨vs,Z,Y⟩:=fV ok h2;obtain⟨e,z⟩:=oK r W Z;exact RcIn.lists J Y (by simpa using e) hu (fun j a b=>by
  obtain⟨x,y,M,I,U⟩:=z j (by simpa using a) (by simpa using b);simpa using O _ _ _ _ M I U)
theorem Mf{κ:Type}{R:κ×V->κ×V->Prop}:∀{kvs kws:List (κ×V)} {us vs:List (κ×af)},aN R kvs kws->KV kvs us->KV kws vs->us.length=vs.length/\∀(i:Nat) (q:κ×af),us[i]?=Z8 q->∃Z a b,vs[i]?=Z8 Z/\R a b/\a.1=q.1/\b.1=Z.1/\RelV a.2 q.2/\RelV b.2 Z.2:=by
 intro kvs kws us vs p
 induction p generalizing us vs with
 |nil=>
  intro a b
  cases a
  cases b;exact{Z9,fun i q h=>by simp at h}
 |cons r rs Y=>
  intro a b
  cases a with
  |cons a as=>
  cases b with
  |cons b bs=>
  obtain⟨e,z⟩:=Y as bs;refine{by rw[aX,aX,e],fun i q h=>?_}
  cases i with
  |zero=>
   simp at h;subst h;exact{_,_,_,Z9,r,a.1,b.1,a.2,b.2}
  |succ i=>
   obtain⟨Z,x,y,h1,h2⟩:=z i q (by simpa using h);exact{Z,x,y,by simpa using h1,h2}
theorem xi(ok:HOk P w H s.heap){R:V->V->Prop}(hu:A.units<dM)(h1:H p=Z8 (.dK kvs))(h2:H q=Z8 (.dK kws))(r:aN (fun (a b:Key×V)=>a.1=b.1/\R a.2 b.2) kvs kws)
  (t:∀x y u v,R x y->RelV x u->RelV y v->nK P w A.in1 s u v):RcIn P w A s (.ref p) (.ref q):=by
 obtain⟨_,O,us,k1,m1⟩:=(show dZ P w H s.heap p (.dK kvs) from ok p _ h1);obtain⟨_,n2,vs,k2,U⟩:=(show dZ P w H s.heap q (.dK kws) from ok q _ h2);obtain⟨e,z⟩:=Mf r k1 k2;refine RcIn.dicts O n2 m1 U e hu fun W Z=>?_;obtain⟨i,hi⟩:=c9 Z;obtain⟨Y,a,b,M,⟨g2,g⟩,I,D,g6,J⟩:=z i W hi;obtain⟨_,_,_,_,_,_,_,_,nd⟩:=id U;have g8:vs[i]?=Z8 (W.1,Y.2):=by
  rw[M,<- I,g2,D]
 exact{Y.2,valueAt_of_get nd g8,t _ _ _ _ g g6 J}
theorem z5(ok:HOk P w H s.heap):∀{n:Nat} {A:bJ} {x y:V} {u v:af},A.units+n+20<dM->DEq H n x y->RelV x u->RelV y v->nK P w A s u v
 |0,A,x,y,u,v,hu,h,W,Y=>by
  obtain⟨m,h0,h1⟩:=h;exact nK.of_at (qG ok #[2] h1 W Y)
 |n+1,A,x,y,u,v,hu,h,W,Y=>by
  have Z:A.in1.units+n+20<dM:=by
   show A.units+1+n+20<dM;omega
  rcases h with⟨m,h0,h1⟩|⟨p,q,xs,ys,rfl,rfl,h1,h2,r⟩|⟨p,q,kvs,kws,rfl,rfl,h1,h2,r⟩
  ·exact nK.of_at (qG ok #[2] h1 W Y)
  ·cases W
   cases Y;exact nK.refs (xh ok #[2] h1 h2 r fun _ _ _ _ z a b=>z5 ok Z z a b)
  ·cases W
   cases Y;exact nK.refs (xi ok #[2] h1 h2 r fun _ _ _ _ z a b=>z5 ok Z z a b)
end
section
variable{X:Cx}
theorem op_eqD(hu:X.A.units+50<dM):OpR X (eB .Eq) (fun x y H Q=>∃n p q,n<=20/\x=.ref p/\y=.ref q/\DEq H n x y/\Q (.bl true) H):=by
 intro pins s σ H x y v u Q I rx ry h;obtain⟨n,p,q,hn,rfl,rfl,d,k⟩:=h
 cases rx
 cases ry;have fin:EP X pins σ Q (.bool true) s:={.bl true,H,I,Z9,k};have Z:X.A.units<dM:=by omega
 have O:RcIn X.prog X.w X.A s (.ref p) (.ref q):=by
  have U:∀m,m<=20->X.A.in1.units+m<dM:=fun m M=>by
   show X.A.units+1+m<dM;omega
  have tq:∀m,m<=20->TEq H m (.ref p) (.ref q)->RcIn X.prog X.w X.A s (.ref p) (.ref q):=fun m M t=>by
   cases m with
   |zero=>exact t.1.elim
   |succ m=>
    rcases t with⟨h1,_⟩|⟨D,J,xs,ys,W,V,h1,h2,r⟩|⟨D,J,xs,ys,W,V,h1,h2,r⟩
    ·exact h1.elim
    ·cases W
     cases V;intro E g k';exact Bo I.hok Z h1 h2 r (fun _ _ _ _ z a b=>qG I.hok (U m #[2]) z a b) X.prog X.w E g k'
    ·cases W
     cases V;intro E g k';exact EG I.hok Z h1 h2 r (fun _ _ _ _ z a b=>qG I.hok (U m #[2]) z a b) X.prog X.w E g k'
  cases n with
  |zero=>
   obtain⟨m,M,t⟩:=d;exact tq m M t
  |succ n=>
   have Y:X.A.in1.units+n+20<dM:=by
    show X.A.units+1+n+20<dM;omega
   rcases d with⟨m,M,t⟩|⟨D,J,xs,ys,W,V,h1,h2,r⟩|⟨D,J,kvs,kws,W,V,h1,h2,r⟩
   ·exact tq m M t
   ·cases W
    cases V;exact xh I.hok Z h1 h2 r fun _ _ _ _ z a b=>z5 I.hok Y z a b
   ·cases W
    cases V;exact xi I.hok Z h1 h2 r fun _ _ _ _ z a b=>z5 I.hok Y z a b
 exact O _ _ fin
theorem IR(hu:X.A.units+50<dM):OpR X (eB .NotEq) (fun x y H Q=>∃n p q,n<=20/\x=.ref p/\y=.ref q/\TEq H n x y/\Q (.bl false) H):=by
 intro pins s σ H x y v u Q I W Z h;obtain⟨n,p,q,hn,rfl,rfl,d,k⟩:=h
 cases W
 cases Z;have fin:EP X pins σ Q (.bool false) s:={.bl false,H,I,Z9,k};have V:X.A.units<dM:=by omega
 cases n with
 |zero=>exact d.1.elim
 |succ m=>
  have Y:X.A.in1.units+m<dM:=by
   show X.A.units+1+m<dM;omega
  rcases d with⟨h1,_⟩|⟨p',q',xs,ys,O,D,h1,h2,r⟩|⟨p',q',xs,ys,O,D,h1,h2,r⟩
  ·exact h1.elim
  ·cases O
   cases D;obtain⟨us,J,g⟩:=fV I.hok h1;obtain⟨vs,U,M⟩:=fV I.hok h2;obtain⟨e,z⟩:=oK r J U;have k:=RcNeAt.lists (A:=X.A) (e:=fun _=>true) g M (by simpa using e) V (fun j a b=>by
    obtain⟨x,y,t,W,Z⟩:=z j (by simpa using a) (by simpa using b);simpa using qG I.hok Y t W Z)
   rw[tO]at k;exact k X.prog X.w _ _ fin
  ·cases O
   cases D;obtain⟨us,J,g⟩:=i9 I.hok h1;obtain⟨vs,U,M⟩:=i9 I.hok h2;obtain⟨e,z⟩:=oK r J U;have k:=RcNeAt.tuples (A:=X.A) (e:=fun _=>true) g M V (fun j a b=>by
    obtain⟨x,y,t,W,Z⟩:=z j (by simpa using a) (by simpa using b);simpa using qG I.hok Y t W Z)
   rw[tO,AN,aH,aH,e,beq_self_eq_true]at k;exact k X.prog X.w _ _ fin
theorem IS(Z:dJ k A):A.units+50<dM:=by
 have:=Z.un;omega
end
end L2
namespace PySem
open Sem (wp)
section
variable{prog:aI}{w:aY}{A:bJ}{E:af->ai->Prop}{s:ai}
end
section
variable{prog:aI}{w:aY}{A:bJ}{R:Cm->ai->Prop}{I:ae}{fp wr:List ae}{n:Nat}{P:Nat->af->Prop}{St:Nat->cb->Prop}{G:cb->Prop}
end
section
variable{prog:aI}{w:aY}{A:bJ}{E:af->ai->Prop}{s:ai}
end
section
variable{prog:aI}{w:aY}{K:Type}[DecidableEq K]{knd:HeapKind prog w K}{A:bJ}{E:af->ai->Prop}{s:ai}
end
section
variable{prog:aI}{w:aY}{A:bJ}{E:af->ai->Prop}{s:ai}
end
end PySem
namespace HT
theorem CZ:∀a:List Int,lexLt a a=false
 | []=>rfl
 |x::r=>by rw[mK,if_pos rfl];exact CZ r
theorem lx_trans:∀{a b c:List Int},lexLt a b=true->lexLt b c=true->lexLt a c=true
 | [],[],_,h,_=>by cases h
 | [],_::_,[],_,h=>by cases h
 | [],_::_,_::_,_,_=>rfl
 |_::_,[],_,h,_=>by cases h
 |_::_,_::_,[],_,h=>by cases h
 |x::a,y::b,z::c,h,k=>by
  rw[mK]at h k |-
  by_cases e:x=y
  ·subst e;rw[if_pos rfl]at h
   by_cases f:x=z
   ·subst f;rw[if_pos rfl]at k |-;exact lx_trans h k
   ·rw[if_neg f]at k |-;exact k
  ·rw[if_neg e]at h;have h:=of_decide_eq_true h
   by_cases f:y=z
   ·subst f;rw[if_neg e];exact decide_eq_true h
   ·rw[if_neg f]at k;have k:=of_decide_eq_true k;rw[if_neg #[2]];exact decide_eq_true #[2]
theorem tP:∀{a b:List Int},lexLt a b=false->lexLt b a=false->a=b
 | [],[],_,_=>rfl
 | [],_::_,h,_=>by cases h
 |_::_,[],_,h=>by cases h
 |x::a,y::b,h,k=>by
  rw[mK]at h k
  by_cases e:x=y
  ·subst e;rw[if_pos rfl]at h k;rw[tP h k]
  ·rw[if_neg e]at h;rw[if_neg (fun z=>e z.symm)]at k;have h:=of_decide_eq_false h;have k:=of_decide_eq_false k;exact absurd #[2] e
theorem lx_asym(h:lexLt a b=true):lexLt b a=false:=by
 cases e:lexLt b a with
 |false=>rfl
 |true=>
  have z:=lx_trans h e;rw[CZ]at z
  cases z
theorem lx_of_not(h:lexLt a b=false)(n:a≠b):lexLt b a=true:=by
 cases e:lexLt b a with
 |true=>rfl
 |false=>exact absurd (tP h e) n
open PySem PyProof.Rows
open PySem.SeqAt
open PySem.AutoSeq1 (wpAny_loadPart')
open PySem.MeetsSeq PySem.MeetsSeq2 PySem.MeetsSeq3
theorem Mg(l b:ae)(xs ys:Array af)(n m:Nat)(dd de:Option ae)(sl sm:Array (Option af))(ns ms:List Int)(hi:dQ xs.toList ns)(hj:dQ ys.toList ms) :
  Meets (eK.«tuple.__gt__» {[.ref l,.ref b],[]})
   (fun _ R s=>s.heap.get? l=Z8 {cls:=.type "tuple",dict:=dd,data:=.seq xs n,slots:=sl}/\s.heap.get? b=Z8 {cls:=.type "tuple",dict:=de,data:=.seq ys m,slots:=sm}/\R (.ok (.ret (.bool (lexLt ms ns)))) s):=
 .of_wp fun prog w A R s h=>by
  obtain⟨hp,g,d,tk,J⟩:=s;obtain⟨hl,hb,h⟩:=h;have f2:=iD;have z1:xs.size=ns.length:=by rw[<- hi.length];simp
  have z2:ys.size=ms.length:=by rw[<- hj.length];simp
  wp_walk using cQ hl,cQ hb,jj _ (fun rest b s'=>b.1=Z7/\s'=⟨hp,g,d,tk,J⟩/\∃(vs D:List af) (Y W:List Int),rest=vs.zip D /\
   dQ vs Y/\dQ D W/\Y.length+ys.size=W.length+xs.size/\R (.ok (.ret (.bool (lexLt W Y)))) ⟨hp,g,d,tk,J⟩) _
  case turn=>
   rintro⟨y,x⟩ rest b s' ⟨M,rfl,vs,D,Y,W,hz,hv,hw,Z,V⟩
   cases hv with
   |nil=>rw[Ij]at hz;cases hz
   |cons a t hv=>
    cases hw with
    |nil=>rw[Hw]at hz;cases hz
    |cons c u hw=>
     rw[gf]at hz;injection hz with bv O;injection bv with hy hx;subst hy hx;rw[mK]at V;simp only[aX]at Z;obtain⟨e,he,U⟩:=A8 A.in1 ⟨hp,g,d,tk,J⟩ a t c u;refine aa (he prog w _ _ ?_)
     cases e with
     |true=>
      rw[if_pos (U.mp rfl).symm]at V
      wp_walk
      exact{Z9,Z9,_,_,_,_,O,hv,hw,by omega,V}
     |false=>
      rw[if_neg (fun q=>absurd (U.mpr q.symm) aT)]at V;have z:∀(E:af->ai->Prop) (Q:af->ai->Prop),Q (.bool (decide (a>c))) ⟨hp,g,d,tk,J⟩->aP (aS prog w) A.in1 (qe .Gt (.int a t) (.int c u)) Q E ⟨hp,g,d,tk,J⟩:=fun E Q q=>
       (PyProof.Rows.gt_int q:aP (aS prog w) A.in1 (eB .Gt (.int a t) (.int c u)) Q E _)
      wp_walk using z
      exact{_,Z9,by simpa using V}
  case fin=>
   rintro⟨b1,b2⟩ s' ⟨M,rfl,vs,D,Y,W,hz,bw,I,Z,V⟩;simp only at M;subst M;have hv:lexLt W Y=decide (ys.size<xs.size):=by
    cases bw with
    |nil=>
     cases I with
     |nil=>
      simp only[cI]at Z;rw[rM];exact (decide_eq_false #[2]).symm
     |cons c u hw=>
      simp only[cI,aX]at Z;rw[qA];exact (decide_eq_false #[2]).symm
    |cons a t hv=>
     cases I with
     |nil=>
      simp only[cI,aX]at Z;rw[qz];exact (decide_eq_true #[2]).symm
     |cons c u hw=>
      rw[gf]at hz
      cases hz
   rw[hv]at V
   wp_walk
   exact{_,Z9,by simpa[ib] using V}
  case h=>
   exact{Z9,Z9,xs.toList,ys.toList,ns,ms,Z9,hi,hj,by omega,h}
theorem gt_tup(U:uk s.heap l xs)(hb:uk s.heap b ys)(hi:dQ xs.toList ns)(W:dQ ys.toList ms)
  (hu:A.units<dM) (h:Q (.bool (lexLt ms ns)) s):aP (aS prog w) A (eB .Gt (.ref l) (.ref b)) Q E s:=by
 obtain⟨⟨O,dd,t1,sl⟩,Z,rfl,n,rfl⟩:=id U;obtain⟨⟨M,V,J,sm⟩,Y,rfl,m,rfl⟩:=id hb;exact sE (op:=.Gt) {_,Z,Z9} {_,Y,Z9} AO z6 (yT _ _) (Mg l b xs ys n m dd V sl sm ns ms hi W)
  {Z,Y,show Value.bool (lexLt ms ns)≠Value.notImplemented/\Q (.bool (lexLt ms ns)) s from{(fun x=>nomatch x),h}} hu
end HT
namespace L2
open PySem PySem.Spec PyProof.Rows
theorem vi:∀{ns ms:List Int},ns.map V.int=ms.map V.int->ns=ms
 | [],[],_=>rfl
 | [],_::_,h=>by cases h
 |_::_,[],h=>by cases h
 |x::a,y::b,h=>by
  injection h with h1 h2;injection h1 with h1;rw[h1,vi h2]
section
variable{X:Cx}
theorem yU(ok:HOk P w H s.heap){ns ms:List Int}(hu:A.units<dM)(ha:H a=Z8 (.tup (ns.map V.int)))(hb:H b=Z8 (.tup (ms.map V.int))) :
  ya A s (.ref a) (.ref b) (decide (ns=ms)):=by
 by_cases e:a=b
 ·subst e;rw[ha]at hb;injection hb with hb;injection hb with hb;rw[vi hb,decide_eq_true rfl];exact CA _
 ·obtain⟨us,J,i1⟩:=i9 ok ha;obtain⟨vs,Y,O⟩:=i9 ok hb;have k1:dQ us ns:=intsAre_of J;have k2:dQ vs ms:=intsAre_of Y;have at_:∀{us:List af} {ns:List Int},dQ us ns->∀(j:Nat) (h:j<us.length),∃(z:Int) (t:Tok),us[j]=.int z t/\ns[j]?=Z8 z:=by
   intro us ns k
   induction k with
   |nil=>intro j h;exact absurd h (jz _)
   |cons z t _ g=>
    intro j h
    cases j with
    |zero=>exact⟨z,t,Z9,Z9⟩
    |succ j=>exact g j (jr h)
  have Z:=SeqAt.RcAt.tuples (A:=A) (e:=fun j=>decide (ns[j]?=ms[j]?)) i1 O hu fun j h1 h2=>by
   obtain⟨x,t,M,e2⟩:=at_ k1 j (by simpa using h1);obtain⟨y,t',e3,W⟩:=at_ k2 j (by simpa using h2);rw[e2,W];have z:=q9 (A:=A.in1) (s:=s) x t y t';have q:(x==y)=decide (Z8 x=Z8 y):=by
    by_cases e:x=y
    ·subst e;simp
    ·have D:¬Z8 x=Z8 y:=fun q=>e (cF q);rw[decide_eq_false D,beq_eq_false_iff_ne.mpr e]
   rw[q]at z;simpa[M,e3] using z
  have fin:((gK (min us.toArray.size vs.toArray.size)).all (fun j=>decide (ns[j]?=ms[j]?))&&us.toArray.size==vs.toArray.size)=decide (ns=ms):=by
   have I:us.toArray.size=ns.length:=by rw[aH];exact k1.length
   have U:vs.toArray.size=ms.length:=by rw[aH];exact k2.length
   rw[I,U]
   by_cases c:ns=ms
   ·subst c;simp
   ·rw[decide_eq_false c,Bool.and_eq_false_iff]
    by_cases l:ns.length=ms.length
    ·left
     rw[List.all_eq_false];refine v9 fun no=>c (oM fun j=>?_)
     by_cases hj:j<ns.length
     ·refine v9 fun ne=>no {j,iX.mpr #[2],?_};rw[decide_eq_false ne];simp
     ·rw[dB #[2],dB #[2]]
    ·right
     exact beq_eq_false_iff_ne.mpr l
  rw[fin]at Z;exact SeqAt.EqAt.of_refs e Z
open Classical in
def Mh:V->List V->Hp->VK->Prop:=fun x vs H Q=>∃l xs i y,x=.ref l/\vs=[.int (i:Nat),y]/\H l=Z8 (.lst xs)/\i<=xs.length/\xs.length<aD/\Q .non (upd H l (.lst (xs.take i++y::xs.drop i)))
theorem FY:MtM X "list.insert" Mh:=by
 intro pins s σ H x vs v us Q I rx J h;obtain⟨l,xs,i,y,rfl,rfl,M,hi,hz,q⟩:=h
 cases rx;obtain⟨u,V,rfl,g,O⟩:=J.two;obtain⟨t,rfl⟩:=g;obtain⟨z,Z,n,r,hl,e⟩:=I.lstM M;have U:Z.toArray.size<=aD:=by rw[aH];omega
 generalize hx:((i:Nat):Int)=x;have W:uh x=true:=by
  have D:aD=16777216:=nA;exact fitsIndex_both #[2] #[2]
 have Y:¬(!uh x)=true:=by rw[W];exact aT
 refine sI F.slot_list_insert {_,e,Z9} F.entry_list_insert (F.args_list_insert_3 _ _ _) (RY l Z.toArray n x t V Y U) {e,?_};refine{.non,_,I.lset (its':=Z.take i++V::Z.drop i) M e ?_ ((r.take i).append (.cons O (r.drop i))) ?_,Z9,q}
 ·have k:(if x<0 then (x+(Z.toArray.size:Int)).toNat else min x.toNat Z.toArray.size)=i:=by
   rw[if_neg #[2],aH];omega
  show (Z.toArray.extract 0 (if x<0 then (x+(Z.toArray.size:Int)).toNat else min x.toNat Z.toArray.size)).push V++Z.toArray.extract (if x<0 then (x+(Z.toArray.size:Int)).toNat else min x.toNat Z.toArray.size)=_;rw[k];apply Array.toList_inj.mp;simp[List.extract_eq_take_drop];exact B7 (by rw[lN];exact ay _)
 ·rw[au,aX,bD,lN];omega
theorem Mj(h:sc0 z):scal z z=true:=by
 cases z with
 |non=>rfl
 |bl b=>rfl
 |int i=>rfl
 |str x=>rfl
 |byt b=>exact cY h
 |flt b=>exact cY h
 |ref a=>exact cY h
 |ty a=>exact cY h
theorem C0(hu:X.A.units+50<dM):OpR X (eB .NotEq) (fun x y H Q=>∃n,n<=20/\TEq H n x y/\Q (.bl false) H):=by
 intro pins s σ H x y v u Q I O V h;obtain⟨n,M,d,q⟩:=h;have sc:∀z,sc0 z->x=z->y=z->aP #[4] X.A (eB .NotEq v u) (EP X pins σ Q) X.xe s:=by
  rintro z hz rfl rfl;refine Oi pins s σ H _ _ v u Q I O V {Mj hz,?_};rw[decide_eq_true rfl];exact q
 have U:∀p Z,x=.ref p->y=.ref Z->aP #[4] X.A (eB .NotEq v u) (EP X pins σ Q) X.xe s:=fun p Z Y W=>
  IR hu pins s σ H x y v u Q I O V ⟨n,p,Z,M,Y,W,d,q⟩
 cases n with
 |zero=>exact sc x d.1 rfl d.2.symm
 |succ n=>
  rcases d with⟨h1,h2⟩|⟨p,Z,_,_,Y,W,_⟩|⟨p,Z,_,_,Y,W,_⟩
  ·exact sc x h1 rfl h2.symm
  ·exact U p Z Y W
  ·exact U p Z Y W
end
section
variable{X:Cx}{pins:List (ae×Obj)}{σ:St}{H:Hp}{s:ai}{d:ae}
theorem Inv.swap(I:Inv X pins σ H s)(e:H d=Z8 o)(O:∀xs,o≠.tup xs)(V:∀ps,o≠.tbl ps)(t:∀a,o≠.own a)(M:∀Z u,X.H₀ d≠Z8 (.frz Z u))(ok:dZ X.prog X.w (upd H d o') s.heap d o'):Inv X pins σ (upd H d o') s:=by
 have Y:∀b,H b=Z7->upd H d o' b=Z7:=fun b z=>by
  rw[aQ (aJ e z).symm];exact z
 have W:∀b xs,H b=Z8 (.tup xs)->upd H d o' b=Z8 (.tup xs):=fun b xs z=>by
  rw[aQ (kg z e (fun q=>O xs q.symm))];exact z
 have D:∀b a,H b=Z8 (.own a)->upd H d o' b=Z8 (.own a):=fun b a z=>by
  rw[aQ (kg z e (fun q=>t a q.symm))];exact z
 refine{I.ok,I.os,I.bare,{I.base.keep,I.base.slot,fun b Z q n hx=>Y b (I.base.free b Z q n hx),I.base.there,fun b xs q=>W b xs (I.base.tups b xs q),fun b Z u q=>?_,fun b ps q=>?_},I.loc,I.cell,Y _ I.free,fun x c q=>Y c (I.freeC x c q),fun p hp=>?_,fun b u q=>?_,I.len}
 ·have z:=I.base.frzs b Z u q;have J:b≠d:=fun y=>M Z u (by rw[<- y];exact q);rw[aQ J];exact z
 ·obtain⟨more,z⟩:=I.base.tbls b ps q;refine{more,?_};rw[aQ (kg z e (fun y=>V _ y.symm))];exact z
 ·obtain⟨h1,h2,U⟩:=I.pin p hp;exact{h1,Y _ h2,U}
 ·by_cases z:b=d
  ·subst z;rw[ak]at q
   cases q;exact ok
  ·rw[aQ z]at q;exact (I.hok b u q).stay (fun c v _ y=>y) (fun c y=>D c b y) W
theorem Inv.freeze(I:Inv X pins σ H s)(e:H d=Z8 (.dK kvs))(U:∀Z u,X.H₀ d≠Z8 (.frz Z u)):∃od,s.heap.get? d=Z8 od/\Inv X pins σ (upd H d (.frz od (.dK kvs))) s:=by
 obtain⟨h1,h2,vs,r,Z,es,ep,Y,W⟩:=(show dZ X.prog X.w H s.heap d (.dK kvs) from I.hok d _ e);exact{Z,Y,I.swap e (fun xs z=>by cases z) (fun ps z=>by cases z) (fun a z=>by cases z) U ⟨Y,h1,h2,vs,r,Z,es,ep,Y,W⟩}
theorem Inv.thaw(I:Inv X pins σ H s)(e:H d=Z8 (.frz od (.dK kvs)))(Z:∀Y u,X.H₀ d≠Z8 (.frz Y u)):Inv X pins σ (upd H d (.dK kvs)) s:=by
 obtain⟨_,h1⟩:=(show dZ X.prog X.w H s.heap d (.frz od (.dK kvs)) from I.hok d _ e);exact I.swap e (fun xs z=>by cases z) (fun ps z=>by cases z) (fun a z=>by cases z) Z h1
end
def Iti(d:ae)(od:Obj)(kvs:List (Key×V)):It:=
 {fun i H=>H d=Z8 (.frz od (.dK kvs))/\i<kvs.length,fun i H x H'=>∃t Z,x=.ref t/\H t=Z7/\kvs[i]?=Z8 Z/\H'=upd H t (.tup [kV Z.1,Z.2]),fun i H=>H d=Z8 (.frz od (.dK kvs))/\kvs.length<=i}
theorem KV.at_(r:KV kvs vs):∀{i:Nat} {Z:Key×V},kvs[i]?=Z8 Z->∃u,vs[i]?=Z8 (Z.1,u)/\RelV Z.2 u:=by
 induction r with
 |nil=>intro i Z h;simp at h
 |cons a _ Y=>
  intro i Z h
  cases i with
  |zero=>
   simp at h;subst h;exact{_,by rw[List.getElem?_cons_zero,a.1],a.2}
  |succ i=>
   obtain⟨u,h1,h2⟩:=Y (by simpa using h);exact{u,by simpa using h1,h2}
theorem C1(h:(cP P w).is k u=true):RelV (kV k) u:=by
 rcases gQ h with⟨i,t,rfl,rfl⟩|⟨x,t,rfl,rfl⟩
 ·exact⟨t,Z9⟩
 ·exact⟨t,Z9⟩
theorem uA:CT RM "dict_itemiterator.__iter__"=Z8 eK.«dict_keyiterator.__iter__»:=
 C2 (id':="dict_keyiterator.__iter__") (by kernel_rfl) rfl #[1] (by kernel_rfl)
section
variable{P:aI}{w:aY}{K:ag}
def IT(o:Obj):Nat:=match o.data with|.dict _ ep=>ep|_=>0
theorem uB{σ:St}(I:Inv X pins σ H s)(e:H d=Z8 (.frz od (.dK kvs))):∃vs,KV kvs vs/\s.heap.DictAt (cP X.prog X.w) d vs (IT od):=by
 obtain⟨Y,h1,h2,vs,r,J,es,ep,Z,O,W,U⟩:=(show dZ X.prog X.w H s.heap d (.frz od (.dK kvs)) from I.hok d _ e);rw[Y]at Z
 cases Z;have M:IT od=ep:=by
  unfold IT;rw[W]
 rw[M];exact⟨vs,r,od,es,Y,O,W,U⟩
theorem C3 {x1}  (d it:ae) (od:Obj) (kvs:List (Key×V)) (ca:d≠it):A4 P w K (.Tuple elts x1 pos) (Iti d od kvs) [it] it (fun i h=>∃ok Y,IsItemIter h it d i kvs.length (IT od) ok Y) where
 mem:=by simp
 obj:=fun i h st b hb=>by
  have e:b=it:=by simpa using hb
  subst e;obtain⟨ok,Y,e⟩:=st;exact{_,e,fun v z=>by cases z}
 keep:=fun i h h' ⟨ok,Y,st⟩ k=>{ok,Y,k it #[5] _ st}
 item:=by
  intro X hP hw hK hc i pins s σ H E I hf st hg;subst hP hw hK;obtain⟨ok,Y,st⟩:=st;obtain⟨hd,hi⟩:=hg;obtain⟨vs,r,da⟩:=uB I hd;have hl:=r.length;have J:kvs[i]?=Z8 kvs[i]:=aw hi;obtain⟨u,hu,ru⟩:=r.at_ J;obtain⟨M,f1,f2,D,f4,g⟩:=hf it #[5];rw[hl]at st;refine wpAny_pyNext_items_item st da hu fun key h' hk U cd bW kp=>?_;have I1:Inv X pins σ H {s with heap:=h'}:=I.turned (t':=s.toks) (fun b o hb e=>kp b o hb e) M f1 D f4 g;refine{_,Z9,wpAny_letOwnedTupleGo_items U fun h2 W sb=>?_};have Z:Inv X pins σ H {s with heap:=h2}:=I1.turned (t':=s.toks) (fun b o hb e=>sb.extBut b o hb e) M f1 D f4 g;have fr:H s.heap.objs.size=Z7:=I.hok.fresh (ay _);have O:s.heap.objs.size≠it:=(aM (aO st)).symm;have e2:h2.get? s.heap.objs.size=Z8 {cls:=.type "tuple",data:=.seq #[key,u]}:=sb.extBut _ _ O cd;have I3:Inv X pins σ (upd H s.heap.objs.size (.tup [kV kvs[i].1,kvs[i].2])) {s with heap:=h2}:=by
   have cc:∀b v,s.heap.get? b=Z8 v->b≠it->h2.get? b=Z8 v:=fun b v q n=>sb.extBut b v n (kp b v n q);exact⟨Z.ok,Z.os,Z.bare,⟨Z.base.keep,Z.base.slot,fun b t q n hx=>by
     have z:=Z.base.free b t q n hx
     by_cases y:b=s.heap.objs.size
     ·exfalso;have lt:b<s.heap.objs.size:=bf (aO q) I.sz;rw[y]at lt;exact absurd lt (hU _)
     ·rw[aQ y];exact z,Z.base.there,fun b xs q=>by
     rw[aQ (aJ (Z.base.tups b xs q) fr)];exact Z.base.tups b xs q,fun b t v q=>by
     rw[aQ (aJ (Z.base.frzs b t v q) fr)];exact Z.base.frzs b t v q,fun b ps q=>by
     obtain⟨m,z⟩:=Z.base.tbls b ps q;exact{m,by rw[aQ (aJ z fr)];exact z}⟩,Z.loc,Z.cell,by
     rw[aQ (aM I.lt)];exact Z.free,fun x c q=>by
     obtain⟨v,y⟩:=I.cell x c q;rw[aQ (aM y.lt)];exact Z.freeC x c q,fun p hp=>by
     obtain⟨h1,ce,h3⟩:=Z.pin p hp;obtain⟨g1,_⟩:=I.pin p hp;refine{h1,?_,h3};rw[aQ (aM (aO g1))];exact ce,fun b v q=>by
     by_cases y:b=s.heap.objs.size
     ·subst y;rw[ak]at q
      cases q;exact{(by show 2<=aD;decide),[key,u],.cons (C1 hk) (.cons ru .nil),_,e2,Z9,0,Z9}
     ·rw[aQ y]at q;exact (Z.hok b v q).stay (fun c v' _ z=>z) (fun c z=>by rw[aQ (aJ z fr)];exact z) fun c xs z=>by rw[aQ (aJ z fr)];exact z,Z.len⟩
  refine{.ref s.heap.objs.size,_,I3,Z9,{_,_,Z9,fr,J,Z9},{_,_,by rw[hl];exact W},fun b hb=>?_};have e:b=it:=by simpa using hb
  subst e;rw[aQ (fb O)];exact M
 done:=by
  intro X hP hw hK hc i pins s σ H E I hf st hg;subst hP hw hK;obtain⟨ok,Y,st⟩:=st;obtain⟨hd,hi⟩:=hg;obtain⟨vs,r,da⟩:=uB I hd;have hl:=r.length;obtain⟨M,f1,f2,D,f4,g⟩:=hf it #[5];rw[hl]at st;exact wpAny_pyNext_items_end (I.ok.hd hc) st da (dB #[2]) fun h' eb=>{Z9,I.turned (t':=s.toks) (fun b o hb e=>eb b o hb e) M f1 D f4 g}
 self:=fun A i s Q E ⟨ok,Y,st⟩ h=>by
  have ty:s.TypeIs (.ref it) "dict_itemiterator":={_,st,Z9};refine lT ty F.slot_dict_itemiterator_iter (eE F.slot_dict_itemiterator_iter ty uA ?_ (F.args_dict_itemiterator_iter_1 _));show aP _ _ (ret (.ref it)) _ _ s;exact ax {_,Z9,"dict_itemiterator",_,ty,F.slot_dict_itemiterator_next.lookup,h}
end
section
variable{X:Cx}{o:cK}{to:TE}{apos cpos:Pos}{elts:List cK}{x1:Nat}{pos:Pos}
def Ql(X:Cx)(to:TE):TI:=fun σ H R=>to σ H fun x H1=>∃d kvs,x=.ref d/\H1 d=Z8 (.dK kvs)/\(∀Z u,X.H₀ d≠Z8 (.frz Z u))/\∀od,R (Iti d od kvs) (upd H1 d (.frz od (.dK kvs)))
theorem IU(ho:PE X o to)(Z:nr o "items" X.env (fY o X.env)=fY o X.env:=by rfl)(Y:(apos.endLine==cpos.line)=true:=by rfl):PI X (.Tuple elts x1 pos) (.Call (.Attribute o "items" apos) [] [] cpos) (Ql X to):=by
 intro pins s σ H R I h;refine Hx Z Y (thn (ho pins s σ H _ I h) fun v W ⟨x,H1,M,r1,d,kvs,ex,J,z,q⟩=>?_);subst ex
 cases r1;obtain⟨hz,D,ws,k1,U⟩:=(show dZ X.prog X.w H1 W.heap d (.dK kvs) from M.hok d _ J);obtain⟨O,_,_,t,g2,_⟩:=id U;refine{"dict","dict.items",PySem.F.plainAttrs_dict,yV,PySem.F.type_dict_items,U.typeIs,fun a e=>?_,p6 rfl (Eu ?_)}
 ·cases e;exact⟨O,t,g2.2.1⟩
 refine oJ yV U.typeIs PySem.F.entry_dict_items (PySem.F.args_dict_items_1 _) (meets_dict_items (cP X.prog X.w) d D) {⟨ws,U⟩,?_};have I2:Inv X pins σ H1 {W with heap:=W.heap.push {cls:=.type "dict_items",data:=.fields #[.ref d]}}:=M.kept (t':=W.toks) fun b O q=>aE _ q;obtain⟨od,g3,V⟩:=I2.freeze J z;obtain⟨vs,r,g⟩:=uB V (ak:upd H1 d (.frz od (.dK kvs)) d=_);refine wpAny_pyIter_items {_,aU _ rfl,Z9,Z9} g ?_;have lt:=aO g3;refine{_,[_],_,_,_,Z9,V.kept (t':=W.toks) fun b O q=>aE _ q,C3 d _ od kvs (aM lt),{.none,.none,?_},fun b hb=>?_,q od}
 ·rw[r.length];exact aU _ rfl
 ·have e:b=_:=aK.mp hb;subst e;exact V.fpOk (ay _) (V.hok.fresh (ay _))
end
theorem FZ{g:TG}{tb:TS}{D:lD}(Z:Nat->St->Hp->Prop)(h0:Z 0 σ H)(z:∀i σ H,i<=kvs.length->Z i σ H->H d=Z8 (.frz od (.dK kvs)))
  (hs:∀i O t σ H,kvs[i]?=Z8 O->Z i σ H->H t=Z7->g (.ref t) σ (upd H t (.tup [kV O.1,O.2])) fun Y H2=>tb {D with nx:=Z (i+1),ct:=Z (i+1),bk:=D.nx} Y H2) (I:∀σ H,Z kvs.length σ H->D.nx σ H) :
  ∃W:Nat->Nat->St->Hp->Prop,(∃m,W 0 m σ H)/\∀i m σ H,W i m σ H ->
   ((Iti d od kvs).stop i H/\D.nx σ H)\/((Iti d od kvs).go i H/\∃N:St->Hp->Prop,(∀U H',N U H'->∃M,M<m/\W (i+1) M U H')/\∀x H',(Iti d od kvs).yld i H x H'->g x σ H' fun Y H2=>tb {D with nx:=N,ct:=N,bk:=D.nx} Y H2):=by
 refine{fun i m σ H=>m=kvs.length-i/\i<=kvs.length/\Z i σ H,{kvs.length,by simp,aW _,h0},?_};rintro i m σ H ⟨rfl,hi,p⟩;have q:=z i σ H hi p
 by_cases lt:i<kvs.length
 ·refine .inr {⟨q,lt⟩,Z (i+1),fun U H' J=>{kvs.length-(i+1),by omega,Z9,lt,J},fun x H' y=>?_};obtain⟨t,O,rfl,ht,hk,rfl⟩:=y;exact hs i O t σ H hk p ht
 ·have e:i=kvs.length:=by omega
  subst e;exact .inl {{q,ay _},I σ H p}
def OB(X:Cx)(D:lD):lD where
 nx:=fun σ H=>∃d od kvs,H d=Z8 (.frz od (.dK kvs))/\(∀Z u,X.H₀ d≠Z8 (.frz Z u))/\D.nx σ (upd H d (.dK kvs))
 rt:=D.rt
 bk:=D.bk
 ct:=D.ct
theorem Ml{st:df}(h:PS X st t):PS X st (fun D σ H=>t (OB X D) σ H):=by
 intro pins s σ H D I q;refine thn (h pins s σ H (OB X D) I q) fun fl V z=>?_
 cases fl with
 |next=>
  obtain⟨Z,H',Y,d,od,kvs,e,W,y⟩:=z;exact{Z,_,Y.thaw e W,y}
 |brk=>exact z
 |cont=>exact z
 |ret u=>exact z
end L2
namespace L2
open PySem PySem.Spec PyProof.Rows PySem.SeqAt
def BSc(x y:V)(b:Bool):Prop:=(∃i j:Int,x=.int i/\y=.int j/\b=decide (i=j))\/∃i j:Str,x=.str i/\y=.str j/\b=decide (i=j)
theorem BSc.self(h:BSc x x b):b=true:=by
 rcases h with⟨i,j,Y,Z,rfl⟩|⟨i,j,Y,Z,rfl⟩
 ·rw[Y]at Z
  cases Z;exact decide_eq_true rfl
 ·rw[Y]at Z
  cases Z;exact decide_eq_true rfl
section
variable{P:aI}{w:aY}{H:Hp}{s:ai}
theorem Qm(h:BSc x y b)(Y:RelV x u)(Z:RelV y v):EqAt A s u v b:=by
 rcases h with⟨i,j,rfl,rfl,rfl⟩|⟨i,j,rfl,rfl,rfl⟩
 ·obtain⟨t,rfl⟩:=(show ∃t,u=Value.int i t from Y);obtain⟨t',rfl⟩:=(show ∃t',v=Value.int j t' from Z);have z:=EqAt.int_int (A:=A) (s:=s) i t j t';have e:(i==j)=decide (i=j):=by
   by_cases c:i=j
   ·rw[decide_eq_true c,beq_iff_eq.mpr c]
   ·rw[decide_eq_false c,beq_eq_false_iff_ne.mpr c]
  rw[e]at z;exact z
 ·obtain⟨t,rfl⟩:=(show ∃t,u=Value.str i t from Y);obtain⟨t',rfl⟩:=(show ∃t',v=Value.str j t' from Z);have z:=EqAt.str_str (A:=A) (s:=s) i t j t';have e:(i==j)=decide (i=j):=by
   by_cases c:i=j
   ·rw[decide_eq_true c,beq_iff_eq.mpr c]
   ·rw[decide_eq_false c,beq_eq_false_iff_ne.mpr c]
  rw[e]at z;exact z
end
section
variable{X:Cx}
end
end L2
namespace L2
open PySem PySem.Spec PyProof.Rows
section
variable{prog:aI}{w:aY}{A:bJ}{E:af->ai->Prop}{s:ai}
end
section
variable{X:Cx}
end
structure yh(K:ag)(C:ae):Prop where
 ga:aZ K (.ref C) "__getattribute__"=Z8 (Z8 (.builtin "BaseException.__getattribute__"))
 gh:aZ K (.ref C) "__getattr__"=Z8 Z7
 cl:aZ K (.ref C) "__class__"=Z8 (Z8 (.builtin "object.__class__"))
 cn:Eo K (.builtin "object.__class__") "__get__"=Z8 (Z8 (.builtin "getset_descriptor.__get__"))
 ck:Hs K (.builtin "object.__class__")=Z8 true
 ob:x9 K C (.type "object")=Z8 true
 be:x9 K C (.type "BaseException")=Z8 true
theorem C4:Manifest.canonical "BaseException.__getattribute__"="object.__getattribute__":=by decide +kernel
section
variable{prog:aI}{w:aY}{A:bJ}{E:af->ai->Prop}{s:ai}{K:ag}{x C:ae}{ox:Obj}
theorem IV(X:K.In s.heap)(I:wX s.heap x ox C Z7)(c:yh K C)(Y:aZ K (.ref C) name=Z8 (Z8 (.ref f)))(ht:Ie K (.ref f)=Z8 (.type "function"))
  (h:Q (.ref f,[.ref x]) s):aP (aS prog w) A (o5 (.ref x) name pl) Q E s:=by
 unfold o5 specialOf;refine aa (aa (I.type.here ((lF X c.ga).here ?_)));dsimp only;rw[C4,if_neg (by decide)];refine aa (aa (I.type.here ((lF X c.gh).here ?_)));refine aa (aa (I.type.here ((lF X Y).here (aa ((PySem.W.looks_typeIn X ht).here ?_)))));rw[if_neg #[1]];refine aa (wpAny_loadPart I.at_ ?_);have Z:=I.dict
 cases e:ox.dict with
 |none=>exact aa (pB (ax h))
 |some dx=>rw[e]at Z;exact Z.elim
end
def XOk(a C:ae)(h:cb):Prop:=∃Z,h.get? a=Z8 Z/\Z.cls=.ref C/\Z.dict=Z7/\IW Z=true
def XO(a C:ae):HO:=.ext (XOk a C)
theorem XOk.obj(x:XOk a C h):dZ P w H h a (XO a C):=by
 obtain⟨Z,e,r⟩:=x;refine{⟨Z,e,r⟩,⟨Z,e⟩,fun h1 h2 y k=>?_};obtain⟨o,W,Y⟩:=y;exact{o,k o W,Y}
theorem XOk.inst(x:XOk a C h):∃ox,wX h a ox C Z7:=by
 obtain⟨Z,e,c,d,n⟩:=x;exact{Z,e,c,n,by rw[d];trivial}
theorem Qn(ok:HOk P w H h)(e:H a=Z8 (XO a C)):XOk a C h:=(ok a _ e).1
section
variable{X:Cx}{pins:List (ae×Obj)}{σ:St}{H:Hp}{s:ai}
end
section
variable{P:aI}{w:aY}{H:Hp}{h h':cb}{a:ae}{o:HO}{fs ex:List ae}
end
section
variable{X:Cx}{pins:List (ae×Obj)}{σ:St}{H:Hp}{s:ai}{C:ae}{x:Str}{p pos:Pos}{e:cK}{es:List cK}{t:TA}
end
section
variable{X:Cx}{CX:CXT}{k:Nat}{f C:ae}{fd:bY}{ps:List Str}{sp:Sp}{E:XK}{m:Str}{pos apos:Pos}{o:cK}{ta:TE}
end
section
variable{X:Cx}{pins:List (ae×Obj)}{σ:St}{H:Hp}{s:ai}
theorem Inv.adopt(I:Inv X pins σ H s)(f:FlD B X.stack Z (.ref C) fl s.heap)(U:zV X pins H B s.heap):H Z=Z7/\Inv X pins σ (upd H Z (XO Z C)) s:=by
 obtain⟨hB,hn,hl,O,vs,T,oT,ts,W,hc,J,M,_⟩:=f;have D:Z∉frs X.stack:=fun z=>by
  obtain⟨_,o,V,q⟩:=hl.mem z;rw[W]at V
  cases V;exact q vs M
 have t:∀o,B.get? Z≠Z8 o:=fun o z=>by rw[hn]at z;cases z
 have hz:H Z=Z7:=by
  cases z:H Z with
  |none=>rfl
  |some u=>exact absurd (U Z O (.inl (by rw[z];simp)) D W) (t O)
 have ne:∀{b:ae} {o:HO},H b=Z8 o->b≠Z:=fun {b o} z=>aJ z hz;refine{hz,I.ok,I.os,I.bare,{I.base.keep,I.base.slot,fun b o e n hx=>?_,I.base.there,fun b xs e=>?_,fun b o u e=>?_,fun b ps e=>?_},I.loc,I.cell,?_,fun x c e=>?_,fun p hp=>?_,fun b u e=>?_,I.len}
 ·rw[aQ]
  ·exact I.base.free b o e n hx
  ·rintro rfl;exact t O (U _ O (.inr (.inl ⟨hx,o,e⟩)) D W)
 ·have z:=I.base.tups b xs e;rw[aQ (ne z)];exact z
 ·have z:=I.base.frzs b o u e;rw[aQ (ne z)];exact z
 ·obtain⟨more,z⟩:=I.base.tbls b ps e;exact{more,by rw[aQ (ne z)];exact z}
 ·rw[aQ]
  ·exact I.free
  ·intro z;obtain⟨m,⟨o,es,ep,V,Y,_⟩,_⟩:=I.loc;rw[z,W]at V
   cases V;rw[M]at Y
   cases Y
 ·rw[aQ]
  ·exact I.freeC x c e
  ·intro z;obtain⟨v,o,V,Y⟩:=I.cell x c e;rw[z,W]at V
   cases V;rw[M]at Y
   cases Y
 ·obtain⟨g,e2,e3,e4,e5⟩:=I.pin p hp;refine{g,?_,e3,e4,e5};rw[aQ]
  ·exact e2
  ·intro z;have e6:s.heap.get? Z=Z8 p.2:=by rw[<- z];exact g
   rw[W]at e6
   cases e6;exact t _ (U Z _ (.inr (.inr ⟨p,hp,z⟩)) D W)
 ·by_cases hb:b=Z
  ·subst hb;rw[ak]at e
   cases e;refine XOk.obj {O,W,hc,J,?_};unfold IW;rw[M]
  ·rw[aQ hb]at e;exact (I.hok b u e).stay (fun _ _ _ q=>q) (fun c q=>by rw[aQ (ne q)];exact q) fun c xs q=>by rw[aQ (ne q)];exact q
theorem F0(I:Inv X pins σ H s)(hN:X.N.Nodup)(hi:X.N[i]?=Z8 x)(hk:X.env.scope.names.lookup x=Z8 .local)(hv:σ[i]?=Z8 (Z8 v))
  (h:∀s',Inv X pins (σ.set i Z7) H s'->Q () s'):aP M A (unbindName X.env x) Q E s:=by
 obtain⟨m,hn,hl⟩:=id I.loc;have W:(X.env.scope.kind==.class||(X.env.scope.kind==.module&&X.env.locals != X.env.globals))=false:=by rw[I.ok.kind];rfl
 have Y:X.env.kindOf x=Z8 .local:=hk;have g:(m x).isSome=true:=by
  obtain⟨u,_,q⟩:=hl i x v hi hv (.inl hk)
  rcases q with⟨_,e⟩|⟨k,_⟩
  ·rw[e];rfl
  ·rw[Y]at k
   rcases k with k|k<;>cases k
 unfold unbindName;refine aa (wpAny_point (aa ?_));unfold deleteName;simp only[Y,W];rw[if_neg (by decide)];refine aa (wpAny_nsDel_keeps hn fun h' v' J hs=>?_);rw[g];simp only[AQ,jf,if_false];refine ax (wpAny_point (h _ ?_));obtain⟨oL,_,_,bv,_⟩:=id hn;have cne:=I.cne;have below:∀b o,X.s₀.heap.get? b=Z8 o->b≠X.env.locals:=fun b o e=>aM (bf (aO e) I.ok.above);refine{I.ok,I.os,I.bare,{fun b o e n hb hx=>(hs.2 b (below b o e)).trans (I.base.keep b o e n hb hx),fun b o e n hb hx=>?_,I.base.free,fun b o e hx=>?_,I.base.tups,I.base.frzs,I.base.tbls},{_,J,fun j y v2 Z U e3=>?_},fun y c e=>?_,I.free,I.freeC,fun p hp=>?_,fun b ob e=>?_,by simpa using I.len}
 ·obtain⟨sl,Z⟩:=I.base.slot b o e n hb hx;exact{sl,(hs.2 b (below b o e)).trans Z}
 ·obtain⟨o',Z⟩:=I.base.there b o e hx;exact{o',(hs.2 b (below b o e)).trans Z}
 ·by_cases D:j=i
  ·subst D;have t:j<σ.length:=(aC.mp hv).1;rw[eP t]at U
   cases U
  ·rw[iJ (fb D)]at U;obtain⟨u',r',q⟩:=hl j y v2 Z U e3;refine{u',r',?_}
   rcases q with⟨k,e⟩|⟨k,c,e,z⟩
   ·refine .inl {k,?_};have O:y≠x:=fun e=>D (wL hN Z (e ▸ hi));simp[O,e]
   ·exact .inr {k,c,e,z.sameBut hs (cne y c e)}
 ·obtain⟨w',z⟩:=I.cell y c e;exact{w',z.sameBut hs (cne y c e)}
 ·obtain⟨e,n,ne,nf,d⟩:=I.pin p hp;exact{(hs.2 p.1 ne).trans e,n,ne,nf,d}
 ·refine (I.hok b ob e).stay (fun c w' hc q=>(hs.2 c ?_).trans q) (fun _ q=>q) fun _ _ q=>q;rintro rfl
  rcases hc with rfl|hc
  ·rw[I.free]at e;cases e
  ·rw[I.free]at hc;cases hc
def OC(i:Nat)(D:lD):lD:={nx:=fun σ H=>D.nx (σ.set i Z7) H,rt:=D.rt,bk:=fun σ H=>D.bk (σ.set i Z7) H,ct:=fun σ H=>D.ct (σ.set i Z7) H}
def thAs(K:ag)(Y:ae)(i:Nat)(t:TS)(th:TH):TH:=fun C D σ H=>
 (dE K (.ref C) (.ref Y)=Z8 true/\∀Z,H Z=Z7->t (OC i D) (σ.set i (Z8 (.ref Z))) (upd H Z (XO Z C)))\/(dE K (.ref C) (.ref Y)=Z8 false/\th C D σ H)
theorem wc(I:Inv X pins σ H s)(W:X.N.Nodup)(hi:X.N[i]?=Z8 x)(hk:X.env.scope.names.lookup x=Z8 .local)
  (h:∀s',Inv X pins (σ.set i Z7) H s'->Q () s'):aP M A (do bindName X.env x .none;uC X.env x pos) Q E s:=by
 have Z:i<σ.length:=by
  rw[I.len];exact (aC.mp hi).1
 refine aa (wpAny_bindName (tu (v:=.non) I W hi (.inl hk) rfl (fun U V=>?_) (.inr hk)));unfold uC;refine wpAny_onRaise (F0 (v:=.non) V W hi hk (eP Z) fun s2 Y=>h s2 ?_);rw[List.set_set]at Y;exact Y
theorem Qo{x n:Str}{Ci:ae}{np pos:Pos}{V:df}{Y:List df}{rest:List vV}{t:TS}{th:TH}(i:Nat)(hg:Gl X x)(hm:X.mg x=Z8 (.ref Ci))(hN:X.N.Nodup)(hi:X.N[i]?=Z8 n)(hk:X.env.scope.names.lookup n=Z8 .local)
  (bz:∀Z,PSs (X.hdl Z) (V::Y) t) (hr:PHs X rest th) (hd:(x==("__debug__":Str))=false:=by decide):PHs X (.ExceptHandler (Z8 (.Name x np)) (Z8 n) (V::Y) pos::rest) (thAs X.K Ci i t th):=by
 intro pins s σ H D Z C B I fl M h;refine wpAny_handleBy_cons (codeAny_handlers_test ?_) (by intro q;cases q);refine tw (X:=X.hdl Z) (I.hdl Z) hg hm ?_ hd;obtain⟨ob,bB,hc⟩:=fl.there;have LT:PySem.W.Looks #[4] s.heap (typeOf (.ref Z)) (.ref C):=by
  rw[<- hc];exact (PySem.W.Looks.ld bB).andThen .now
 rcases h with⟨hx,q⟩|⟨hx,q⟩
 ·refine (HB I.kIn LT hx).here ?_;refine codeAny_handlers_suite_as (tL fl fun h6 bG bF=>?_);have I6:=I.landed bG.1 M bF;obtain⟨hz,J⟩:=I6.adopt bG (zV.land I bG.1 M);refine tu (X:=X.hdl Z) (v:=.ref Z) (J.hdl Z) hN hi (.inl hk) rfl (fun s2 I2=>?_) (.inr hk);refine eQ (bz Z pins _ _ _ (OC i D) I2 (q Z hz)) (fun f s3 z=>?_) (fun _ _ z=>cY z);show aP _ X.A (do bindName X.env n .none;uC X.env n pos) (fun _ s₃=>SP X pins D f s₃) X.xe s3
  cases f with
  |next=>obtain⟨O,H',U,g⟩:=z;exact wc (U.unhdl I.ok) hN hi hk fun s4 I4=>{_,_,I4,g}
  |brk=>obtain⟨O,H',U,g⟩:=z;exact wc (U.unhdl I.ok) hN hi hk fun s4 I4=>{_,_,I4,g}
  |cont=>obtain⟨O,H',U,g⟩:=z;exact wc (U.unhdl I.ok) hN hi hk fun s4 I4=>{_,_,I4,g}
  |ret u=>obtain⟨v,O,H',U,r3,g⟩:=z;exact wc (U.unhdl I.ok) hN hi hk fun s4 I4=>{v,_,_,I4,r3,g}
 ·refine (HB I.kIn LT hx).here ?_;exact hr pins s σ H D Z C B I fl M q
end
section
variable{X:Cx}{pins:List (ae×Obj)}{σ:St}{H:Hp}{s s2:ai}{h':cb}
theorem Inv.turned2(I:Inv X pins σ H s)(k:∀b o,b≠e->b≠it->s.heap.get? b=Z8 o->h'.get? b=Z8 o)(f:zA X pins H e)(g:zA X pins H it):Inv X pins σ H {s with heap:=h',toks:=t'}:=by
 have Z:∀b u,H b=Z8 u->b≠e:=fun b u q z=>by rw[z,f.1]at q;cases q
 have Y:∀b u,H b=Z8 u->b≠it:=fun b u q z=>by rw[z,g.1]at q;cases q
 obtain⟨f0,f1,f2,M,f4,D⟩:=f;obtain⟨g0,W,g2,J,U,O⟩:=g;refine I.step (g':=s.gens) (d':=s.drawn) (ch:=[e,it]) (fun b hb=>?_) (fun b o _ _ hc q _=>k b o (fun z=>hc (by simp[z])) (fun z=>hc (by simp[z])) q) (fun b o _ _ hc q _=>{o.slots,k b o (fun z=>hc (by simp[z])) (fun z=>hc (by simp[z])) q}) (fun _ _ _ _ n=>n)
  (fun b o hc q=>{o,k b o (fun z=>hc (by simp[z])) (fun z=>hc (by simp[z])) q}) (fun _ _ q=>q) (fun _ _ _ q=>q) (fun b ps q=>{#[],by rw[q];simp}) (fun m hm=>?_) (fun b u q=>?_) I.bare
 ·rcases aq.mp hb with z|z
  ·subst z;exact⟨M,f1,f4,D⟩
  ·have z:=aK.mp z;subst z;exact⟨J,W,U,O⟩
 ·obtain⟨o,es,ep,t,r⟩:=hm;exact{o,es,ep,k _ o (fb f1) (fb W) t,r}
 ·refine (I.hok b u q).stay (fun c v hc V=>k c v ?_ ?_ V) (fun _ q=>q) fun _ _ q=>q
  ·rcases hc with z|z
   ·rw[z];exact Z b u q
   ·exact Z c _ z
  ·rcases hc with z|z
   ·rw[z];exact Y b u q
   ·exact Y c _ z
theorem Inv.track(I:Inv X pins σ H s)(Z:Inv X pins σ H s2)(ok:dZ X.prog X.w (upd H s.heap.objs.size o) s2.heap s.heap.objs.size o):Inv X pins σ (upd H s.heap.objs.size o) s2:=by
 have fr:H s.heap.objs.size=Z7:=I.hok.fresh (ay _);exact⟨Z.ok,Z.os,Z.bare,⟨Z.base.keep,Z.base.slot,fun b Y q n hx=>by
   have z:=Z.base.free b Y q n hx
   by_cases y:b=s.heap.objs.size
   ·exfalso;have lt:b<s.heap.objs.size:=bf (aO q) I.sz;rw[y]at lt;exact absurd lt (hU _)
   ·rw[aQ y];exact z,Z.base.there,fun b xs q=>by
   rw[aQ (aJ (Z.base.tups b xs q) fr)];exact Z.base.tups b xs q,fun b Y v q=>by
   rw[aQ (aJ (Z.base.frzs b Y v q) fr)];exact Z.base.frzs b Y v q,fun b ps q=>by
   obtain⟨m,z⟩:=Z.base.tbls b ps q;exact{m,by rw[aQ (aJ z fr)];exact z}⟩,Z.loc,Z.cell,by
   rw[aQ (aM I.lt)];exact Z.free,fun x c q=>by
   obtain⟨v,y⟩:=I.cell x c q;rw[aQ (aM y.lt)];exact Z.freeC x c q,fun p hp=>by
   obtain⟨h1,W,V⟩:=Z.pin p hp;obtain⟨U,_⟩:=I.pin p hp;refine{h1,?_,V};rw[aQ (aM (aO U))];exact W,fun b v q=>by
   by_cases y:b=s.heap.objs.size
   ·subst y;rw[ak]at q
    cases q;exact ok
   ·rw[aQ y]at q;exact (Z.hok b v q).stay (fun c O _ z=>z) (fun c z=>by rw[aQ (aJ z fr)];exact z) fun c xs z=>by rw[aQ (aJ z fr)];exact z,Z.len⟩
end
def Ite(K:ag)(a:ae):It:=
 {fun i H=>∃xs x,SqL K H a xs/\xs[i]?=Z8 x,fun i H x H'=>∃t y,x=.ref t/\H t=Z7/\(∀xs,SqL K H a xs->xs[i]?=Z8 y)/\H'=upd H t (.tup [.int i,y]),fun i H=>∃xs,SqL K H a xs/\xs.length<=i}
section
variable{P:aI}{w:aY}{K:ag}
theorem F3 {x1}  (a e it:ae) (W:e≠it):A4 P w K (.Tuple elts x1 pos) (Ite K a) [e,it] e (fun i h=>∃old,IsEnum h e it (i:Int) old/\h.IsListIter it a i) where
 mem:=by simp
 obj:=fun i h st b hb=>by
  obtain⟨old,h1,h2⟩:=st
  rcases aq.mp hb with z|z
  ·subst z;exact{_,h1,fun v z=>by cases z}
  ·have z:=aK.mp z;subst z;obtain⟨o,e,c,d⟩:=h2;exact{o,e,fun v z=>by rw[d]at z;cases z}
 keep:=fun i h h' ⟨old,h1,h2⟩ k=>{old,k e #[5] _ h1,h2.at fun o q=>k it #[5] o q}
 item:=by
  intro X t hw g hc i pins s σ H E I V st D;subst t hw g;obtain⟨old,Y,Z⟩:=st;obtain⟨xs,x,hq,hx⟩:=D;obtain⟨M,O,p,hz⟩:=I.list hq;obtain⟨u,hu,ru⟩:=O.get hx;have F1:=V e #[5];have F2:=V it #[5];obtain⟨U,f1,f2,J,f4,f5⟩:=id F1;refine wpAny_pyNext_enum_item Y Z p.isList (x:=u) (by simpa using hu) W fun h' a1 a2 a3 a4 a5=>?_;have I1:Inv X pins σ H {s with heap:=h',toks:=s.toks+1}:=I.turned2 (t':=s.toks+1) (fun b o h1 h2 q=>a5 b o h1 h2 q) F1 F2;refine{_,Z9,wpAny_letOwnedTupleGo_enum a1 fun h2 e2 sb=>?_};have I2:Inv X pins σ H {s with heap:=h2,toks:=s.toks+1}:=I1.turned (t':=s.toks+1) (fun b o hb q=>sb.extBut b o hb q) U f1 J f4 f5;have fr:H s.heap.objs.size=Z7:=I.hok.fresh (ay _);have n1:s.heap.objs.size≠e:=(aM (aO Y)).symm;have n2:s.heap.objs.size≠it:=by
   obtain⟨o,q,_⟩:=Z;exact (aM (aO q)).symm
  have t2:=sb.extBut _ _ n1 a3;have I3:=I.track I2 (o:=.tup [.int i,x]) {(by show 2<=aD;decide),[.int i s.toks,u],.cons {_,Z9} (.cons ru .nil),_,t2,Z9,0,Z9};refine{.ref s.heap.objs.size,_,I3,Z9,{_,x,Z9,fr,fun ys hy=>by rw[I.list_inj hy hq];exact hx,Z9},{u,e2,a2.extBut sb.extBut (fb W)},fun b hb=>?_}
  rcases aq.mp hb with z|z
  ·rw[z,aQ (fb n1)];exact U
  ·rw[aK.mp z,aQ (fb n2)];exact F2.1
 done:=by
  intro X t hw g hc i pins s σ H E I V st D;subst t hw g;obtain⟨old,Y,Z⟩:=st;obtain⟨xs,hq,hx⟩:=D;obtain⟨M,O,p,hz⟩:=I.list hq;obtain⟨U,f1,f2,J,f4,f5⟩:=V it #[5];have hl:=O.length;exact wpAny_pyNext_enum_end (I.ok.hd hc) Y Z p.isList (by simp;omega) fun h' eb=>{Z9,I.turned (t':=s.toks) (fun b o hb e=>eb b o hb e) U f1 J f4 f5}
 self:=fun A i s Q E ⟨old,st,_⟩ h=>by
  have ty:s.TypeIs (.ref e) "enumerate":={_,st,Z9};refine lT ty F.slot_enumerate_iter (eE F.slot_enumerate_iter ty F.entry_enumerate_iter ?_ (F.args_enumerate_iter_1 _));show aP _ _ (ret (.ref e)) _ _ s;exact ax {_,Z9,"enumerate",_,ty,F.slot_enumerate_next.lookup,h}
end
section
variable{X:Cx}{elts:List cK}{x1:Nat}{tpos pos p:Pos}
def OD(K:ag)(tl:TA):TI:=fun σ H R=>tl σ H fun vs H1=>∃a,vs=[.ref a]/\(∃xs,SqL K H1 a xs)/\R (Ite K a) H1
theorem z7{a:cK}{ta:TA}(O:Gl X "enumerate")(hm:X.mg "enumerate"=Z7)(ha:PA X [a] ta)(hs:cz [a] X.env=[(false,fY a X.env)]:=by rfl):PI X (.Tuple elts x1 tpos) (.Call (.Name "enumerate" p) [a] [] pos) (OD X.K ta):=by
 intro pins s σ H R I h;refine Call_ (rX I O hm boot_enumerate (iZ (thn (ha pos pins s σ H _ I h) fun us Y ⟨vs,H1,Z,t,J⟩=>?_) hs rfl));obtain⟨l,e,⟨xs,hq⟩,q⟩:=J;subst e;obtain⟨u,rfl,g⟩:=vals1 t
 cases g;obtain⟨U,rv,pl,hz⟩:=Z.list hq;refine call_enumerate_list pl.isList fun h' W D e3 V=>?_;have M:Inv X pins σ H1 {Y with heap:=h'}:=Z.kept (t':=Y.toks) V;have ty:({Y with heap:=h'}:ai).TypeIs (.ref (Y.heap.objs.size+1)) "enumerate":={_,W,Z9};refine lT ty F.slot_enumerate_iter (eE F.slot_enumerate_iter ty F.entry_enumerate_iter ?_ (F.args_enumerate_iter_1 _));show aP _ _ (ret (.ref (Y.heap.objs.size+1))) _ _ _;refine ax {_,Z9,"enumerate",_,ty,F.slot_enumerate_next.lookup,?_};refine{_,[_,_],_,_,H1,Z9,M,F3 l _ Y.heap.objs.size (Nat.succ_ne_self _),{.none,W,D},fun b hb=>?_,q}
 rcases aq.mp hb with z|z
 ·rw[z];exact Z.fpOk (eD _) (Z.hok.fresh (eD _))
 ·rw[aK.mp z];exact Z.fpOk (ay _) (Z.hok.fresh (ay _))
theorem F4{K:ag}{g:TG}{tc:TT}{te:TE}{σ:St}{Q:VK}(Y:Nat->List V->Hp->Prop)(h0:Y 0 [] H)(hl:∀i ys H,i<=xs.length->Y i ys H->SqL K H a xs/\ys.length<aD)
  (hs:∀i x t ys H,xs[i]?=Z8 x->Y i ys H->H t=Z7->g (.ref t) (cy n Z7++σ) (upd H t (.tup [.int i,x])) fun Z H2=>Z.drop n=σ/\tc Z H2 fun b M=>if b=true then te Z M fun y J=>Y (i+1) (ys++[y]) J else Y (i+1) ys M)
  (hd:∀ys H,Y xs.length ys H->∀p,H p=Z7->Q (.ref p) (upd H p (.lst ys))) :
  ∃W:Nat->Nat->List V->Hp->Prop,(∃m,W 0 m [] H)/\∀i m ys H,W i m ys H->ys.length<aD/\(((Ite K a).stop i H/\∀p,H p=Z7->Q (.ref p) (upd H p (.lst ys))) \/
   ((Ite K a).go i H/\∃N:List V->Hp->Prop,(∀U H',N U H'->∃I,I<m/\W (i+1) I U H')/\∀x H',(Ite K a).yld i H x H'->g x (cy n Z7++σ) H' fun Z H2=>Z.drop n=σ/\tc Z H2 fun b M=>
    if b=true then te Z M fun y J=>N (ys++[y]) J else N ys M)):=by
 refine{fun i m ys H=>m=xs.length-i/\i<=xs.length/\Y i ys H,{xs.length,by simp,aW _,h0},?_};rintro i m ys H ⟨rfl,hi,p⟩;obtain⟨q,z⟩:=hl i ys H hi p;refine{z,?_}
 by_cases O:i<xs.length
 ·refine .inr {{xs,xs[i],q,by simp[O]},Y (i+1),fun U H' D=>{xs.length-(i+1),by omega,Z9,O,D},fun x H' y=>?_};obtain⟨t,v,rfl,ht,hv,rfl⟩:=y;exact hs i v t ys H (hv xs q) p ht
 ·have e:i=xs.length:=by omega
  subst e;exact .inl {{xs,q,ay _},hd ys H p}
end
section
variable{prog:aI}{w:aY}{A:bJ}{E:af->ai->Prop}{s:ai}
theorem yi(U:s.heap.get? a=Z8 (dH "list" vs.toArray n))(h2:vs.length<2)
  (h:P (.done (.ret .none)) {s with heap:=sortedHeap s.heap a vs vs.toArray}) :
  aP (aS prog w) A (eK.«list.sort» {[.ref a],[(gy "reverse",.bool b)]}) P E s:=by
 rw[list_sort_rev];have ha:a<s.heap.objs.size:=aO U;refine aa (listItems_at U rfl ?_);refine aa (wg U rfl ?_);obtain⟨O,Z⟩:∃O,(s.heap.update a (cN fun _=>#[])).get? a=Z8 (dH "list" #[] O):={_,get?_update_seq U (fun _=>#[])};refine aa (AR Z rfl ?_);refine aa (C5 ?_);refine aa (nv ?_);refine cU ?_;have Y:(#[8].push (dH "list" #[] 0)).get? a=Z8 (dH "list" #[] O):=by
  rw[gG _ _ _ (by rw[xj,hZ];exact aM (dY ha)),gG _ _ _ (by rw[hZ];exact aM ha)];exact Z
 have one:((if b=true then (if b=true then (vs.toArray.zip vs.toArray).reverse else vs.toArray.zip vs.toArray).map (·.2) |>.reverse else (if b=true then (vs.toArray.zip vs.toArray).reverse else vs.toArray.zip vs.toArray).map (·.2)):Array af)=vs.toArray:=by
  clear Y Z ha h U
  rcases vs with _|⟨v,_|⟨M,vs⟩⟩
  ·cases b<;>simp
  ·cases b<;>simp
  ·exact absurd h2 #[5]
 show aP (aS prog w) A _ P E {s with heap:=#[8].push (dH "list" #[] 0)};dsimp only;have step:∀t:Sem Fin,aP (aS prog w) A t P E {s with heap:=#[8].push (dH "list" #[] 0)} ->
   aP (aS prog w) A (if b=true then (do let _ <- HX "list.sort.reverse";t) else t) P E {s with heap:=#[8].push (dH "list" #[] 0)}:=by
  intro t ht
  split
  ·exact aa (pB ht)
  ·exact ht
 refine step _ ?_;have W:vs.toArray.size<2:=by simpa using h2
 rw[if_pos W,if_pos W];refine aa (ax ?_);rw[StateT.run_pure];refine aa (ax ?_);dsimp only;refine aa (AR Y rfl ?_);have V:(if b=true then (Array.map (fun x=>x.snd) (arrOf (RZ general' (if b=true then (vs.toArray.zip vs.toArray).reverse else vs.toArray.zip vs.toArray) #[] 7 Z7))).reverse else Array.map (fun x=>x.snd) (arrOf (RZ general' (if b=true then (vs.toArray.zip vs.toArray).reverse else vs.toArray.zip vs.toArray) #[] 7 Z7)))=vs.toArray:=one;rw[V];refine aa (wg Y rfl ?_ (hsz2:=by rw[nA];omega));simp only[bne_self_eq_false,jf,if_false];exact ax h
theorem C6(Y:s.heap.IsList l vs.toArray)(h2:vs.length<2)
  (h:Q (.ref (s.heap.objs.size+1)) {s with heap:=HC s.heap vs vs.toArray}) :
  aP (aS prog w) A (vz (.builtin "sorted") [.ref l] [(gy "reverse",.bool b)]) Q E s:=by
 refine IX AS yj yk (args_sorted_rev _ _) ?_;unfold eK.«sorted»;refine aa (m:=C7 "sorted" 1 1 _) (ax ?_);refine aa (collect_list Y ?_);refine aa (nv ?_);have hsz:((s.heap.push (dH "list" #[] 0)).update s.heap.objs.size (cN (·++vs.toArray))).objs.size=s.heap.objs.size+1:=by
  rw[hZ,xj]
 have Z:(((s.heap.push (dH "list" #[] 0)).update s.heap.objs.size (cN (·++vs.toArray))).push (dH "list" vs.toArray 0)).get? (s.heap.objs.size+1)=Z8 (dH "list" vs.toArray 0):=by
  rw[<- hsz];exact aU _ rfl
 show aP _ _ _ _ _ {s with heap:=((s.heap.push (dH "list" #[] 0)).update s.heap.objs.size (cN (·++vs.toArray))).push (dH "list" vs.toArray 0)};rw[hsz];refine aa (cU (OE uD {_,Z,Z9} sX (yi Z h2 {_,Z9,?_}) (Qp _ _)));exact ax {_,Z9,h}
end
section
variable{X:Cx}{e:cK}{t:TA}{p pos kp bp:Pos}{j:Nat}
end
section
variable{X:Cx}
def tTryE(T:ae->St->Hp->Prop)(tb:TS)(th:TH)(te:TS):TS:=fun D σ H=>tb {D with nx:=te D} σ H/\∀C Z H',Z.length=σ.length->T C Z H'->th C D Z H'
theorem Mo{V Y:List df}{h₀:vV}{hs:List vV}{pos:Pos}{tb te:TS}{th:TH}(T:ae->St->Hp->Prop)(hb:∀pins,PSs (X.tr pins T) V tb)(hh:PHs X (h₀::hs) th)(ho:PSs X Y te)
  (U:X.stack=X.env::X.outer:=by rfl) (M:X.env.frame=Z8 X.env.locals:=by rfl):PS X (.Try V (h₀::hs) Y [] pos) (tTryE T tb th te):=by
 intro pins s σ H D I h;obtain⟨h1,h2⟩:=h;refine wpAny_Try_except (eQ (hb pins [] s σ H {D with nx:=te D} (I.tr T) h1) (fun f g q=>?_) (fun e g q=>?_))
 ·cases f with
  |next=>obtain⟨Z,H',J,q⟩:=q;exact ho pins g Z H' D J.untr q
  |ret v=>obtain⟨v,Z,H',J,r,q⟩:=q;exact⟨v,Z,H',J.untr,r,q⟩
  |brk=>obtain⟨Z,H',J,q⟩:=q;exact⟨Z,H',J.untr,q⟩
  |cont=>obtain⟨Z,H',J,q⟩:=q;exact⟨Z,H',J.untr,q⟩
 ·obtain⟨ea,C,B,Z,H',rfl,J,fl,O,t⟩:=q;have z:FlD B (X.env::X.outer) ea (.ref C) .none g.heap:=by
   rw[<- U];exact fl
  refine EB (by rw[J.ok.frames,U]) M z fun h4 x4 s4=>?_;refine tL x4 fun h5 W s5=>?_;have J5:=J.landed W.1 O (s4.trans s5);rw[<- U]at W;exact hh pins _ Z H' D ea C B J5 W (zV.land J W.1 O) (h2 C Z H' (by rw[J.len,I.len]) t)
end
abbrev Bp(A:bJ):bJ:={A with handled:=Z7}
structure qH(P:aI)(w:aY)(K:ag)(mg:Str->Option af)(base:cb)(CX:CXT)(k:Nat)(f:ae)(fd:bY)(ps:List Str)(sp:Sp):Prop where
 len:∀vs H Q E,sp vs H Q E->vs.length=ps.length
 run:∀(A:bJ) (outer:List Env) (s:ai) (H:Hp) (args:Args) (us:List af) (vs:List V) (Q:VK) (E:XK),dJ k (Bp A)->zI P w K mg base A outer s H->uY s fd args (ps.zip us)->cW vs us->sp vs H Q E ->
  kS (aS P w) A (.call (.ref f) args) (CR CX outer P w H s Q E) s
theorem Qq{K:ag}{dV kV bG pm U ct oc:af}
     (lk:K.lookup f=Z8 {oc,od,.func (fu name W O D Z dV kV bG pm an U ct),bw}) (bB:kA K U W=true) (S:bM N ps Z)
  (len:∀vs H Q E,sp vs H Q E->vs.length=ps.length)
  (bH:∀(A:bJ) (outer:List Env) (s:ai) (H:Hp) (vs:List V) (Q:VK) (E:XK),sp vs H Q E ->
   ∃t,PSs {rE CX P w K mg base N W Z f U A outer s H E with calm:=false} D t/\t {nx:=fun _ H'=>Q .non H',rt:=Q} (start N vs) H) :
  qH P w K mg base CX (k+1) f (fu name W O D Z dV kV bG pm an U ct) ps sp:=by
 refine{len,fun A outer s H args us vs Q E hr M hb r bF=>?_};have hl:=len _ _ _ _ bF;have KX:K.In s.heap:=M.mod.kin.keeps fun b o e=>(M.bs b o e).1;have bz:s.heap.NoLimit:=M.mod.nolimit.keeps fun b o e=>(M.bs b o e).1;have bI:∀y∈ps.zip us,Z.names.lookup y.1=Z8 .local\/(Z.names.lookup y.1=Z8 .cell/\((Hv (s.heap.objs.size+1) Z.names []).lookup y.1).isSome=true):=fun⟨n,v⟩ hy=>by
  rcases S.par n (qy hy).1 with q|q
  ·exact .inl q
  ·exact .inr {q,pz _ _ _ (.inl q)}
 refine Ls (A:=A) hr.depth (KX _ _ lk) rfl S.co S.gen rfl (Cu KX bB) (hb _ _ _ _ ?_);refine Cv S.kind bI fun env he s1 x=>?_;subst he;refine{bz.keeps x.toInCall.keep,codeAny_func ?_};obtain⟨t,ht,hq⟩:=bH A outer s H vs Q E bF;have e1:zI P w K mg base (Bp A) outer s H:=⟨M.frames,M.mod,M.bs,M.bsz,M.funs,M.frf,M.hok,M.bare⟩;have Y:Inv (rE CX P w K mg base N W Z f U (Bp A) outer s H E) [] (start N vs) H s1:=yI S rfl e1 hl r x;have I:Inv {rE CX P w K mg base N W Z f U A outer s H E with calm:=false} [] (start N vs) H s1:=
  {{Y.ok.mod,Y.ok.kind,Y.ok.glob,Y.ok.blt,Y.ok.above,Y.ok.inj,Y.ok.has,Y.ok.cab,fun z=>vU z,Y.ok.frames,Y.ok.stk,Y.ok.exf,Y.ok.bs,Y.ok.bsz,Y.ok.noex,Y.ok.exfs,Y.ok.funs,Y.ok.frf},Y.os,Y.bare,Y.base,Y.loc,Y.cell,Y.free,Y.freeC,Y.pin,Y.hok,Y.len}
 refine eQ (ht [] s1 (start N vs) H _ I hq) (fun fl s' hs=>?_) fun e s' hs=>hs;have fin:∀{g:St} {H':Hp} {v:V} {u:af},Inv {rE CX P w K mg base N W Z f U A outer s H E with calm:=false} [] g H' s'->RelV v u->Q v H'->CE outer P w H s Q u s':=
  fun {g H' v u} J rv q=>⟨v,H',J.os,J.bare,J.base,J.hok,rv,q⟩
 cases fl with
 |ret u=>
  obtain⟨v,g,H',J,rv,q⟩:=hs;exact fin J rv q
 |next=>
  obtain⟨g,H',J,q⟩:=hs;exact fin (v:=V.non) (u:=Value.none) J rfl q
 |brk=>
  obtain⟨_,_,_,q⟩:=hs;exact cY q
 |cont=>
  obtain⟨_,_,_,q⟩:=hs;exact cY q
theorem Fun.okH{K:ag}{st:df}(F:Fun K x Z st f fd)(S:bM N ps (aR st))(len:∀vs H Q E,sp vs H Q E->vs.length=ps.length)
  (W:∀(Y:af) (A:bJ) (outer:List Env) (s:ai) (H:Hp) (vs:List V) (Q:VK) (E:XK),sp vs H Q E ->
   ∃t,PSs {rE CX0 P w K mg base N Z (aR st) f Y A outer s H E with calm:=false} (j6 st) t/\t {nx:=fun _ H'=>Q .non H',rt:=Q} (start N vs) H):qH P w K mg base CX0 (k+1) f fd ps sp:=by
 obtain⟨z,od,kV,J,g,D,Y,ct,I,rfl,M,O⟩:=F.ex;exact Qq M O S len fun A outer s H vs Q E U=>W Y A outer s H vs Q E U
theorem Mp{σ:St}(F:qH X.prog X.w X.K X.mg X.base CX k f fd ps sp)(Y:dJ k (Bp X.A))(hb:Binds X.K fd ps [])(hx:mI CX X E)
  (I:Inv X pins σ H s) (r:cW vs us) (h:sp vs H Q E):aP #[4] X.A (vz (.ref f) us) (EP X pins σ Q) X.xe s:=by
 have W:(us++[]).length=ps.length:=by rw[cO,<- r.length];exact F.len _ _ _ _ h
 have Z:=hb s us I.kIn W;rw[cO]at Z;refine w5 (jD (F.run X.A X.stack s H {us,[]} us vs Q E Y I.env0 Z r h) fun r s' hq=>?_)
 cases r with
 |error e=>exact hx pins σ H s e s' I hq
 |ok fl=>
  cases fl with
  |ret u=>exact I.after hq
  |next=>exact cY hq
  |brk=>exact cY hq
  |cont=>exact cY hq
section
variable{X:Cx}{CX:CXT}{k:Nat}{ι:Type}{fm C:ι->ae}{fd:ι->bY}{ps:List Str}{sp:ι->Sp}{E:XK}{m:Str}{pos apos:Pos}{o:cK}{ta:TE}
def Mq(C:ι->ae)(sp:ι->Sp)(E:XK)(ta:TE):TE:=fun σ H Q=>ta σ H fun x H1=>∃a i,x=.ref a/\H1 a=Z8 (XO a (C i))/\sp i [.ref a] H1 Q E
theorem Gf{pl:Sem Bool}(V:PE X o ta)(c:∀i,yh X.K (C i))(Y:∀i,zG X.K (C i) m (fm i))(F:∀i,qH X.prog X.w X.K X.mg X.base CX k (fm i) (fd i) ps (sp i))(O:dJ k (Bp X.A))(hb:∀i,Binds X.K (fd i) ps [])(hx:mI CX X E)
  (ht:fY (.Call (.Attribute o m apos) [] [] pos) X.env=(do
   let W <- fY o X.env
   x6 apos.atName
   let (f,first) <- qb [W] (o5 W m pl)
   Co pos f first (jZ pos (cz [] X.env)) (px pos (j9 [] X.env))):=by rfl) :
  PE X (.Call (.Attribute o m apos) [] [] pos) (Mq C sp E ta):=by
 intro pins s σ H Q I h;refine kT (pl:=pl) (thn (V pins s σ H _ I h) fun u D ⟨x,H1,Z,M,a,i,ex,U,q⟩=>?_) ht;subst ex;obtain rfl:u=Value.ref a:=M;obtain⟨ox,J⟩:=(Qn Z.hok U).inst;refine IV Z.kIn J (c i) (Y i).at_ (beq_iff_eq.mp (Y i).fn) ?_;exact B4 (first:=[.ref a]) Z.kIn (Y i).kp (Mp (us:=[.ref a]) (vs:=[.ref a]) (F i) O (hb i) hx Z (.cons rfl .nil) q)
end
end L2
namespace HT
open PySem PyProof.Rows
open PySem.SeqAt
open PySem.AutoSeq1 (wpAny_loadPart')
open PySem.MeetsSeq PySem.MeetsSeq2 PySem.MeetsSeq3
def Qr(A:bJ)(s:ai)(x y:af)(g:Bool):Prop:=∀(prog:aI) (w:aY) (E:af->ai->Prop) (Q:af->ai->Prop),Q (.bool g) s->aP (aS prog w) A (qe .Gt x y) Q E s
theorem Mr(l b:ae)(x y:af)(xs ys:List af)(n m:Nat)(dd I:Option ae)(sl sm:Array (Option af))(g:Bool) :
  Meets (eK.«tuple.__gt__» {[.ref l,.ref b],[]})
   (fun A R s=>s.heap.get? l=Z8 {cls:=.type "tuple",dict:=dd,data:=.seq (x::xs).toArray n,slots:=sl}/\s.heap.get? b=Z8 {cls:=.type "tuple",dict:=I,data:=.seq (y::ys).toArray m,slots:=sm}/\EqAt A.in1 s x y false/\Qr A.in1 s x y g/\R (.ok (.ret (.bool g))) s):=
 .of_wp fun prog w A R s h=>by
  obtain⟨hp,U,d,tk,Y⟩:=s;obtain⟨D,hb,J,z,h⟩:=h;have f2:=iD
  wp_walk using cQ D,cQ hb,jj _ (fun rest b s'=>b.1=Z7/\s'=⟨hp,U,d,tk,Y⟩/\∃Z,rest=(x,y)::Z) _
  case turn=>
   rintro⟨y',t⟩ rest b s' ⟨V,rfl,Z,hz⟩;injection hz with O M;injection O with hy hx;subst hy hx;refine aa (J prog w _ _ ?_);have W:∀(E:af->ai->Prop) (Q:af->ai->Prop),Q (.bool g) ⟨hp,U,d,tk,Y⟩->aP (aS prog w) A.in1 (qe .Gt _ _) Q E ⟨hp,U,d,tk,Y⟩:=fun E Q q=>z prog w E Q q
   wp_walk using W
   exact{_,Z9,by simpa using h}
  case fin=>
   rintro⟨b1,b2⟩ s' ⟨V,rfl,Z,hz⟩
   cases hz
  case h=>
   exact{Z9,Z9,xs.zip ys,by simp}
theorem gtAt_heads(O:uk s.heap l (x::xs).toArray)(hb:uk s.heap b (y::ys).toArray)(hu:A.units<dM)(W:EqAt A.in1 s x y false)(V:Qr A.in1 s x y g):Qr A s (.ref l) (.ref b) g:=fun prog w E Q h=>by
 obtain⟨⟨M,dd,t1,sl⟩,Z,rfl,n,rfl⟩:=id O;obtain⟨⟨J,U,I,sm⟩,Y,rfl,m,rfl⟩:=id hb;exact sE (op:=.Gt) {_,Z,Z9} {_,Y,Z9} AO z6 (yT _ _) (Mr l b x y xs ys n m dd U sl sm g)
  {Z,Y,W,V,show Value.bool g≠Value.notImplemented/\Q (.bool g) s from{(fun x=>nomatch x),h}} hu
end HT
namespace L2
open PySem PySem.Spec PyProof.Rows
section
variable{X:Cx}
def rGtH:R2:=fun x y H Q=>∃a b Z Y ns ms W U,x=.ref a/\y=.ref b/\H a=Z8 (.tup (.ref Z::W))/\H b=Z8 (.tup (.ref Y::U))/\H Z=Z8 (.tup (ns.map V.int))/\H Y=Z8 (.tup (ms.map V.int))/\ns≠ms/\Q (.bl (HT.lexLt ms ns)) H
theorem Qs(hu:X.A.units+1<dM):OpR X (eB .Gt) rGtH:=by
 intro pins s σ H x y v u Q I rx ry h;obtain⟨a,b,ka,kb,ns,ms,ra,rb,rfl,rfl,ha,hb,W,Z,ne,q⟩:=h
 cases rx
 cases ry;obtain⟨D,O,p1,_⟩:=I.tuple (SqT.of ha);obtain⟨U,V,p2,_⟩:=I.tuple (SqT.of hb);obtain⟨k1,z,q1,_⟩:=I.tuple (SqT.of W);obtain⟨k2,s2,t,_⟩:=I.tuple (SqT.of Z);have i1:dQ k1.toArray.toList ns:=intsAre_of z;have M:dQ k2.toArray.toList ms:=intsAre_of s2;have Y:X.A.in1.units<dM:=hu;have e:=yU (A:=X.A.in1) I.hok Y W Z;rw[decide_eq_false ne]at e
 cases O with
 |cons g O=>
  cases V with
  |cons J V=>
   cases g
   cases J;exact HT.gtAt_heads p1 p2 #[2] e (fun prog w E Q h=>HT.gt_tup q1 t i1 M Y h) _ _ _ _ {.bl (HT.lexLt ms ns),H,I,Z9,q}
end
end L2
namespace L2
open PySem PySem.W PyProof.Rows HT
def jQ(a b:List Int):Prop:=lexLt b a=false
theorem jQ.refl(a:List Int):jQ a a:=CZ a
theorem jQ.trans(h1:jQ a b)(h2:jQ b c):jQ a c:=by
 unfold jQ at *
 cases e:lexLt c a with
 |false=>rfl
 |true=>
  cases f:lexLt a b with
  |true=>
   rw[lx_trans e f]at h2
   cases h2
  |false=>
   rw[tP f h1]at e;rw[e]at h2
   cases h2
theorem jQ.of_lt{a b:List Int}(h:lexLt a b=true):jQ a b:=lx_asym h
theorem IY{a b c:List Int}(h:lexLt a b=true)(h2:jQ b c):lexLt a c=true:=by
 cases e:lexLt a c with
 |true=>rfl
 |false=>
  have z:jQ c a:=e;have y:=h2.trans z;unfold jQ at y;rw[h]at y
  cases y
theorem jQ.anti(h1:jQ a b)(h2:jQ b a):a=b:=tP h2 h1
def KR{α:Type}(r:Nat->List Int)(n:Nat):KasT α->(α->Prop)->Prop
 |.ret a,Q=>Q a
 |.ask i j k,Q=>(i<n/\j<n/\i≠j)/\KR r n (k (lexLt (r i) (r j))) Q
section
variable{r:Nat->List Int}{n:Nat}
theorem KR.bind{α Z:Type}{f:α->KasT Z}{Q:Z->Prop}:∀{t:KasT α},KR r n t (fun a=>KR r n (f a) Q)->KR r n (t.bind f) Q
 |.ret _,h=>h
 |.ask _ _ k,⟨h1,Y⟩=>{h1,KR.bind Y}
theorem KR.sound{α:Type}{Q:α->Prop}(hc:∀i j (C:Bool->ai->Prop),i<n->j<n->i≠j->C (lexLt (r i) (r j)) s->Z i j C s):∀{t:KasT α},KR r n t Q->t.kasWp Z (fun a s'=>s'=s/\Q a) s
 |.ret _,h=>⟨Z9,h⟩
 |.ask i j k,⟨⟨h1,h2,Y⟩,W⟩=>hc i j _ h1 h2 Y (KR.sound hc W)
theorem Mu{α:Type}{a b:KasT α}{Q:α->Prop}(h:KR r n a Q):KR r n (if true=true then a else b) Q:=by
 rw[if_pos rfl];exact h
theorem Mv{α:Type}{a b:KasT α}{Q:α->Prop}(h:KR r n b Q):KR r n (if false=true then a else b) Q:=by
 rw[if_neg #[5]];exact h
def Rk(r:Nat->List Int)(p:Array Nat)(i:Nat):List Int:=r (p.getD i 0)
def Pm(n:Nat)(p:Array Nat):Prop:=p.Perm (gK n).toArray
theorem Pm.size(h:Pm n p):p.size=n:=by
 have:=h.size_eq;simpa using this
theorem Pm.lt(h:Pm n p)(hi:i<n):p.getD i 0<n:=by
 have hs:i<p.size:=by rw[h.size];exact hi
 have e:p.getD i 0=p[i]:=by simp[iL,hs]
 rw[e];have m:p[i]∈p.toList:=by simp
 have z:=(jR.mp h).mem_iff.mp m;simpa using z
theorem Pm.two(h:Pm n p)(hi:i<n)(Y:j<n)(ne:i≠j):p.getD i 0<n/\p.getD j 0<n/\p.getD i 0≠p.getD j 0:=by
 refine{h.lt hi,h.lt Y,?_};have Z:p.toList.Nodup:=(jR.mp h).nodup_iff.mpr (by simpa using List.nodup_range);have h1:i<p.size:=by rw[h.size];exact hi
 have h2:j<p.size:=by rw[h.size];exact Y
 have V:p.getD i 0=p.toList[i]'(by simpa using h1):=by simp[iL,h1]
 have W:p.getD j 0=p.toList[j]'(by simpa using h2):=by simp[iL,h2]
 rw[V,W];intro z
 rcases IZ ne with c|c
 ·exact cT.mp Z i j _ _ c z
 ·exact cT.mp Z j i _ _ c z.symm
theorem sN(p:Array Nat)(i:Nat):p.getD i 0=(p[i]?).getD 0:=by
 by_cases h:i<p.size
 ·simp[iL,h]
 ·simp[iL,h]
theorem Pm.rev(h:Pm n p)(i j:Nat):Pm n (R0 p i j):=(mirror_perm _ _ _ _).trans h
theorem Pm.bub(h:Pm n p)(i j:Nat):Pm n (bubble p i j):=(bubble_perm _ _ _).trans h
theorem C8(Z:j<=p.size)(k:Nat):Rk r (R0 p i j) k=if i<=k/\k<j then Rk r p (i+j-1-k) else Rk r p k:=by
 unfold Rk R0;rw[sN,getElem?_mirror_all Z,sN,sN]
 split<;>rfl
theorem I9(hs:Z<p.size)(Y:d<=Z)(k:Nat):Rk r (bubble p Z d) k=if k=Z-d then Rk r p Z else if Z-d<k/\k<=Z then Rk r p (k-1) else Rk r p k:=by
 unfold Rk;rw[sN,getElem?_bubble hs d Y,sN,sN,sN]
 repeat' split
 all_goals rfl
theorem uE(Y:j<=p.size)(Z:∀k,i<=k->k<j->Rk r p k=Rk r p (j-1))(k:Nat):Rk r (R0 p i j) k=Rk r p k:=by
 rw[C8 Y]
 split
 ·rw[Z k #[2] #[2],Z _ #[2] #[2]]
 ·rfl
def Srt(r:Nat->List Int)(p:Array Nat)(m:Nat):Prop:=∀i j,i<=j->j<m->jQ (Rk r p i) (Rk r p j)
def Fal(r:Nat->List Int)(p:Array Nat)(m:Nat):Prop:=∀i j,i<=j->j<m->jQ (Rk r p j) (Rk r p i)
theorem Srt.one(p:Array Nat):Srt r p 1:=fun i j h1 h2=>by
 have:i=j:=by omega
 subst this;exact jQ.refl _
theorem Srt.up(h1:1<=x)(h:Srt r p x)(l:jQ (Rk r p (x-1)) (Rk r p x)):Srt r p (x+1):=fun i j Z Y=>by
 by_cases c:j<x
 ·exact h i j Z c
 ·have:j=x:=by omega
  subst this
  by_cases d:i=j
  ·subst d;exact jQ.refl _
  ·exact (h i (j-1) #[2] #[2]).trans l
theorem Fal.up(h1:1<=x)(h:Fal r p x)(l:jQ (Rk r p x) (Rk r p (x-1))):Fal r p (x+1):=fun i j Z Y=>by
 by_cases c:j<x
 ·exact h i j Z c
 ·have:j=x:=by omega
  subst this
  by_cases d:i=j
  ·subst d;exact jQ.refl _
  ·exact l.trans (h i (j-1) #[2] #[2])
theorem Fal.eq(e:∀k,Rk r Z k=Rk r p k)(h:Fal r p m):Fal r Z m:=fun i j a b=>by
 rw[e,e];exact h i j a b
theorem C9(hp:Pm n p)(Y:N<=n)(h:∀q,1<=q->q<=N->Srt r p q->(q=N\/lexLt (Rk r p q) (Rk r p (q-1))=true)->Q q):∀(f m:Nat),1<=m->m+f=N->Srt r p m->KR r n (kas_asc p f m) Q
 |0,m,h1,Z,hs=>h m h1 #[2] hs (.inl #[2])
 |f+1,m,h1,Z,hs=>by
  refine{hp.two #[2] #[2] #[2],?_}
  cases e:lexLt (r (p.getD m 0)) (r (p.getD (m-1) 0)) with
  |true=>exact h m h1 #[2] hs (.inr e)
  |false=>exact C9 hp Y h f (m+1) #[2] #[2] (hs.up h1 e)
theorem wj(Y:N<=n)(h:∀p m q,Pm n p->m0<=m->m<=N->Fal r p m->q+1<=m->(∀i,m-(q+1)<=i->i<m->Rk r p i=Rk r p (m-1))->Q (p,m,q)) :
  ∀(f:Nat) (p:Array Nat) (m q:Nat),Pm n p->1<=m->m0<=m->m+f=N->Fal r p m->q+1<=m->(∀i,m-(q+1)<=i->i<m->Rk r p i=Rk r p (m-1))->KR r n (kas_desc f p m q) Q
 |0,p,m,q,hp,h1,h0,W,hs,hq,Z=>h p m q hp h0 #[2] hs hq Z
 |f+1,p,m,q,hp,h1,h0,W,hs,hq,Z=>by
  refine{hp.two #[2] #[2] #[2],?_};have hsz:m<=p.size:=by rw[hp.size];omega
  cases e:lexLt (r (p.getD m 0)) (r (p.getD (m-1) 0)) with
  |true=>
   refine Mu ?_;have up:=hs.up h1 (jQ.of_lt e)
   by_cases c:q>0
   ·rw[if_pos c];exact wj Y h f _ (m+1) 0 (hp.rev _ _) #[2] #[2] #[2] (up.eq (uE hsz Z)) #[2] (fun i a b=>by congr 1;omega)
   ·rw[if_neg c];exact wj Y h f p (m+1) 0 hp #[2] #[2] #[2] up #[2] (fun i a b=>by congr 1;omega)
  |false=>
   refine Mv ?_;refine{hp.two #[2] #[2] #[2],?_}
   cases d:lexLt (r (p.getD (m-1) 0)) (r (p.getD m 0)) with
   |true=>
    refine Mu ?_;exact h p m q hp h0 #[2] hs hq Z
   |false=>
    refine Mv ?_;have eq:Rk r p m=Rk r p (m-1):=tP e d;refine wj Y h f p (m+1) (q+1) hp #[2] #[2] #[2] (hs.up h1 (by rw[eq];exact jQ.refl _)) #[2] (fun i a b=>?_);rw[show m+1-1=m by omega]
    by_cases c:i=m
    ·subst c;rfl
    ·rw[eq];exact Z i #[2] #[2]
theorem Bq(Z:N<=n)(h:∀m p,Pm n p->1<=m->m<=N->Srt r p m->Q (m,p))(hp:Pm n p)(h1:1<=m)(V:m<=N)(hs:Fal r p m):KR r n (kas_tail3 m N p) Q:=by
 unfold kas_tail3;have hsz:m<=p.size:=by rw[hp.size];omega
 refine KR.bind (C9 (hp.rev 0 m) Z (fun q a b c _=>?_) (N-m) m h1 #[2] fun i j Y W=>?_)
 ·exact h q _ (hp.rev 0 m) a b c
 ·rw[C8 hsz,C8 hsz,if_pos #[2],if_pos #[2]];exact hs _ _ #[2] #[2]
theorem vj(W:N<=n)(h:∀m p,Pm n p->1<=m->m<=N->Srt r p m->Q (m,p))(hp:Pm n p)(M:m+1<=N)(hs:Fal r p (m+1)):KR r n (kas_descPart m N p) Q:=by
 unfold kas_descPart;refine KR.bind (wj (m0:=m+1) W (fun O V q Z a b Y hq U=>?_) (N-(m+1)) p (m+1) 0 hp #[2] (ay _) #[2] hs #[2] (fun i a b=>by congr 1;omega));dsimp only;have hsz:V<=O.size:=by rw[Z.size];omega
 by_cases c:q>0
 ·rw[if_pos c];exact Bq W h (Z.rev _ _) #[2] b (Y.eq (uE hsz U))
 ·rw[if_neg c];exact Bq W h Z #[2] b Y
theorem Ja(h:∀m p,Pm n p->1<=m->m<=n->Srt r p m->Q (m,p))(hp:Pm n p)(h1:1<=n):KR r n (kas_count n p) Q:=by
 unfold kas_count;refine KR.bind (C9 hp (ay n) (fun m V U hs W=>?_) (n-1) 1 (ay _) #[2] (Srt.one p))
 by_cases c:m=n
 ·rw[if_pos (by simpa using c)];exact h m p hp V U hs
 ·rw[if_neg (by simpa using c)];have Y:=W.resolve_left c
  by_cases g:m>1
  ·rw[if_pos g];refine{hp.two #[2] #[2] #[2],?_}
   cases e:lexLt (r (p.getD 0 0)) (r (p.getD (m-1) 0)) with
   |true=>
    refine Mu ?_;exact h m p hp V U hs
   |false=>
    refine Mv ?_;have hsz:m<=p.size:=by rw[hp.size];omega
    have Z:∀k,0<=k->k<m->Rk r p k=Rk r p (m-1):=fun k _ hk=>by
     have a1:=hs 0 k #[2] hk;have a2:=hs k (m-1) #[2] #[2];exact a2.anti (jQ.trans (show jQ (Rk r p (m-1)) (Rk r p 0) from e) a1)
    refine vj (ay n) h (hp.rev _ _) #[2] (Fal.eq (uE hsz Z) ?_);refine Fal.up #[2] (fun i j O M=>?_) (jQ.of_lt Y);rw[Z i #[2] #[2],Z j #[2] M];exact jQ.refl _
  ·rw[if_neg g];have:m=1:=by omega
   subst this;exact vj (ay n) h hp #[2] (Fal.up (ay _) (fun i j a b=>by
    have:i=j:=by omega
    subst this;exact jQ.refl _) (jQ.of_lt Y))
theorem xk(hp:Pm n p)(hk:k<n)(hs:Srt r p k)(h:∀l,l<=k->(∀i,i<l->jQ (Rk r p i) (Rk r p k))->(∀i,l<=i->i<k->lexLt (Rk r p k) (Rk r p i)=true)->Q l) :
  ∀(f l q:Nat),l<=q->q<=k->q-l<=f->(∀i,i<l->jQ (Rk r p i) (Rk r p k))->(∀i,q<=i->i<k->lexLt (Rk r p k) (Rk r p i)=true)->KR r n (kas_place p k f l q) Q
 |0,l,q,a,b,c,lo,hi=>by
  have:l=q:=by omega
  subst this;exact h l b lo hi
 |f+1,l,q,a,b,c,lo,hi=>by
  unfold kas_place
  by_cases d:l≥q
  ·rw[if_pos d];have:l=q:=by omega
   subst this;exact h l b lo hi
  ·rw[if_neg d];refine{hp.two hk #[2] #[2],?_}
   cases e:lexLt (r (p.getD k 0)) (r (p.getD ((l+q)/2) 0)) with
   |true=>
    refine Mu ?_;exact xk hp hk hs h f l _ #[2] #[2] #[2] lo fun i h1 h2=>IY e (hs _ _ h1 h2)
   |false=>
    refine Mv ?_;exact xk hp hk hs h f _ q #[2] #[2] #[2] (fun i h1=>(hs i ((l+q)/2) #[2] #[2]).trans e) hi
theorem Jb(h:∀p,Pm n p->Srt r p n->Q p):∀(f:Nat) (p:Array Nat) (k:Nat),Pm n p->k+f=n->Srt r p k->KR r n (kas_bin f p k) Q
 |0,p,k,hp,Y,hs=>h p hp (by rw[<- Y];exact hs)
 |f+1,p,k,hp,Y,hs=>by
  unfold kas_bin;refine KR.bind (xk hp #[2] hs (fun l U lo hi=>?_) k 0 k (aW _) (ay _) #[2] (fun i h=>absurd h #[2]) (fun i a b=>absurd b #[2]));refine Jb h f _ (k+1) (hp.bub _ _) #[2] fun i j W V=>?_;have Z:k<p.size:=by rw[hp.size];omega
  rw[I9 Z #[2],I9 Z #[2],show k-(k-l)=l by omega]
  repeat' split
  all_goals first
   |(exfalso;omega)
   |exact jQ.refl _
   |exact lo _ #[2]
   |exact jQ.of_lt (hi _ #[2] #[2])
   |exact hs _ _ #[2] #[2]
theorem Mw(h1:1<=n):KR r n (kas_sort n) (fun p=>Pm n p/\Srt r p n):=by
 unfold kas_sort;refine KR.bind (Ja (fun m p hp Z Y hs=>?_) (Array.Perm.refl _) h1);dsimp only
 by_cases c:m<n
 ·rw[if_pos c];refine Jb (fun p hp hs=>⟨hp,hs⟩) _ p (max m 1) hp #[2] ?_;rw[show max m 1=m by omega];exact hs
 ·rw[if_neg c];have:m=n:=by omega
  subst this;exact⟨hp,hs⟩
end
end L2
namespace L2
open PySem PySem.W PySem.Spec PyProof.Rows HT
section
variable{prog:aI}{w:aY}{A:bJ}{E:af->ai->Prop}{s:ai}
theorem vF{h0:cb}{r:Nat->List Int}(I:s.heap.get? a=Z8 (dH "list" vs.toArray n))(k0:∀c o,h0.get? c=Z8 o->s.heap.get? c=Z8 o)(bo:h0.get? a=Z7)(h2:2<=vs.length)(J:vs.length<64)
  (hk:∀h':cb,(∀c o,h0.get? c=Z8 o->h'.get? c=Z8 o)->∀Q:SortKind->ai->Prop,Q (B8 false) {s with heap:=h'}->aP (aS prog w) A (keyKind' vs.toArray) Q E {s with heap:=h'})
  (hc:∀h':cb,(∀c o,h0.get? c=Z8 o->h'.get? c=Z8 o)->∀i j (C:Bool->ai->Prop),i<vs.length->j<vs.length->i≠j->C (lexLt (r i) (r j)) {s with heap:=h'}->kas_ask prog w A (B8 false) (mR b vs) i j C {s with heap:=h'})
  (h:∀p,Pm vs.length p->Srt r p vs.length->P (.done (.ret .none)) {s with heap:=sortedHeap s.heap a vs (qh (mR b (p.toList.map fun i=>(mR b vs).getD i Value.none)))}) :
  aP (aS prog w) A (eK.«list.sort» ⟨[.ref a],[(gy "reverse",.bool b)]⟩) P E s:=by
 rw[list_sort_rev];have ha:a<s.heap.objs.size:=aO I;refine aa (listItems_at I rfl ?_);refine aa (wg I rfl ?_);obtain⟨D,U⟩:∃D,(s.heap.update a (cN fun _=>#[])).get? a=Z8 (dH "list" #[] D):=⟨_,get?_update_seq I (fun _=>#[])⟩;refine aa (AR U rfl ?_);refine aa (C5 ?_);refine aa (nv ?_);refine cU ?_;have M:(#[8].push (dH "list" #[] 0)).get? a=Z8 (dH "list" #[] D):=by
  rw[gG _ _ _ (by rw[xj,hZ];exact aM (dY ha)),gG _ _ _ (by rw[hZ];exact aM ha)];exact U
 have Y:∀c o,h0.get? c=Z8 o->(#[8].push (dH "list" #[] 0)).get? c=Z8 o:=fun c o e=>by
  have lt:c<s.heap.objs.size:=aO (k0 c o e);have ne:c≠a:=fun z=>by
   rw[z,bo]at e
   cases e
  rw[gG _ _ _ (by rw[xj,hZ];exact aM (dY lt)),gG _ _ _ (by rw[hZ];exact aM lt),Gh _ _ _ _ ne];exact k0 c o e
 show aP (aS prog w) A _ P E {s with heap:=#[8].push (dH "list" #[] 0)};dsimp only;have step:∀t:Sem Fin,aP (aS prog w) A t P E {s with heap:=#[8].push (dH "list" #[] 0)} ->
   aP (aS prog w) A (if b=true then (do let _ <- HX "list.sort.reverse";t) else t) P E {s with heap:=#[8].push (dH "list" #[] 0)}:=by
  intro t ht
  split
  ·exact aa (pB ht)
  ·exact ht
 refine step _ ?_;have V:¬vs.toArray.size<2:=by
  rw[aH];omega
 rw[if_neg V,if_neg V];refine aa (hk _ Y _ ?_);rw[kat_pairs b rfl];have el:=kat_len b vs;refine aa (eQ (kat_run (ks:=mR b vs) (vs:=mR b vs) (κ:=B8 false) (Q:=fun Z s'=>∃p:Array Nat,arrOf Z=p.map (kas_item ((mR b vs).toArray.zip (mR b vs).toArray))/\failedOf Z=Z7/\s'={s with heap:=#[8].push (dH "list" #[] 0)}/\Pm vs.length p/\Srt r p vs.length) (G:=fun p s'=>s'={s with heap:=#[8].push (dH "list" #[] 0)}/\Pm vs.length p/\Srt r p vs.length) rfl (by rw[el];exact h2) (by rw[el];exact J) (fun p Z s' hp W g hg=>⟨p,W,g,hg⟩) (by
  rw[el];exact KR.sound (hc _ Y) (Mw #[2]))) ?_ fun _ _ e=>e)
 rintro⟨⟨⟩,Z⟩ s' ⟨p,W,g,rfl,O,bn⟩;dsimp only;have out:=kat_snds (ks:=mR b vs) (vs:=mR b vs) rfl W;refine aa (AR M rfl ?_);rw[out,kat_outs];have lp:(mR b (p.toList.map fun i=>(mR b vs).getD i Value.none)).length<64:=by
  rw[kat_len,ah,bZ,O.size];exact J
 refine aa (wg M rfl ?_ (hsz2:=by rw[aH,nA];omega));rw[g];simp only[bne_self_eq_false,jf,if_false];exact ax (h p O bn)
theorem sorted_N{r:Nat->List Int}(O:s.heap.IsList l vs.toArray)(h2:2<=vs.length)(W:vs.length<64)
  (hk:∀(Y:bJ) (E:af->ai->Prop) (h':cb),Y.units<=A.units+2->(∀c o,s.heap.get? c=Z8 o->h'.get? c=Z8 o)->∀Q:SortKind->ai->Prop,Q (B8 false) {s with heap:=h'}->aP (aS prog w) Y (keyKind' vs.toArray) Q E {s with heap:=h'})
  (hc:∀(Y:bJ) (h':cb),Y.units<=A.units+2->(∀c o,s.heap.get? c=Z8 o->h'.get? c=Z8 o)->∀i j (C:Bool->ai->Prop),i<vs.length->j<vs.length->i≠j->C (lexLt (r i) (r j)) {s with heap:=h'}->kas_ask prog w Y (B8 false) (mR b vs) i j C {s with heap:=h'})
  (h:∀p,Pm vs.length p->Srt r p vs.length->Q (.ref (s.heap.objs.size+1)) {s with heap:=HC s.heap vs (qh (mR b (p.toList.map fun i=>(mR b vs).getD i Value.none)))}) :
  aP (aS prog w) A (vz (.builtin "sorted") [.ref l] [(gy "reverse",.bool b)]) Q E s:=by
 refine IX AS yj yk (args_sorted_rev _ _) ?_;unfold eK.«sorted»;refine aa (m:=C7 "sorted" 1 1 _) (ax ?_);refine aa (collect_list O ?_);refine aa (nv ?_);have hsz:((s.heap.push (dH "list" #[] 0)).update s.heap.objs.size (cN (·++vs.toArray))).objs.size=s.heap.objs.size+1:=by
  rw[hZ,xj]
 have Z:(((s.heap.push (dH "list" #[] 0)).update s.heap.objs.size (cN (·++vs.toArray))).push (dH "list" vs.toArray 0)).get? (s.heap.objs.size+1)=Z8 (dH "list" vs.toArray 0):=by
  rw[<- hsz];exact aU _ rfl
 have k0:∀c o,s.heap.get? c=Z8 o->(((s.heap.push (dH "list" #[] 0)).update s.heap.objs.size (cN (·++vs.toArray))).push (dH "list" vs.toArray 0)).get? c=Z8 o:=fun c o e=>by
  have lt:c<s.heap.objs.size:=aO e;rw[gG _ _ _ (by rw[hsz];exact aM (dY lt)),Gh _ _ _ _ (aM lt),gG _ _ _ (aM lt)];exact e
 have U:s.heap.get? (s.heap.objs.size+1)=Z7:=by
  cases e:s.heap.get? (s.heap.objs.size+1) with
  |none=>rfl
  |some o=>
   have:=aO e;exact absurd this (Nat.not_lt.mpr (eD _))
 show aP _ _ _ _ _ {s with heap:=((s.heap.push (dH "list" #[] 0)).update s.heap.objs.size (cN (·++vs.toArray))).push (dH "list" vs.toArray 0)};rw[hsz];refine aa (cU (OE uD {_,Z,Z9} sX (vF (h0:=s.heap) (r:=r) Z k0 U h2 W (fun h' k Q q=>hk _ _ h' (ay _) k Q q) (fun h' k i j C hi V ne q=>hc _ h' (ay _) k i j C hi V ne q) fun p a1 a2=>{_,Z9,?_}) (Qp _ _)));exact ax {_,Z9,h p a1 a2}
end
def Da(H:Hp)(z:V×List Int):Prop:=∃a k Z,z.1=.ref a/\H a=Z8 (.tup (.ref k::Z))/\H k=Z8 (.tup (z.2.map V.int))
theorem uF:∀{xs:List V} {Z:List af},cW xs Z->∀(i:Nat),i<xs.length->∃v,Z.getD i Value.none=v/\∃x,xs[i]?=Z8 x/\RelV x v
 |_,_,.nil,i,h=>absurd h #[5]
 |_,_,.cons a b,0,h=>{_,Z9,_,Z9,a}
 |_,_,.cons a b,i+1,h=>by
  obtain⟨v,e,x,h1,h2⟩:=uF b i (by simpa using h);exact{v,by simpa using e,x,by simpa using h1,h2}
theorem yW(h:cW xs Z)(d:V):∀(is:List Nat),(∀i∈is,i<xs.length)->cW (is.map fun i=>(xs.getD i d)) (is.map fun i=>Z.getD i Value.none)
 | [],_=>.nil
 |i::is,hb=>by
  obtain⟨v,e,x,h1,h2⟩:=uF h i (hb i aB);refine .cons ?_ (yW h d is fun j Y=>hb j (aj _ Y));show RelV (xs.getD i d) (Z.getD i Value.none);rw[e,cG,h1];exact h2
theorem Dc{α:Type}(l:List α)(d:α):(gK l.length).map (fun i=>l.getD i d)=l:=by
 apply oM;intro i;rw[bT]
 by_cases h:i<l.length
 ·rw[List.getElem?_range h,kd,cG,aw h];rfl
 ·rw[dB (by simpa using h),dB #[2]];rfl
def p7:V×List Int:=(.non,[])
theorem Jc(M:(zs.map (·.2)).Nodup)(hp:Pm zs.length p)(hs:Srt (fun i=>(zs.reverse.getD i p7).2) p zs.length) :
  ((p.toList.map fun i=>zs.reverse.getD i p7).reverse).Perm zs/\((p.toList.map fun i=>zs.reverse.getD i p7).reverse).Pairwise (fun a b=>HT.lexLt b.2 a.2=true):=by
 have pl:p.toList.Perm (gK zs.length):=by simpa using jR.mp hp
 have Y:(p.toList.map fun i=>zs.reverse.getD i p7).Perm zs:=by
  refine (pl.map _).trans ?_;have e:=Dc zs.reverse p7;rw[j7]at e;rw[e];exact vk _
 refine{(vk _).trans Y,List.pairwise_reverse.mpr (cT.mpr fun i j hi U Z=>?_)};have W:((p.toList.map fun i=>zs.reverse.getD i p7).map (·.2)).Nodup:=(Y.map _).nodup_iff.mpr M;have J:i<zs.length:=by
  have:=Y.length_eq;omega
 have O:j<zs.length:=by
  have:=Y.length_eq;omega
 have at_:∀k (h:k<(p.toList.map fun i=>zs.reverse.getD i p7).length),(p.toList.map fun i=>zs.reverse.getD i p7)[k].2=Rk (fun i=>(zs.reverse.getD i p7).2) p k:=fun k h=>by
  have hk:k<p.size:=by simpa using h
  unfold Rk;simp[iL,hk]
 have le:=hs i j (ny Z) O;have ne:=cT.mp W i j (by simpa using hi) (by simpa using U) Z;rw[at_ i hi,at_ j U];refine lx_of_not le fun z=>ne ((j2 _).trans (Eq.trans ?_ (j2 _).symm));rw[at_ i hi,at_ j U];exact z.symm
section
variable{X:Cx}{e:cK}{t:TA}{p pos kp bp:Pos}{j:Nat}
def Qt(t:TA):TE:=fun σ H Q=>t σ H fun vs H1=>∃(p:ae) (zs:List (V×List Int)),vs=[.ref p]/\H1 p=Z8 (.lst (zs.map (·.1)))/\(∀z∈zs,Da H1 z)/\(zs.map (·.2)).Nodup/\zs.length<64 /\
 ∀(l:ae) (Z:List (V×List Int)),H1 l=Z7->Z.Perm zs->Z.Pairwise (fun a b=>HT.lexLt b.2 a.2=true)->Q (.ref l) (upd H1 l (.lst (Z.map (·.1))))
theorem yX{s:ai}(ok:HOk P w H s.heap):∀{zs:List (V×List Int)} {Z:List af},cW (zs.map (·.1)) Z->(∀z∈zs,Da H z)->∃fs,KatTups s.heap Z fs/\fs.length=Z.length/\∀f∈fs,∃k o,f=.ref k/\s.heap.get? k=Z8 o/\o.cls=.type "tuple"
 | [],_,r,_=>by
  cases r;exact{[],KatTups.nil,Z9,fun f Y=>by cases Y}
 |z::zs,_,r,hz=>by
  cases r with
  |cons a b=>
   obtain⟨fs,h1,h2,D⟩:=yX ok b fun z W=>hz z (aj _ W);obtain⟨ad,k,ra,I,J,e3⟩:=hz z aB;have a:RelV z.1 _:=a;rw[I]at a
   cases a;obtain⟨us,r1,o1,U,M,n1,d1⟩:=i9 ok J;obtain⟨ws,r2,O,g,t,n2,d2⟩:=i9 ok e3
   cases r1 with
   |cons a1 b1=>
    cases a1;refine{.ref k::fs,KatTups.cons U M d1 rfl h1,by rw[aX,aX,h2],fun f Y=>?_}
    rcases aq.mp Y with y|y
    ·exact⟨k,O,y,g,t⟩
    ·exact D f y
theorem Jd{ke:cK}(hu:X.A.units+5<dM)(hg:Gl X "sorted")(hm:X.mg "sorted"=Z7)(ha:PA X [e] t)(hk:PE X ke (tC (.bl true)))(he:jZ pos (cz [e] X.env)=[(false,fY e X.env)]:=by rfl)
  (eh:(px pos (j9 [{Z8 "reverse",ke,kp}] X.env)).all (·.1.isSome)=true:=by rfl) (eg:(px pos (j9 [{Z8 "reverse",ke,kp}] X.env)).any (·.1.isNone)=false:=by rfl)
  (ed:(px pos (j9 [{Z8 "reverse",ke,kp}] X.env)).filterMap (·.1)=[gy "reverse"]:=by rfl) :
  PE X (.Call (.Name "sorted" p) [e] [{Z8 "reverse",ke,kp}] pos) (Qt t):=by
 intro pins s σ H Q I h;refine jE (rX I hg hm boot_sorted ?_);refine callWith_kw (thn (ha pos pins s σ H _ I h) fun us s1 ⟨vs,H1,I1,r1,q1⟩=>?_) (by rw[he];rfl) (by rw[he];rfl) eh eg;obtain⟨l,zs,rfl,hl,hz,nd,dG,q⟩:=q1;obtain⟨u,rfl,ru⟩:=vals1 r1
 cases ru;refine kws_cons (thn (hk pins s1 σ H1 (fun v H2=>v=.bl true/\H2=H1) I1 (show _/\_ from⟨Z9,Z9⟩)) fun v s2 ee=>kws_nil ?_);obtain⟨y,H2,U,r2,e1,e2⟩:=ee;subst e1 e2
 cases r2;rw[ed];obtain⟨Z,n,D,ho,ea⟩:=U.lst hl;have Y:=D.length;rw[ah]at Y;show aP _ _ (vz (.builtin "sorted") [.ref l] [(gy "reverse",.bool true)]) _ _ _
 by_cases c:Z.length<2
 ·refine C6 (l:=l) (vs:=Z) {_,ho,Z9,n,Z9} c ?_;obtain⟨ep,O⟩:=sortedAll_at s2.heap Z Z.toArray;have two:2<=aD:=by decide
  have z:=U.laid (a:=s2.heap.objs.size+1) (o:=.lst (zs.map (·.1))) (t':=s2.toks) (fun _ _=>sortedAll_old) (eD _) (h':=HC s2.heap Z Z.toArray) {by rw[ah];omega,Z,ep,D,O};refine{.ref (s2.heap.objs.size+1),_,z,Z9,q _ zs (U.hok.fresh (eD _)) (kn _) ?_}
  match zs,Y with
  | [],_=>exact List.Pairwise.nil
  | [_],_=>exact eG _ _
  |_::_::_,Y=>exact absurd c (by rw[<- Y];simp)
 ·have eb:∀{α:Type} (l:List α),mR true l=l.reverse:=fun l=>rfl;refine sorted_N (l:=l) (vs:=Z) (r:=fun i=>(zs.reverse.getD i p7).2) {_,ho,Z9,n,Z9} #[2] #[2] (fun A' E' h' hA k Q' q'=>?_) (fun A' h' hA k i j C hi hj ne q'=>?_) fun p hp hs=>?_
  ·have M:=(U.kept (t':=s2.toks) k).hok;obtain⟨fs,h1,h2,h3⟩:=yX (s:={s2 with heap:=h'}) M D hz;refine kat_kind (T:=.type "tuple") h1 #[2] (fun v hv=>?_) #[7] ?_
   ·obtain⟨kk,o,rfl,g,cl⟩:=h3 v hv;rw[<- cl];exact (Looks.ld g).andThen .now
   ·exact q'
  ·have M:=(U.kept (t':=s2.toks) k).hok;have vr:=D.reverse;rw[<- wx]at vr;have at_:∀m,m<Z.length->∃(a kk:ae) (us ws:List af),Z.reverse.getD m Value.none=.ref a/\uk h' a (.ref kk::us).toArray/\uk h' kk ws.toArray/\dQ ws (zs.reverse.getD m p7).2/\H2 kk=Z8 (.tup ((zs.reverse.getD m p7).2.map V.int)):=fun m hm=>by
    have W:m<zs.reverse.length:=by rw[j7];omega
    obtain⟨v,ev,x,hx,rx⟩:=uF vr m (by rw[ah];exact W);rw[bT,aw W]at hx
    cases hx;have ez:zs.reverse.getD m p7=zs.reverse[m]:=by rw[cG,aw W];rfl
    obtain⟨ad,kk,ra,e1,e2,e3⟩:=hz _ (List.mem_reverse.mp (lO W));have rx:RelV (zs.reverse[m]).1 v:=rx;rw[e1]at rx
    cases rx;obtain⟨us,r1,t1⟩:=i9 (s:={s2 with heap:=h'}) M e2;obtain⟨ws,r2,t2⟩:=i9 (s:={s2 with heap:=h'}) M e3
    cases r1 with
    |cons a1 b1=>
     cases a1;exact{ad,kk,_,ws,ev,t1,t2,by rw[ez];exact intsAre_of r2,by rw[ez];exact e3}
   obtain⟨a1,k1,dV,dw,g1,t1,u1,i1,m1⟩:=at_ i hi;obtain⟨a2,k2,dL,dz,g2,t2,u2,i2,m2⟩:=at_ j hj;have ec:(zs.reverse.getD i p7).2≠(zs.reverse.getD j p7).2:=by
    have J:((zs.reverse).map (·.2)).Nodup:=((vk zs).map _).nodup_iff.mpr nd;have h1:i<zs.reverse.length:=by rw[j7];omega
    have h2:j<zs.reverse.length:=by rw[j7];omega
    rw[cG,aw h1,cG,aw h2];show (zs.reverse[i]).2≠(zs.reverse[j]).2
    rcases IZ ne with c|c
    ·exact fun z=>cT.mp J i j (by simpa using h1) (by simpa using h2) c ((j2 _).trans (z.trans (j2 _).symm))
    ·exact fun z=>cT.mp J j i (by simpa using h2) (by simpa using h1) c ((j2 _).trans (z.symm.trans (j2 _).symm))
   have eq:=yU (s:={s2 with heap:=h'}) (A:=A') M #[2] m1 m2;rw[decide_eq_false ec]at eq;show aP _ A' (keyLt' (B8 false) (Z.reverse.getD i Value.none) (Z.reverse.getD j Value.none)) C _ _;rw[g1,g2];obtain⟨o1,y1,_,n1,d1⟩:=id t1;obtain⟨o2,y2,_,n2,d2⟩:=id t2;refine kat_lt (s:={s2 with heap:=h'}) y1 d1 y2 d2 (kat_cons (eq _ _ _ _ (kat_no (kat_one _ _ (HT.lt_tupInts u1 u2 i1 i2 #[2] q')))))
  ·have ei:Pm zs.length p:=by rw[Y];exact hp
   obtain⟨ej,ef⟩:=Jc nd ei (by rw[Y];exact hs);have vr:=D.reverse;rw[<- wx]at vr;have vo:=(yW vr V.non p.toList fun i hi=>by
    rw[ah,j7];have:=(jR.mp ei).mem_iff.mp hi;simpa using this).reverse
   have ev:(p.toList.map fun i=>(zs.reverse.map (·.1)).getD i V.non).reverse=((p.toList.map fun i=>zs.reverse.getD i p7).reverse).map (·.1):=by
    refine Eq.trans ?_ wx.symm;rw[dC]
    congr 1
    refine gR fun i _=>?_;show (zs.reverse.map (·.1)).getD i V.non=(zs.reverse.getD i p7).1;rw[cG,bT,cG]
    cases zs.reverse[i]?<;>rfl
   rw[ev]at vo;obtain⟨ep,O⟩:=sortedAll_at s2.heap Z (qh (p.toList.map fun i=>Z.reverse.getD i Value.none).reverse);have z:=U.laid (a:=s2.heap.objs.size+1) (o:=.lst (((p.toList.map fun i=>zs.reverse.getD i p7).reverse).map (·.1))) (t':=s2.toks) (fun _ _=>sortedAll_old) (eD _) (h':=HC s2.heap Z (qh (p.toList.map fun i=>Z.reverse.getD i Value.none).reverse)) ⟨by
    rw[ah,ej.length_eq];have:64<=aD:=by decide
    omega,_,ep,vo,O⟩
   exact{.ref (s2.heap.objs.size+1),_,z,Z9,q _ _ (U.hok.fresh (eD _)) ej ef}
end
end L2
namespace PySem
open SeqAt MeetsSeq MeetsSeq2 MeetsSeq3 SeqRoads2
section
variable{prog:aI}{w:aY}{A:bJ}{s:ai}
variable{K:Type}[DecidableEq K]{knd:KeyKind prog w K}
end
end PySem
namespace L2
open PySem PySem.Spec PyProof.Rows PySem.SeqAt
section
variable{X:Cx}
end
end L2
namespace L2
open PySem PySem.Spec PyProof.Rows
section
variable{X:Cx}
theorem z8(hu:X.A.units+50<dM):OpR X (eB .NotEq) (fun x y H Q=>∃p q xs,x=.ref p/\y=.ref q/\H p=Z8 (.lst xs)/\H q=Z8 (.lst [])/\Q (.bl (!xs.isEmpty)) H):=by
 intro pins s σ H x y v u Q I Y Z h;obtain⟨p,q,xs,rfl,rfl,h1,h2,k⟩:=h
 cases xs with
 |nil=>exact IR hu pins s σ H _ _ v u Q I Y Z {1,p,q,by omega,Z9,Z9,.inr (.inl {p,q,[],[],Z9,Z9,h1,h2,.nil}),k}
 |cons a xs=>
  cases Y
  cases Z;obtain⟨us,O,M⟩:=fV I.hok h1;obtain⟨vs,W,V⟩:=fV I.hok h2
  cases W;have U:=O.length;exact SeqAt.RcNeAt.lists_lengths M V (by
   cases us with
   |nil=>cases U
   |cons b us=>simp) #[2] X.prog X.w _ _ {.bl true,H,I,Z9,k}
end
section
variable{X:Cx}
end
theorem Je{g:TG}{tc:TT}{te:TE}{σ:St}{Q:VK}(Y:Nat->List V->Hp->Prop)(h0:Y 0 [] H)(t:∀i ys H,i<=m->Y i ys H->ys.length<aD)
  (hs:∀i ys H,i<m->Y i ys H->g (.int (0+i)) (cy n Z7++σ) H fun Z H2=>Z.drop n=σ/\tc Z H2 fun b M=>if b=true then te Z M fun y J=>Y (i+1) (ys++[y]) J else Y (i+1) ys M)
  (z:∀ys H,Y m ys H->∀p,H p=Z7->Q (.ref p) (upd H p (.lst ys))) :
  ∃W:Nat->Nat->List V->Hp->Prop,(∃k,W 0 k [] H)/\∀i k ys H,W i k ys H->ys.length<aD/\(((Itr 0 m).stop i H/\∀p,H p=Z7->Q (.ref p) (upd H p (.lst ys))) \/
   ((Itr 0 m).go i H/\∃N:List V->Hp->Prop,(∀U H',N U H'->∃I,I<k/\W (i+1) I U H')/\∀x H',(Itr 0 m).yld i H x H'->g x (cy n Z7++σ) H' fun Z H2=>Z.drop n=σ/\tc Z H2 fun b M=>
    if b=true then te Z M fun y J=>N (ys++[y]) J else N ys M)):=by
 refine{fun i k ys H=>k=m-i/\i<=m/\Y i ys H,{m,by simp,aW _,h0},?_};rintro i k ys H ⟨rfl,hi,O⟩;refine{t i ys H hi O,?_}
 by_cases lt:i<m
 ·refine .inr {lt,Y (i+1),fun U H' D=>{m-(i+1),by omega,Z9,lt,D},fun x H' y=>?_};obtain⟨e,y⟩:=y;subst e y;exact hs i ys _ lt O
 ·have e:i=m:=by omega
  subst e;exact .inl {ay _,z ys H O}
end L2
namespace My
open PySem L2
def top(i:Nat):df:=PySem.Challenge.pw_momentloom_k53_whole_reasons_of_beginnin.main.body.getD i (.Pass {0,0,0,0})
abbrev oA:df:=hW (top 3) 0
abbrev pC:df:=hW (top 4) 0
abbrev qI:df:=hW (top 5) 0
abbrev sO:df:=hW (top 6) 0
abbrev qJ:df:=hW (top 7) 0
abbrev qK:df:=hW (top 8) 0
abbrev mT:df:=top 10
abbrev gT:df:=top 11
abbrev ir:df:=top 12
abbrev eI:df:=top 13
abbrev pE:df:=hW (top 15) 0
abbrev kl:df:=hW (top 15) 1
abbrev fv:df:=hW (top 15) 2
abbrev e8:df:=hW (top 15) 3
abbrev iy:df:=hW (top 15) 4
abbrev z9:df:=top 16
abbrev mU:df:=top 17
abbrev jc:df:=top 18
abbrev oa:df:=top 19
abbrev jI:df:=top 20
abbrev oN:df:=top 21
abbrev oO:df:=top 22
abbrev oP:df:=top 23
abbrev oQ:df:=top 24
abbrev oR:df:=top 25
abbrev oS:df:=top 27
abbrev pF:df:=hW (top 28) 0
abbrev kE:df:=hW (top 29) 0
abbrev kF:df:=hW (top 29) 1
abbrev j4:df:=top 30
abbrev pH:df:=top 32
abbrev rg:df:=top 33
abbrev jJ:df:=top 34
abbrev jK:df:=top 35
abbrev iz:df:=top 36
abbrev mV:df:=top 37
abbrev jg:df:=top 38
abbrev iA:df:=top 39
abbrev pI:df:=top 41
abbrev tQ:df:=top 42
abbrev qL:df:=hW (top 44) 0
abbrev hJ:df:=top 45
abbrev oB:df:=hW (top 46) 0
abbrev gH:df:=hW (top 46) 2
abbrev jd:df:=hW (top 46) 3
abbrev iB:df:=top 47
abbrev tR:df:=top 48
abbrev wy:df:=top 49
abbrev og:df:=top 51
abbrev oh:df:=top 52
abbrev eS:df:=top 53
abbrev fX:df:=top 54
abbrev iH:df:=top 55
abbrev km:df:=top 56
abbrev mX:df:=top 57
abbrev mY:df:=top 58
abbrev pJ:df:=top 59
abbrev lH:df:=top 60
abbrev iT:df:=top 61
abbrev mZ:df:=top 62
abbrev lI:df:=top 63
abbrev Jf:df:=top 64
structure Df(K:ag)(mg:Str->Option af)(x:Str)(st:df)(ps:List Str)(f:ae)(fd:bY):Prop where
 F:Fun K x x st f fd
 b:Binds K fd ps []
 m:mg x=Z8 (.ref f)
theorem pcl{X:Cx}{k:Nat}{x:Str}{st:df}{ps:List Str}{f:ae}{fd:bY}{sp:Sp}{e:cK}{es:List cK}{t:TA}{p pos:Pos}(F:bN X.prog X.w X.K X.mg X.base CX0 k f fd ps sp)(V:dJ k X.A)(D:Df X.K X.mg x st ps f fd)(ha:PA X (e::es) t)(U:Gl X x:=by rfl)
  (Y:(x==("__debug__":Str))=false:=by decide) (W:cz (e::es) X.env=(false,fY e X.env)::cz es X.env:=by rfl) (Z:(jZ pos (cz es X.env)).any (·.1)=false:=by rfl):PE X (.Call (.Name x p) (e::es) [] pos) (On sp [] E0 t):=gO F V U D.m D.F.kp D.b .nil jV ha Y W Z
structure Bl(mg:Str->Option af):Prop where
 len:mg "len"=Z7
 abs:mg "abs"=Z7
 isi:mg "isinstance"=Z7
 list:mg "list"=Z7
 tuple:mg "tuple"=Z7
 str:mg "str"=Z7
 int:mg "int"=Z7
 bool:mg "bool"=Z7
 range:mg "range"=Z7
 max:mg "max"=Z7
 dict:mg "dict"=Z7
theorem boot_abs:eV "abs"=Z8 (.builtin "abs"):=by decide +kernel
theorem tS:eV "isinstance"=Z8 (.builtin "isinstance"):=by decide +kernel
theorem boot_list:eV "list"=Z8 (.type "list"):=by decide +kernel
theorem boot_tuple:eV "tuple"=Z8 (.type "tuple"):=by decide +kernel
theorem boot_int:eV "int"=Z8 (.type "int"):=by decide +kernel
theorem boot_max:eV "max"=Z8 (.builtin "max"):=by decide +kernel
theorem boot_dict:eV "dict"=Z8 (.type "dict"):=by decide +kernel
theorem cxA:(rE CX P w K mg base N q sc f Z A o s H E).K=K:=rfl
theorem cxB:(rE CX P w K mg base N q sc f Z A o s H E).nox.K=K:=rfl
def But(p:ae)(H H':Hp):Prop:=∀b o,H b=Z8 o->b≠p->H' b=Z8 o
theorem But.refl(p:ae)(H:Hp):But p H H:=fun _ _ e _=>e
theorem But.trans(a:But p H H1)(b:But p H1 H2):But p H H2:=fun c o e n=>b c o (a c o e n) n
theorem But.upd(p:ae)(H:Hp)(o:HO):But p H (upd H p o):=fun b u e n=>by rw[aQ n];exact e
theorem But.same(a:But p H H1)(b:bj H1 H2):But p H H2:=fun c o e n=>b c o (a c o e n)
theorem aG(h:H p=Z7)(o:HO):bj H (upd H p o):=fun b u q=>by rw[aQ (aJ q h)];exact q
theorem lJ{c:Prop}[Decidable c](h:decide c=true):c:=of_decide_eq_true h
theorem lY{c:Prop}[Decidable c](h:¬decide c=true):¬c:=fun z=>h (decide_eq_true z)
theorem lt2:2<=aD:=by decide
theorem lt5:5<=aD:=by decide
def De:V->Prop
 |.int _=>True
 |.str _=>True
 |_=>False
def Tree(H:Hp):Nat->V->Prop
 |0,v=>De v
 |n+1,v=>De v\/∃p xs,v=.ref p/\(H p=Z8 (.lst xs)\/H p=Z8 (.tup xs))/\xs.length<1000/\∀x∈xs,Tree H n x
def Alike(H H':Hp):Nat->V->V->Prop
 |0,v,Z=>Z=v
 |n+1,v,Z=>(De v/\Z=v)\/(∃p Y xs ys,v=.ref p/\Z=.ref Y/\H p=Z8 (.lst xs)/\H' Y=Z8 (.lst ys)/\aN (Alike H H' n) xs ys) \/
   ∃p Y xs ys,v=.ref p/\Z=.ref Y/\H p=Z8 (.tup xs)/\H' Y=Z8 (.tup ys)/\aN (Alike H H' n) xs ys
theorem Alike.mono(s:bj H1 H2):∀{n:Nat} {v Z:V},Alike H H1 n v Z->Alike H H2 n v Z
 |0,_,_,h=>h
 |n+1,v,Z,h=>by
  rcases h with h|⟨p,Y,xs,ys,W,U,h1,h2,r⟩|⟨p,Y,xs,ys,W,U,h1,h2,r⟩
  ·exact .inl h
  ·exact .inr (.inl {p,Y,xs,ys,W,U,h1,s _ _ h2,L2.Paired.imp' (fun _ _ z=>Alike.mono s z) r})
  ·exact .inr (.inr {p,Y,xs,ys,W,U,h1,s _ _ h2,L2.Paired.imp' (fun _ _ z=>Alike.mono s z) r})
theorem Tree.same(s:bj H H1):∀{n:Nat} {v:V},Tree H n v->Tree H1 n v
 |0,_,h=>h
 |n+1,v,h=>by
  rcases h with h|⟨p,xs,e,h1,h2,Z⟩
  ·exact .inl h
  ·exact .inr {p,xs,e,h1.imp (s _ _) (s _ _),h2,fun x hx=>Tree.same s (Z x hx)}
theorem Alike.from(s:bj H H0):∀{n:Nat} {v M:V},Tree H n v->Alike H0 H1 n v M->Alike H H1 n v M
 |0,_,_,_,h=>h
 |n+1,v,M,t,h=>by
  rcases t with t|⟨q,zs,e,t1,J,U⟩
  ·rcases h with h|⟨p,Y,xs,ys,Z,W,h1,h2,r⟩|⟨p,Y,xs,ys,Z,W,h1,h2,r⟩
   ·exact .inl h
   ·rw[Z]at t;exact t.elim
   ·rw[Z]at t;exact t.elim
  ·rcases h with h|⟨p,Y,xs,ys,Z,W,h1,h2,r⟩|⟨p,Y,xs,ys,Z,W,h1,h2,r⟩
   ·exact .inl h
   ·rw[e]at Z
    cases Z
    rcases t1 with t1|t1
    ·have z:=s _ _ t1;rw[h1]at z
     cases z;refine .inr (.inl {q,Y,zs,ys,e,W,t1,h2,?_});clear h1 t1 J h2
     induction r with
     |nil=>exact .nil
     |cons a b O=>exact .cons (Alike.from s (U _ aB) a) (O fun x hx=>U x (aj _ hx))
    ·have z:=s _ _ t1;rw[h1]at z
     cases z
   ·rw[e]at Z
    cases Z
    rcases t1 with t1|t1
    ·have z:=s _ _ t1;rw[h1]at z
     cases z
    ·have z:=s _ _ t1;rw[h1]at z
     cases z;refine .inr (.inr {q,Y,zs,ys,e,W,t1,h2,?_});clear h1 t1 J h2
     induction r with
     |nil=>exact .nil
     |cons a b O=>exact .cons (Alike.from s (U _ aB) a) (O fun x hx=>U x (aj _ hx))
theorem Jg:gY K (.type "int") (.type "list")=Z8 false:=by kernel_rfl
theorem Jh:gY K (.type "str") (.type "list")=Z8 false:=by kernel_rfl
theorem Ji:gY K (.type "int") (.type "tuple")=Z8 false:=by kernel_rfl
theorem Jj:gY K (.type "str") (.type "tuple")=Z8 false:=by kernel_rfl
theorem Qu:gY K (.type "list") (.type "list")=Z8 true:=by rfl
theorem Qw:gY K (.type "tuple") (.type "list")=Z8 false:=by kernel_rfl
theorem Qx:gY K (.type "tuple") (.type "tuple")=Z8 true:=by rfl
def Nw(H G:Hp):Hp:=fun a=>if H a=Z7 then G a else Z7
theorem Br(n:H a=Z7):Nw H G a=G a:=if_pos n
theorem nw_le:bj (Nw H G) G:=fun a o e=>by
 unfold Nw at e
 by_cases c:H a=Z7
 ·rw[if_pos c]at e;exact e
 ·rw[if_neg c]at e
  cases e
theorem wz(s:bj G G'):bj (Nw H G) (Nw H G'):=fun a o e=>by
 by_cases c:H a=Z7
 ·rw[Br c]at e |-;exact s _ _ e
 ·unfold Nw at e;rw[if_neg c]at e
  cases e
theorem EH(d:∀a,H a=Z7->H0 a=Z7):bj (Nw H G) (Nw H0 G):=fun a o e=>by
 by_cases c:H a=Z7
 ·rw[Br c]at e;rw[Br (d a c)];exact e
 ·unfold Nw at e;rw[if_neg c]at e
  cases e
theorem tT(s:bj H G):∀a,G a=Z7->H a=Z7:=fun a n=>by
 cases z:H a with
 |none=>rfl
 |some o=>
  rw[s _ _ z]at n
  cases n
section
variable{P:aI}{w:aY}{K:ag}{mg:Str->Option af}{base:cb}{f fC fI CM CS:ae}{fd fdC fdI:bY}
def qM(n:Nat):Sp:=fun vs H Q _=>∃v,vs=[v]/\Tree H n v/\∀(Z:V) (H':Hp),bj H H'->Alike H (Nw H H') n v Z->Q Z H'
theorem scC:bM ["thing"] ["thing"] (aR oS):=e7
theorem EI:(["part","thing"]:List Str).Nodup:=by decide +kernel
theorem yY{α Z:Type}{R:α->Z->Prop}{xs:List α}{ys:List Z}{x:α}{y:Z}(r:aN R (xs.take i) ys)(hx:xs[i]?=Z8 x)(h:R x y):aN R (xs.take (i+1)) (ys++[y]):=by
 have e:xs.take (i+1)=xs.take i++[x]:=by rw[cm,hx];rfl
 rw[e];exact dy r h
theorem Bs(D:Df K mg "copied" oS ["thing"] f fd)(B:Bl mg)(G:bN P w K mg base CX0 (n+1) f fd ["thing"] (qM n)):bN P w K mg base CX0 (n+2) f fd ["thing"] (qM (n+1)):=by
 refine D.F.ok scC #[3] (fun I A outer s H vs Q E J h=>?_)
 ·obtain⟨v,rfl,_⟩:=h;rfl
 obtain⟨v,rfl,ht,q⟩:=h;refine⟨_,ar (cR (wN (cS n6 #[7] B.isi tS (av (pv 0) (av (vN (v:=.ty "list") #[7] B.list boot_list rfl) ao))))
   (aF (bQ (kZ ["part"] (iG.closed #[1] #[1] rfl #[1] (by intro n U;rcases aK.mp U with rfl;decide +kernel)) rfl (hV (pv 0)) (fun _ _ _ _=>iM (i:=0) EI rfl (Or.inl rfl)) (fun _ _ _ _=>jP)
    (fun _ _ _ _=>pcl G J D (av (pv 0) ao))))) b9)
  (ar (cR (wN (cS n6 #[7] B.isi tS (av (pv 0) (av (vN (v:=.ty "tuple") #[7] B.tuple boot_tuple rfl) ao))))
   (aF (bQ (iQ ye #[7] B.tuple boot_tuple (av (kZ ["part"] (iG.closed #[1] #[1] rfl #[1] (by intro n U;rcases aK.mp U with rfl;decide +kernel)) rfl (P0 (pv 0)) (fun _ _ _ _=>iM (i:=0) EI rfl (Or.inl rfl)) (fun _ _ _ _=>jP)
    (fun _ _ _ _=>pcl G J D (av (pv 0) ao))) ao)))) b9)
  (aF (bQ (pv 0)))),?_⟩
 dsimp only[cxA,cxB];have big:1000<aD:=by decide
 rcases ht with ht|⟨p,xs,rfl,hp,hl,hx⟩
 ·cases v with
  |int i=>
   refine{_,Z9,_,"list",_,false,Z9,.int i,Jg,_,Z9,gz ?_};refine{_,Z9,_,"tuple",_,false,Z9,.int i,Ji,_,Z9,gz ?_};exact{_,Z9,q _ _ (bj.refl H) (.inl ⟨trivial,Z9⟩)}
  |str x=>
   refine{_,Z9,_,"list",_,false,Z9,.str x,Jh,_,Z9,gz ?_};refine{_,Z9,_,"tuple",_,false,Z9,.str x,Jj,_,Z9,gz ?_};exact{_,Z9,q _ _ (bj.refl H) (.inl ⟨trivial,Z9⟩)}
  |non=>exact ht.elim
  |bl b=>exact ht.elim
  |byt b=>exact ht.elim
  |flt b=>exact ht.elim
  |ref a=>exact ht.elim
  |ty a=>exact ht.elim
 ·rcases hp with hp|hp
  ·refine{_,Z9,_,"list",_,true,Z9,.lst hp,Qu,_,Z9,iU ?_};refine{_,Z9,p,Z9,{_,SqL.of hp},yQ (K:=K) (a:=p) (xs:=xs) (fun i ys H1=>i<=xs.length/\ys.length=i/\bj H H1/\aN (Alike H (Nw H H1) n) (xs.take i) ys) {aW _,Z9,bj.refl H,.nil} ?_ ?_ ?_}
   ·rintro i ys H1 hi ⟨_,h1,h2,_⟩;exact{SqL.of (h2 _ _ hp),by omega}
   ·rintro i x ys H1 hi ⟨h0,h1,h2,Y⟩;have W:x∈xs:=bC hi;have lt:i<xs.length:=(aC.mp hi).1;refine{Z9,?_};unfold tM;refine iU ?_;refine{_,Z9,x,Z9,Tree.same h2 (hx x W),fun g H2 s2 O=>?_};exact{lt,by rw[au,h1];rfl,h2.trans s2,yY (L2.Paired.imp' (fun _ _ z=>Alike.mono (wz s2) z) Y) hi (Alike.mono (EH (tT h2)) (Alike.from h2 (hx x W) O))}
   ·rintro ys H1 ⟨_,h1,h2,Y⟩ l Z;rw[cu]at Y;refine q _ _ (h2.trans (aG Z _)) (.inr (.inl {p,l,xs,ys,Z9,Z9,hp,(by rw[Br (tT h2 _ Z)];exact ak),L2.Paired.imp' (fun _ _ z=>Alike.mono (wz (aG Z _)) z) Y}))
  ·refine{_,Z9,_,"list",_,false,Z9,.tup hp,Qw,_,Z9,gz ?_};refine{_,Z9,_,"tuple",_,true,Z9,.tup hp,Qx,_,Z9,iU ?_};refine{_,Z9,p,Z9,{_,SqT.of hp},IH (K:=K) (a:=p) (xs:=xs) (Q:=fun v H1=>∃z ys,[v]=[V.ref z]/\((SqL K H1 z ys/\∀l,H1 l=Z7->Q (.ref l) (upd H1 l (.tup ys)))\/(SqT K H1 z ys/\Q (.ref z) H1))) (fun i ys H1=>i<=xs.length/\ys.length=i/\bj H H1/\aN (Alike H (Nw H H1) n) (xs.take i) ys) {aW _,Z9,bj.refl H,.nil} ?_ ?_ ?_}
   ·rintro i ys H1 hi ⟨_,h1,h2,_⟩;exact{SqT.of (h2 _ _ hp),by omega}
   ·rintro i x ys H1 hi ⟨h0,h1,h2,Y⟩;have W:x∈xs:=bC hi;have lt:i<xs.length:=(aC.mp hi).1;refine{Z9,?_};unfold tM;refine iU ?_;refine{_,Z9,x,Z9,Tree.same h2 (hx x W),fun g H2 s2 O=>?_};exact{lt,by rw[au,h1];rfl,h2.trans s2,yY (L2.Paired.imp' (fun _ _ z=>Alike.mono (wz s2) z) Y) hi (Alike.mono (EH (tT h2)) (Alike.from h2 (hx x W) O))}
   ·rintro ys H1 ⟨_,h1,h2,Y⟩ l Z;rw[cu]at Y;refine{l,ys,Z9,.inl {SqL.of ak,fun t ht=>?_}};have M:bj H1 (upd (upd H1 l (.lst ys)) t (.tup ys)):=(aG Z _).trans (aG ht _);exact q _ _ (h2.trans M) (.inr (.inr {p,t,xs,ys,Z9,Z9,hp,(by rw[Br (tT (h2.trans (aG Z (.lst ys))) _ ht)];exact ak),L2.Paired.imp' (fun _ _ z=>Alike.mono (wz M) z) Y}))
theorem Bt(D:Df K mg "copied" oS ["thing"] f fd)(B:Bl mg):bN P w K mg base CX0 1 f fd ["thing"] (qM 0):=by
 refine D.F.ok scC #[3] (fun Z A outer s H vs Q E Y h=>?_)
 ·obtain⟨v,rfl,_⟩:=h;rfl
 obtain⟨v,rfl,ht,q⟩:=h;refine⟨_,ar (cR (wN (cS n6 #[7] B.isi tS (av (pv 0) (av (vN (v:=.ty "list") #[7] B.list boot_list rfl) ao)))) yA b9)
  (ar (cR (wN (cS n6 #[7] B.isi tS (av (pv 0) (av (vN (v:=.ty "tuple") #[7] B.tuple boot_tuple rfl) ao)))) yA b9)
  (aF (bQ (pv 0)))),?_⟩
 dsimp only[cxA,cxB];have ht:De v:=ht
 cases v with
 |int i=>
  refine{_,Z9,_,"list",_,false,Z9,.int i,Jg,_,Z9,gz ?_};refine{_,Z9,_,"tuple",_,false,Z9,.int i,Ji,_,Z9,gz ?_};exact{_,Z9,q _ _ (bj.refl H) rfl}
 |str x=>
  refine{_,Z9,_,"list",_,false,Z9,.str x,Jh,_,Z9,gz ?_};refine{_,Z9,_,"tuple",_,false,Z9,.str x,Jj,_,Z9,gz ?_};exact{_,Z9,q _ _ (bj.refl H) rfl}
 |non=>exact ht.elim
 |bl b=>exact ht.elim
 |byt b=>exact ht.elim
 |flt b=>exact ht.elim
 |ref a=>exact ht.elim
 |ty a=>exact ht.elim
theorem yZ(D:Df K mg "copied" oS ["thing"] f fd)(B:Bl mg):∀n:Nat,bN P w K mg base CX0 (n+1) f fd ["thing"] (qM n)
 |0=>Bt D B
 |n+1=>Bs D B (yZ D B n)
structure MdT(K:ag)(mg:Str->Option af)(CM CS:ae):Prop where
 clM:Cls K CM
 clS:Cls K CS
 nM:fk K CM "machines"
 nB:fk K CS "boxes"
 nQ:fk K CS "queues"
 nD:fk K CS "drawn"
 nS:fk K CS "sent"
 mM:mg "Model"=Z8 (.ref CM)
 mS:mg "State"=Z8 (.ref CS)
inductive OF(CM:ae)(n:Nat)(vs:List V)(H:Hp)(Q:VK)(_e:XK):Prop where
 |mk(m dx:ae)(v:V)(_:vs=[.ref m,v])(_:H m=Z8 (.ins CM dx []))(_:Tree H n v)(_:∀(v':V) (H':Hp),bj H H'->Alike H (Nw H H') n v v'->Q .non (upd H' m (.ins CM dx (dO "machines" v' [])))):OF CM n vs H Q _e
def spMI(CM:ae)(n:Nat):Sp:=fun vs H Q Z=>OF CM n vs H Q Z
theorem scMI:bM ["self","machines"] ["self","machines"] (aR pF):=e7
theorem ok_MI(F:Fun K "__init__" "Model.__init__" pF f fd)(Z:Df K mg "copied" oS ["thing"] fC fdC)(B:Bl mg)(T:MdT K mg CM CS):bN P w K mg base CX0 (n+2) f fd ["self","machines"] (spMI CM n):=by
 have V:bN P w K mg base CX0 (n+1) fC fdC ["thing"] (qM n):=yZ Z B n;refine F.ok scMI #[3] (fun W A outer s H vs Q E U h=>?_)
 ·obtain⟨m,dx,v,rfl,_⟩:=h;rfl
 obtain⟨m,dx,v,rfl,J,ht,q⟩:=h;refine{_,aF (gD (pv 0) (pcl V U Z (av (pv 1) ao)) rfl),?_};dsimp only[cxA,cxB];refine{_,Z9,v,Z9,ht,fun O H' Y M=>?_};exact{_,Z9,m,CM,dx,[],Z9,Y _ _ J,T.clM,T.nM,(by show 0<1000;decide),q O H' Y M}
def pK(b q d e:V):List (Str×V):=dO "sent" e (dO "drawn" d (dO "queues" q (dO "boxes" b [])))
inductive OG(CS:ae)(vs:List V)(H:Hp)(Q:VK)(_e:XK):Prop where
 |mk(m dx:ae)(b q d e:V)(_:vs=[.ref m,b,q,d,e])(_:H m=Z8 (.ins CS dx []))(_:∀H':Hp,H' m=Z8 (.ins CS dx (pK b q d e))->But m H H'->Q .non H'):OG CS vs H Q _e
def Qy(CS:ae):Sp:=fun vs H Q Z=>OG CS vs H Q Z
theorem scSI:bM ["self","boxes","queues","drawn","sent"] ["self","boxes","queues","drawn","sent"] (aR kE):=e7
theorem iP(f:Str)(v:V)(fs:List (Str×V)):(dO f v fs).length<=fs.length+1:=by
 induction fs with
 |nil=>exact ay _
 |cons p r Z=>
  unfold dO
  split
  ·rw[aX,aX];omega
  ·rw[aX,aX];omega
theorem OH(F:Fun K "__init__" "State.__init__" kE f fd)(T:MdT K mg CM CS):bN P w K mg base CX0 1 f fd ["self","boxes","queues","drawn","sent"] (Qy CS):=by
 refine F.ok scSI #[3] (fun Z A outer s H vs Q E U h=>?_)
 ·obtain⟨m,dx,b,q,d,e,rfl,_⟩:=h;rfl
 obtain⟨m,dx,b,q,d,e,rfl,W,k⟩:=h;refine{_,ar (gD (pv 0) (pv 1) rfl) (ar (gD (pv 0) (pv 2) rfl) (ar (gD (pv 0) (pv 3) rfl) (aF (gD (pv 0) (pv 4) rfl)))),?_};dsimp only[cxA,cxB];have Y:=iP "boxes" b [];have O:=iP "queues" q (dO "boxes" b []);have V:=iP "drawn" d (dO "queues" q (dO "boxes" b []));simp only[cI]at Y;refine{_,Z9,_,Z9,m,CS,dx,[],Z9,W,T.clS,T.nB,(by show 0<1000;decide),_,Z9,_,Z9,m,CS,dx,_,Z9,ak,T.clS,T.nQ,#[2],_,Z9,_,Z9,m,CS,dx,_,Z9,ak,T.clS,T.nD,#[2],_,Z9,_,Z9,m,CS,dx,_,Z9,ak,T.clS,T.nS,#[2],?_};exact k _ ak (((But.upd m H _).trans (But.upd m _ _)).trans ((But.upd m _ _).trans (But.upd m _ _)))
inductive Jk(CM:ae)(vs:List V)(H:Hp)(Q:VK)(_e:XK):Prop where
 |mk(m dx l t b q:ae)(fs:List (Str×V))(n0 x3 x4:V)(_:vs=[.ref m,.int 0])(_:H m=Z8 (.ins CM dx fs))(_:fs.lookup ("machines":Str)=Z8 (V.ref l))(_:H l=Z8 (.lst [.ref t]))(_:H t=Z8 (.tup [n0,.ref b,.ref q,x3,x4]))(_:H b=Z8 (.lst []))(_:H q=Z8 (.lst []))(_:∀(st:ae) (H':Hp),bj H H'->Q (.ref st) H'):Jk CM vs H Q _e
theorem Mx:bM ["model","at","machine","queues","name"] ["model","at"] (aR j4):=e7
end
section
variable{κ:Type}[DecidableEq κ]
abbrev rP(ps:List (κ×V))(m:List (κ×V)):List (κ×V):=ps.foldl (fun m p=>iV m p.1 p.2) m
end
theorem rh(ha:H a=Z8 (.lst xs))(z:Alike H H' (n+1) (.ref a) y):∃(W:ae) (ys:List V),y=.ref W/\H' W=Z8 (.lst ys)/\aN (Alike H H' n) xs ys:=by
 rcases z with⟨z,_⟩|⟨p,U,Y,ys,Z,O,h1,h2,r⟩|⟨p,U,Y,ys,Z,O,h1,h2,r⟩
 ·exact z.elim
 ·cases Z;rw[ha]at h1
  cases h1;exact⟨U,ys,O,h2,r⟩
 ·cases Z;rw[ha]at h1
  cases h1
theorem uG(ha:H a=Z8 (.tup xs))(z:Alike H H' (n+1) (.ref a) y):∃(W:ae) (ys:List V),y=.ref W/\H' W=Z8 (.tup ys)/\aN (Alike H H' n) xs ys:=by
 rcases z with⟨z,_⟩|⟨p,U,Y,ys,Z,O,h1,h2,r⟩|⟨p,U,Y,ys,Z,O,h1,h2,r⟩
 ·exact z.elim
 ·cases Z;rw[ha]at h1
  cases h1
 ·cases Z;rw[ha]at h1
  cases h1;exact⟨U,ys,O,h2,r⟩
theorem fH(hv:De v)(z:Alike H H' n v y):y=v:=by
 cases n with
 |zero=>exact z
 |succ n=>
  rcases z with⟨_,z⟩|⟨p,W,Y,ys,Z,U,h1,h2,r⟩|⟨p,W,Y,ys,Z,U,h1,h2,r⟩
  ·exact z
  ·rw[Z]at hv;exact hv.elim
  ·rw[Z]at hv;exact hv.elim
theorem jS(r:aN (Alike H H' n) xs ys):(∀x∈xs,De x)->ys=xs:=by
 induction r with
 |nil=>exact fun _=>rfl
 |cons a b Z=>
  intro h;rw[fH (h _ aB) a,Z fun x hx=>h x (aj _ hx)]
def ic(H:Hp)(ps:List (Str×Int))(vs:List V):Prop:=vY H (ps.map fun p=>(Sum.inr p.1,V.int p.2)) vs
theorem ic.same(s:bj H H'):∀{ps:List (Str×Int)} {vs:List V},ic H ps vs->ic H' ps vs
 | [],_,h=>by
  cases h;exact .nil
 |p::ps,_,h=>by
  cases h with
  |cons a b=>
   obtain⟨t,e,h⟩:=a;exact .cons {t,e,s _ _ h} (ic.same s (ps:=ps) b)
theorem ic.alike:∀{ps:List (Str×Int)} {vs ys:List V},ic H ps vs->aN (Alike H H' (n+1)) vs ys->ic H' ps ys
 | [],_,_,h,r=>by
  cases h
  cases r;exact .nil
 |p::ps,_,_,h,r=>by
  cases h with
  |cons a b=>
   cases r with
   |cons W Z=>
    obtain⟨t,rfl,h⟩:=a;obtain⟨t',ys,rfl,h',Y⟩:=uG h W;have e:=jS Y (fun x hx=>by
     simp only[aq,aV,or_false]at hx
     rcases hx with rfl|rfl
     ·exact trivial
     ·exact trivial)
    rw[e]at h';exact .cons ⟨t',Z9,h'⟩ (ic.alike (ps:=ps) b Z)
theorem ic.length(h:ic H ps vs):ps.length=vs.length:=by
 have z:=aL h;rw[ah]at z;exact z
theorem ic.tree:∀{ps:List (Str×Int)} {vs:List V},ic H ps vs->∀x∈vs,Tree H (n+1) x
 | [],_,h,x,hx=>by
  cases h
  cases hx
 |p::ps,_,h,x,hx=>by
  cases h with
  |cons a b=>
   rcases aq.mp hx with rfl|hx
   ·obtain⟨t,rfl,h⟩:=a;refine .inr {t,_,Z9,.inr h,(by show 2<1000;decide),fun y hy=>?_};simp only[aq,aV,or_false]at hy
    rcases hy with rfl|rfl
    ·cases n<;>first|exact trivial|exact .inl trivial
    ·cases n<;>first|exact trivial|exact .inl trivial
   ·exact ic.tree (ps:=ps) b x hx
section
variable{P:aI}{w:aY}{K:ag}{mg:Str->Option af}{base:cb}{f fI CM CS:ae}{fd fdI:bY}
abbrev Qz(ps:List (Str×Int)):List (Key×V):=rP (ps.map fun p=>((Sum.inr p.1:Key),V.int p.2)) []
abbrev quT(qs:List Str)(Z:List ae):List (Key×V):=rP ((qs.zip Z).map fun p=>((Sum.inr p.1:Key),V.ref p.2)) []
structure New(H H':Hp)(CS st:ae)(ps:List (Str×Int))(qs:List Str)(dx bd qd:ae)(ls:List ae):Prop where
 hst:H' st=Z8 (.ins CS dx (pK (.ref bd) (.ref qd) (.int 0) (.int 0)))
 hbd:H' bd=Z8 (.dK (Qz ps))
 hqd:H' qd=Z8 (.dK (quT qs ls))
 len:ls.length=qs.length
 nd:ls.Nodup
 li:∀l∈ls,H l=Z7/\H' l=Z8 (.lst [])
 ost:H st=Z7
 obd:H bd=Z7
 oqd:H qd=Z7
 ne:qd≠bd
 same:bj H H'
inductive y7(CM CS:ae)(vs:List V)(H:Hp)(Q:VK)(_e:XK):Prop where
 |mk(m dx l t b q:ae)(fs:List (Str×V))(n0 x3 x4:V)(i:Nat)(ms vb:List V)(ps:List (Str×Int))(qs:List Str)(_:vs=[.ref m,.int (i:Int)])(_:H m=Z8 (.ins CM dx fs))(_:fs.lookup ("machines":Str)=Z8 (V.ref l))(_:H l=Z8 (.lst ms))(_:ms[i]?=Z8 (.ref t))(_:H t=Z8 (.tup [n0,.ref b,.ref q,x3,x4]))(_:H b=Z8 (.lst vb))(_:ic H ps vb)(_:ps.length<=100)(_:H q=Z8 (.lst (qs.map V.str)))(_:qs.length<=100)(_:∀(st dx bd qd:ae) (ls:List ae) (H':Hp),New H H' CS st ps qs dx bd qd ls->Q (.ref st) H'):y7 CM CS vs H Q _e
def xl(CM CS:ae):Sp:=fun vs H Q Z=>y7 CM CS vs H Q Z
theorem Jl{α Z:Type}{xs:List α}{ys:List Z}{x:α}{y:Z}(Y:ys.length=i)(hx:xs[i]?=Z8 x):(xs.take (i+1)).zip (ys++[y])=(xs.take i).zip ys++[(x,y)]:=by
 have lt:i<xs.length:=(aC.mp hx).1;have e:xs.take (i+1)=xs.take i++[x]:=by rw[cm,hx];rfl
 rw[e,List.zip_append (by rw[bD,Y];omega)];rfl
theorem uH(D:Df K mg "first_state" j4 ["model","at"] f fd)(MS:Mk K CS fI)(FI:Fun K "__init__" "State.__init__" kE fI fdI)(bI:Binds K fdI ["self","boxes","queues","drawn","sent"] [])(B:Bl mg)(T:MdT K mg CM CS) :
  bN P w K mg base CX0 3 f fd ["model","at"] (xl CM CS):=by
 have GI:bN P w K mg base CX0 1 fI fdI ["self","boxes","queues","drawn","sent"] (Qy CS):=OH FI T;refine D.F.ok Mx #[3] (fun cl A outer s H vs Q E hr h=>?_)
 ·obtain⟨m,dx,l,t,b,q,fs,n0,x3,x4,i,ms,vb,ps,qs,rfl,_⟩:=h;rfl
 obtain⟨m,dx,l,t,b,q,fs,n0,x3,x4,i,ms,vb,ps,qs,rfl,hm,de,hl,hi,ht,hb,cs,ck,hq,cp,k⟩:=h;have hu:=qD hr;refine⟨_,ar (pst 2 Mx (bR dD (cX (pv 0) rfl) (pv 1)))
  (ar (pst 3 Mx tK)
  (ar (iE cw rfl (hV (bR cv (pv 2) aA)) (pgn 4 Mx) (aF (nZ hu (pv 3) (pv 4) (eO ao) rfl)))
  (aF (bQ (q8 MS GI hr #[7] T.mS bI .nil jV (av (iQ (CW rfl) #[7] B.dict boot_dict (av (bR cv (pv 2) aA) ao)) (av (pv 3) (av aA (av aA ao))))))))),?_⟩
 dsimp only[cxA,cxB];refine{_,Z9,m,CM,dx,_,_,Z9,hm,T.clM,T.nM,de,_,Z9,l,_,_,_,Z9,Z9,SqL.of hl,iO hi,?_};intro d hd;have s1:bj H (upd H d (.dK [])):=aG hd _;have big:1000<aD:=by decide
 have a2:atI [n0,V.ref b,V.ref q,x3,x4] 2=Z8 (V.ref q):=rfl;have a1:atI [n0,V.ref b,V.ref q,x3,x4] 1=Z8 (V.ref b):=rfl;refine⟨_,Z9,t,_,_,_,Z9,Z9,SqT.of (s1 _ _ ht),a2,q,Z9,{_,SqL.of (s1 _ _ hq)},kx (K:=K) (a:=q) (xs:=qs.map V.str) (fun j σ G=>∃(v4:Option V) (Z:List ae),σ=[Z8 (.ref m),Z8 (.int (i:Int)),Z8 (.ref t),Z8 (.ref d),v4]/\j<=qs.length/\G d=Z8 (.dK (quT (qs.take j) Z))/\Z.length=j/\Z.Nodup/\(∀z∈Z,H z=Z7/\G z=Z8 (.lst []))/\bj H G)
  {Z7,[],Z9,aW _,ak,Z9,iY,(fun z hz=>by cases hz),s1} ?_ ?_ ?_⟩
 ·rintro j σ G _ ⟨v4,Z,rfl,_,_,_,_,_,sm⟩;exact SqL.of (sm _ _ hq)
 ·rintro j x σ G J ⟨v4,Z,rfl,jl,Y,O,nd,g,sm⟩;obtain⟨nm,I,rfl⟩:∃nm,qs[j]?=Z8 nm/\x=V.str nm:=by
   rw[bT]at J
   cases e:qs[j]? with
   |none=>rw[e]at J;cases J
   |some nm=>rw[e]at J;cases J;exact⟨nm,Z9,Z9⟩
  have da:j<qs.length:=(aC.mp I).1;refine{aW _,fun z hz=>?_};have M:d≠z:=aJ Y hz;have cr:upd G z (.lst []) d=Z8 (.dK (quT (qs.take j) Z)):=by rw[aQ M];exact Y
  have lt:(quT (qs.take j) Z).length<aD:=by
   have U:=Bn ((((qs.take j).zip Z).map fun p=>((Sum.inr p.1:Key),V.ref p.2))) [];rw[ah,qN,bD]at U;simp only[cI]at U;exact jm U #[2]
  refine{_,Z9,_,Z9,d,_,Z9,ux.k (k:=Sum.inr nm) cr lt,?_};have fz:H z=Z7:=sm.free hz;have db:z∉Z:=fun c=>by
   have U:=(g z c).2;rw[hz]at U
   cases U
  refine{_,Z++[z],Z9,da,?_,by rw[au,O];rfl,EA nd db,fun y hy=>?_,?_}
  ·show upd _ d _ d=_;rw[ak];show Z8 (HO.dK (iV (quT (qs.take j) Z) (Sum.inr nm) (.ref z)))=Z8 (HO.dK (quT (qs.take (j+1)) (Z++[z])));unfold quT;rw[Jl O I,bA];unfold rP;rw[jL];rfl
  ·rcases cj.mp hy with c|c
   ·obtain⟨c1,W⟩:=g y c;refine{c1,?_};rw[aQ (kg W Y (by intro e;cases e)),aQ (aJ W hz)];exact W
   ·rw[aK.mp c];refine{fz,?_};rw[aQ M.symm];exact ak
  ·intro c o hc;have W:=sm _ _ hc;have cd:c≠d:=aJ hc hd;rw[aQ cd,aQ (aJ W hz)];exact W
 ·rintro σ G ⟨v4,Z,rfl,jl,Y,O,nd,g,sm⟩;rw[ah]at O Y;rw[cu]at Y;refine{_,Z9,t,_,_,_,Z9,Z9,SqT.of (sm _ _ ht),a1,b,vb,_,Z9,sm _ _ hb,ic.same sm cs,by rw[ah];omega,fun e he=>?_};have s2:bj G (upd G e (.dK (Qz ps))):=aG he _;refine{_,Z9,?_};intro x dg nx dc cn;refine{x,dg,_,_,_,_,Z9,ak,fun H' hx bt=>{Z9,k x dg e d Z H' ?_}};have up:∀{c:ae} {o:HO},upd G e (.dK (Qz ps)) c=Z8 o->H' c=Z8 o:=fun {c o} hc=>by
   have cx:c≠x:=aJ hc nx;refine bt c o ?_ cx;rw[aQ cx,aQ (aJ hc dc)];exact hc
  exact{hx,up ak,up (s2 _ _ Y),O,nd,fun z hz=>{(g z hz).1,up (s2 _ _ (g z hz).2)},sm.free (s2.free nx),sm.free he,hd,aJ Y he,fun c o hc=>up (s2 _ _ (sm _ _ hc))}
end
section
variable{κ:Type}[DecidableEq κ]
theorem Dh:∀(ps m:List (κ×V)),((m++ps).map (·.1)).Nodup->rP ps m=m++ps
 | [],m,_=>by simp[rP]
 |p::r,m,h=>by
  have nk:iR m p.1=Z7:=by
   cases e:iR m p.1 with
   |none=>rfl
   |some v=>
    exfalso;rw[bA,bK]at h;exact (gI.mp h).2.2 p.1 (LY e) p.1 aB rfl
  show rP r (iV m p.1 p.2)=_;rw[ID p.2 nk,Dh r (m++[(p.1,p.2)]) (by rw[jM];exact h),jM];rfl
end
theorem ic.tups(s:∀t xs,H t=Z8 (.tup xs)->H' t=Z8 (.tup xs)):∀{ps:List (Str×Int)} {vs:List V},ic H ps vs->ic H' ps vs
 | [],_,h=>by
  cases h;exact .nil
 |p::ps,_,h=>by
  cases h with
  |cons a b=>
   obtain⟨t,e,h⟩:=a;exact .cons {t,e,s _ _ h} (ic.tups s (ps:=ps) b)
def Bu:List Str:=["plus","less","times","part","rest","below","same"]
inductive Fm where
 |num(n:Int)
 |box(x:Str)
 |long(x:Str)
 |got(j:Bool)
 |now
 |two(k:Str)(f g:Fm)
def Fm.depth:Fm->Nat
 |.two _ f g=>max f.depth g.depth+1
 |_=>1
inductive Rs where
 |ok(r:Int)
 |nought
 |great
def Bv(k:Str)(a b:Int):Rs:=
 if k="plus" then .ok (a+b) else if k="less" then .ok (a-b) else if k="times" then .ok (a*b) else if k="below" then .ok (if a<b then 1 else 0)
 else if k="same" then .ok (if a=b then 1 else 0) else if b=0 then .nought else if k="part" then .ok (a.fdiv b) else .ok (a.fmod b)
def tU(r:Int):Int:=if r<0 then -r else r
def cap:Rs->Rs
 |.ok r=>if 10^15<tU r then .great else .ok r
 |.nought=>.nought
 |.great=>.great
structure Aa where
 bx:Str->Int
 lg:Str->Nat
 g0:Int
 g1:Int
 nw:Int
def ev(e:Aa):Fm->Rs
 |.num n=>.ok n
 |.box x=>.ok (e.bx x)
 |.long x=>.ok (e.lg x)
 |.got j=>.ok (if j then e.g1 else e.g0)
 |.now=>.ok e.nw
 |.two k f g=>match ev e f with
  |.ok a=>(match ev e g with
   |.ok b=>cap (Bv k a b)
   |.nought=>.nought
   |.great=>.great)
  |.nought=>.nought
  |.great=>.great
def Wo(a:Int):Prop:=-(10^15)<=a/\a<=10^15
structure Aa.Ok(e:Aa)(bs qs:List Str):Prop where
 bx:∀x∈bs,Wo (e.bx x)
 lg:∀x∈qs,e.lg x<=1000
 g0:Wo e.g0
 g1:Wo e.g1
 nw:Wo e.nw
inductive kf(bs qs:List Str)(H:Hp):V->Fm->Prop where
 |num{t:ae}{n:Int}:H t=Z8 (.tup [.str "number",.int n])->Wo n->kf bs qs H (.ref t) (.num n)
 |box{t:ae}{x:Str}:H t=Z8 (.tup [.str "box",.str x])->x∈bs->kf bs qs H (.ref t) (.box x)
 |long{t:ae}{x:Str}:H t=Z8 (.tup [.str "long",.str x])->x∈qs->kf bs qs H (.ref t) (.long x)
 |got{t:ae}{j:Bool}:H t=Z8 (.tup [.str "got",.int (if j then 1 else 0)])->kf bs qs H (.ref t) (.got j)
 |now{t:ae}:H t=Z8 (.tup [.str "now"])->kf bs qs H (.ref t) .now
 |two{t:ae}{k:Str}{u v:V}{f g:Fm}:H t=Z8 (.tup [.str k,u,v])->k∈Bu->kf bs qs H u f->kf bs qs H v g->kf bs qs H (.ref t) (.two k f g)
theorem kf.mono(h:kf bs qs H v f)(s:∀t xs,H t=Z8 (.tup xs)->H' t=Z8 (.tup xs)):kf bs qs H' v f:=by
 induction h with
 |num h1 h2=>exact .num (s _ _ h1) h2
 |box h1 h2=>exact .box (s _ _ h1) h2
 |long h1 h2=>exact .long (s _ _ h1) h2
 |got h1=>exact .got (s _ _ h1)
 |now h1=>exact .now (s _ _ h1)
 |two h1 h2 _ _ Z Y=>exact .two (s _ _ h1) h2 Z Y
theorem kf.same(h:kf bs qs H v f)(s:bj H H'):kf bs qs H' v f:=h.mono fun _ _ e=>s _ _ e
theorem Jm(h:¬10^15<tU r):Wo r:=by
 unfold tU at h;unfold Wo
 split at h<;>omega
theorem Jn(h:Wo r):¬10^15<tU r:=by
 unfold Wo at h;unfold tU
 split<;>omega
theorem QA(h:cap x=.ok r):Wo r:=by
 cases x with
 |ok y=>
  unfold cap at h;dsimp only at h
  by_cases c:10^15<tU y
  ·rw[if_pos c]at h
   cases h
  ·rw[if_neg c]at h
   cases h;exact Jm c
 |nought=>cases h
 |great=>cases h
theorem lg_wo{n:Nat}(h:n<=1000):Wo (n:Int):=by
 unfold Wo;omega
theorem vm(ok:e.Ok bs qs)(h:kf bs qs H v f):∀{r:Int},ev e f=.ok r->Wo r:=by
 induction h with
 |num h1 h2=>
  intro r q;unfold ev at q
  cases q;exact h2
 |box h1 h2=>
  intro r q;unfold ev at q
  cases q;exact ok.bx _ h2
 |long h1 h2=>
  intro r q;unfold ev at q
  cases q;exact lg_wo (ok.lg _ h2)
 |@got t j h1=>
  intro r q;unfold ev at q
  cases q
  cases j
  ·exact ok.g0
  ·exact ok.g1
 |now h1=>
  intro r q;unfold ev at q
  cases q;exact ok.nw
 |@two t k u v f g h1 h2 _ _ Z Y=>
  intro r q;unfold ev at q
  cases e1:ev e f with
  |ok a=>
   rw[e1]at q
   cases e2:ev e g with
   |ok b=>
    rw[e2]at q;exact QA q
   |nought=>rw[e2]at q;cases q
   |great=>rw[e2]at q;cases q
  |nought=>rw[e1]at q;cases q
  |great=>rw[e1]at q;cases q
def y8(CN CG:ae)(r:Rs)(Q:VK)(E:XK)(H:Hp):Prop:=match r with
 |.ok r=>Q (.int r) H
 |.nought=>E (.ref CN) Z7 H
 |.great=>E (.ref CG) Z7 H
theorem Jo:∀k∈Bu,¬k="number"/\¬k="box"/\¬k="long"/\¬k="got"/\¬k="now":=by decide +kernel
section
variable{P:aI}{w:aY}{K:ag}{mg:Str->Option af}{base:cb}{f fD fT fL CN CG CM CS:ae}{fd fdD fdT fdL:bY}
structure Fts(K:ag)(mg:Str->Option af)(CN CG:ae):Prop where
 mN:mg "Nought"=Z8 (.ref CN)
 mG:mg "Great"=Z8 (.ref CG)
 xN:dU K CN sM "ValueError.__new__"=true
 xG:dU K CG sM "ValueError.__new__"=true
 nn:dE K (.ref CN) (.ref CN)=Z8 true
 gn:dE K (.ref CG) (.ref CN)=Z8 false
 gg:dE K (.ref CG) (.ref CG)=Z8 true
inductive Jp(CN:ae)(vs:List V)(H:Hp)(Q:VK)(E:XK):Prop where
 |mk(k:Str)(a b:Int)(_:vs=[.str k,.int a,.int b])(_:Wo b)(_:(b=0->E (.ref CN) Z7 H))(_:(¬b=0->k="part"->Q (.int (a.fdiv b)) H))(_:(¬b=0->¬k="part"->Q (.int (a.fmod b)) H)):Jp CN vs H Q E
def OI(CN:ae):Sp:=fun vs H Q E=>Jp CN vs H Q E
theorem scDv:bM ["kind","first","second"] ["kind","first","second"] (aR eI):=e7
theorem Ab(h:V.int a=V.int b):a=b:=V.int.inj h
theorem uI(h:V.str a=V.str b):a=b:=V.str.inj h
theorem QB(D:Df K mg "number_of_division" eI ["kind","first","second"] f fd)(T:Fts K mg CN CG):bN P w K mg base (CXo P w) 1 f fd ["kind","first","second"] (OI CN):=by
 refine D.F.okX scDv #[3] (fun V A outer s H vs Q E U h=>?_)
 ·obtain⟨k,a,b,rfl,_⟩:=h;rfl
 obtain⟨k,a,b,rfl,hb,h1,h2,W⟩:=h;refine⟨_,ar (cR (bO ff (pv 2) aA) (aF (mP eC rfl rfl T.mN T.xN (av bX ao))) b9)
  (ar (cR (bO ff (pv 0) bX) (aF (bQ (cM IJ (pv 1) (pv 2)))) b9)
  (aF (bQ (cM LJ (pv 1) (pv 2))))),?_⟩
 refine{_,Z9,Z9,_,Z9,?_};refine gA (fun c=>?_) (fun c=>?_)
 ·exact{(by show 1<=aD;decide),h1 (Ab (lJ c))}
 ·have Z:¬b=0:=fun z=>lY c (by rw[z]);refine{_,Z9,Z9,_,Z9,?_};refine gA (fun Y=>?_) (fun Y=>?_)
  ·refine{_,Z9,_,Z9,_,_,Z9,Z9,{Z,?_},h2 Z (uI (lJ Y))};unfold Wo at hb;omega
  ·exact{_,Z9,_,Z9,_,_,Z9,Z9,Z,W Z (fun z=>lY Y (by rw[z]))}
inductive Jq(CN CG:ae)(vs:List V)(H:Hp)(Q:VK)(E:XK):Prop where
 |mk(k:Str)(a b:Int)(_:vs=[.str k,.int a,.int b])(_:Wo a)(_:Wo b)(_:y8 CN CG (Bv k a b) Q E H):Jq CN CG vs H Q E
def OJ(CN CG:ae):Sp:=fun vs H Q E=>Jq CN CG vs H Q E
theorem scTw:bM ["kind","first","second"] ["kind","first","second"] (aR ir):=e7
theorem QC(D:Df K mg "number_of_two" ir ["kind","first","second"] f fd)(Y:Df K mg "number_of_division" eI ["kind","first","second"] fD fdD)(T:Fts K mg CN CG) :
  bN P w K mg base (CXo P w) 2 f fd ["kind","first","second"] (OJ CN CG):=by
 have M:bN P w K mg base (CXo P w) 1 fD fdD ["kind","first","second"] (OI CN):=QB Y T;refine D.F.okX scTw #[3] (fun U A outer s H vs Q E O h=>?_)
 ·obtain⟨k,a,b,rfl,_⟩:=h;rfl
 obtain⟨k,a,b,rfl,ha,hb,h⟩:=h;unfold Bv at h;refine⟨_,ar (cR (bO ff (pv 0) bX) (aF (bQ (cM ie (pv 1) (pv 2)))) b9)
  (ar (cR (bO ff (pv 0) bX) (aF (bQ (cM lP (pv 1) (pv 2)))) b9)
  (ar (cR (bO ff (pv 0) bX) (aF (bQ (cM r9 (pv 1) (pv 2)))) b9)
  (ar (cR (bO ff (pv 0) bX) (aF (bQ (wO (bO rK (pv 1) (pv 2)) aA aA))) b9)
  (ar (cR (bO ff (pv 0) bX) (aF (bQ (wO (bO ff (pv 1) (pv 2)) aA aA))) b9)
  (aF (bQ (gO M O rfl Y.m Y.F.kp Y.b .nil (eC.passes fun _ _ _ z=>z) (av (pv 0) (av (pv 1) (av (pv 2) ao)))))))))),?_⟩
 refine{_,Z9,Z9,_,Z9,gA (fun c=>?_) (fun c=>?_)}
 ·rw[if_pos (uI (lJ c))]at h;exact{_,Z9,_,Z9,_,_,Z9,Z9,h}
 rw[if_neg fun z=>lY c (by rw[z])]at h;refine{_,Z9,Z9,_,Z9,gA (fun c=>?_) (fun c=>?_)}
 ·rw[if_pos (uI (lJ c))]at h;exact{_,Z9,_,Z9,_,_,Z9,Z9,h}
 rw[if_neg fun z=>lY c (by rw[z])]at h;refine{_,Z9,Z9,_,Z9,gA (fun c=>?_) (fun c=>?_)}
 ·rw[if_pos (uI (lJ c))]at h;refine{_,Z9,_,Z9,_,_,Z9,Z9,.inl {?_,?_},h}
  ·unfold Wo at ha;omega
  ·unfold Wo at ha;omega
 rw[if_neg fun z=>lY c (by rw[z])]at h;refine{_,Z9,Z9,_,Z9,gA (fun c=>?_) (fun c=>?_)}
 ·rw[if_pos (uI (lJ c))]at h;refine{_,Z9,_,Z9,_,_,Z9,Z9,_,Z9,gA (fun Z=>?_) (fun Z=>?_)}
  ·rw[if_pos (lJ Z)]at h;exact h
  ·rw[if_neg (lY Z)]at h;exact h
 rw[if_neg fun z=>lY c (by rw[z])]at h;refine{_,Z9,Z9,_,Z9,gA (fun c=>?_) (fun c=>?_)}
 ·rw[if_pos (uI (lJ c))]at h;refine{_,Z9,_,Z9,Z9,_,Z9,gA (fun Z=>?_) (fun Z=>?_)}
  ·rw[if_pos (Ab (lJ Z))]at h;exact h
  ·rw[if_neg fun z=>lY Z (by rw[z])]at h;exact h
 rw[if_neg fun z=>lY c (by rw[z])]at h;refine{_,Z9,_,Z9,_,Z9,k,a,b,Z9,hb,fun z=>?_,fun W V=>?_,fun W V=>?_}
 ·rw[if_pos z]at h;exact h
 ·rw[if_neg W,if_pos V]at h;exact h
 ·rw[if_neg W,if_neg V]at h;exact h
structure Holds(K:ag)(CS:ae)(bs qs:List Str)(H:Hp)(st gl:ae)(e:Aa):Prop where
 ex:∃(dx bd qd:ae) (fs:List (Str×V)) (bk qk:List (Key×V)),H st=Z8 (.ins CS dx fs)/\fs.lookup ("boxes":Str)=Z8 (.ref bd)/\fs.lookup ("queues":Str)=Z8 (.ref qd)/\H bd=Z8 (.dK bk)/\H qd=Z8 (.dK qk) /\
  (∀x∈bs,iR bk (Sum.inr x)=Z8 (.int (e.bx x)))/\(∀x∈qs,∃l xs,iR qk (Sum.inr x)=Z8 (.ref l)/\H l=Z8 (.lst xs)/\xs.length=e.lg x)
 hgl:H gl=Z8 (.lst [.int e.g0,.int e.g1])
inductive EJ(K:ag)(CS:ae)(bs qs:List Str)(vs:List V)(H:Hp)(Q:VK)(_e:XK):Prop where
 |mk(v:V)(F:Fm)(st gl:ae)(e:Aa)(_:vs=[v,.ref st,.int e.nw,.ref gl])(_:kf bs qs H v F)(_:F.depth<=1)(_:Holds K CS bs qs H st gl e)(_:∀r,ev e F=.ok r->Q (.int r) H):EJ K CS bs qs vs H Q _e
def Jr(K:ag)(CS:ae)(bs qs:List Str):Sp:=fun vs H Q Z=>EJ K CS bs qs vs H Q Z
theorem scLf:bM ["formula","state","now","got","kind"] ["formula","state","now","got"] (aR gT):=e7
theorem Js:¬(("box":Str)="number")/\¬(("long":Str)="number")/\¬(("long":Str)="box")/\¬(("got":Str)="number")/\¬(("got":Str)="box")/\¬(("got":Str)="long")/\¬(("now":Str)="number")/\¬(("now":Str)="box")/\¬(("now":Str)="long")/\¬(("now":Str)="got"):=by decide +kernel
theorem uJ(h:¬a=b):decide (V.str a=V.str b)=false:=decide_eq_false fun z=>h (V.str.inj z)
theorem Di(a:Str):decide (V.str a=V.str a)=true:=decide_eq_true rfl
theorem mj{p q:Prop}(h:c=b)(t:if b=true then p else q):if c=true then p else q:=by
 rw[h];exact t
theorem Mz(D:Df K mg "number_of_leaf" gT ["formula","state","now","got"] f fd)(T:MdT K mg CM CS)(B:Bl mg):bN P w K mg base CX0 1 f fd ["formula","state","now","got"] (Jr K CS bs qs):=by
 refine D.F.ok scLf #[3] (fun g A outer s H vs Q E hr h=>?_)
 ·obtain⟨v,F,st,Y,e,rfl,_⟩:=h;rfl
 obtain⟨v,F,st,Y,e,rfl,hF,hd,⟨⟨dx,bd,U,fs,bk,qk,h1,h2,h3,h4,h5,h6,I⟩,W⟩,q⟩:=h;have hu:=qD hr;refine⟨_,ar (pst 4 scLf (bR cv (pv 0) aA))
  (ar (cR (bO ff (pv 4) bX) (aF (bQ (bR cv (pv 0) aA))) b9)
  (ar (cR (bO ff (pv 4) bX) (aF (bQ (tJ hu (cX (pv 1) rfl) (bR cv (pv 0) aA)))) b9)
  (ar (cR (bO ff (pv 4) bX) (aF (bQ (cS i0 #[7] B.len cA (av (tJ hu (cX (pv 1) rfl) (bR cv (pv 0) aA)) ao)))) b9)
  (ar (cR (bO ff (pv 4) bX) (aF (bQ (bR dD (pv 3) (bR cv (pv 0) aA)))) b9)
  (aF (bQ (pv 2))))))),?_⟩
 dsimp only[cxA,cxB];obtain⟨k1,k2,k3,V,k5,J,k7,M,k9,Z⟩:=Js
 cases hF with
 |@num t n ht hn=>
  refine{_,Z9,t,_,_,_,Z9,Z9,SqT.of ht,Z9,_,Z9,Z9,_,Z9,mj (Di _) (iU ?_)};exact{_,Z9,t,_,_,_,Z9,Z9,SqT.of ht,Z9,q _ rfl}
 |@box t x ht hx=>
  refine{_,Z9,t,_,_,_,Z9,Z9,SqT.of ht,Z9,_,Z9,Z9,_,Z9,mj (uJ k1) (gz ?_)};refine{_,Z9,Z9,_,Z9,mj (Di _) (iU ?_)};exact{_,Z9,st,CS,dx,_,_,Z9,h1,T.clS,T.nB,h2,_,Z9,t,_,_,_,Z9,Z9,SqT.of ht,Z9,bd,_,Z9,(by have z:=sL.k (k:=Sum.inr x) h4;rw[h6 x hx]at z;exact z),q _ rfl}
 |@long t x ht hx=>
  obtain⟨l,xs,O,g2,g3⟩:=I x hx;refine{_,Z9,t,_,_,_,Z9,Z9,SqT.of ht,Z9,_,Z9,Z9,_,Z9,mj (uJ k2) (gz ?_)};refine{_,Z9,Z9,_,Z9,mj (uJ k3) (gz ?_)};refine{_,Z9,Z9,_,Z9,mj (Di _) (iU ?_)};exact{_,Z9,st,CS,dx,_,_,Z9,h1,T.clS,T.nQ,h3,_,Z9,t,_,_,_,Z9,Z9,SqT.of ht,Z9,U,_,Z9,(by have z:=sL.k (k:=Sum.inr x) h5;rw[O]at z;exact z),l,xs,Z9,.inl (SqL.of g2),q _ (by rw[g3];rfl)}
 |@got t j ht=>
  refine{_,Z9,t,_,_,_,Z9,Z9,SqT.of ht,Z9,_,Z9,Z9,_,Z9,mj (uJ V) (gz ?_)};refine{_,Z9,Z9,_,Z9,mj (uJ k5) (gz ?_)};refine{_,Z9,Z9,_,Z9,mj (uJ J) (gz ?_)};refine{_,Z9,Z9,_,Z9,mj (Di _) (iU ?_)}
  cases j
  ·exact{_,Z9,_,Z9,t,_,_,_,Z9,Z9,SqT.of ht,Z9,Y,_,_,_,Z9,Z9,SqL.of W,Z9,q _ rfl}
  ·exact{_,Z9,_,Z9,t,_,_,_,Z9,Z9,SqT.of ht,Z9,Y,_,_,_,Z9,Z9,SqL.of W,Z9,q _ rfl}
 |@now t ht=>
  refine{_,Z9,t,_,_,_,Z9,Z9,SqT.of ht,Z9,_,Z9,Z9,_,Z9,mj (uJ k7) (gz ?_)};refine{_,Z9,Z9,_,Z9,mj (uJ M) (gz ?_)};refine{_,Z9,Z9,_,Z9,mj (uJ k9) (gz ?_)};refine{_,Z9,Z9,_,Z9,mj (uJ Z) (gz ?_)};exact{_,Z9,q _ rfl}
 |@two t k u v f1 f2 ht hk h1 h2=>
  have z1:0<f1.depth:=by cases f1<;>exact nU _
  unfold Fm.depth at hd;omega
inductive OK(K:ag)(CS CN CG:ae)(bs qs:List Str)(n:Nat)(vs:List V)(H:Hp)(Q:VK)(E:XK):Prop where
 |mk(v:V)(F:Fm)(st gl:ae)(e:Aa)(_:vs=[v,.ref st,.int e.nw,.ref gl])(_:kf bs qs H v F)(_:F.depth<=n)(_:Holds K CS bs qs H st gl e)(_:e.Ok bs qs)(_:y8 CN CG (ev e F) Q E H):OK K CS CN CG bs qs n vs H Q E
def Jt(K:ag)(CS CN CG:ae)(bs qs:List Str)(n:Nat):Sp:=fun vs H Q E=>OK K CS CN CG bs qs n vs H Q E
theorem Ju:bM ["formula","state","now","got","first","second","number"] ["formula","state","now","got"] (aR mT):=e7
theorem MA(h:kf bs qs H v F):(∃t xs,v=.ref t/\H t=Z8 (.tup xs)/\¬(xs.length:Int)=3/\F.depth<=1/\∀e:Aa,∃r,ev e F=.ok r) \/
  ∃t k u w f g,v=.ref t/\F=.two k f g/\H t=Z8 (.tup [.str k,u,w])/\k∈Bu/\kf bs qs H u f/\kf bs qs H w g:=by
 cases h with
 |num h1 h2=>exact .inl {_,_,Z9,h1,by show ¬((2:Nat):Int)=3;decide,ay _,fun e=>{_,Z9}}
 |box h1 h2=>exact .inl {_,_,Z9,h1,by show ¬((2:Nat):Int)=3;decide,ay _,fun e=>{_,Z9}}
 |long h1 h2=>exact .inl {_,_,Z9,h1,by show ¬((2:Nat):Int)=3;decide,ay _,fun e=>{_,Z9}}
 |got h1=>exact .inl {_,_,Z9,h1,by show ¬((2:Nat):Int)=3;decide,ay _,fun e=>{_,Z9}}
 |now h1=>exact .inl {_,_,Z9,h1,by show ¬((1:Nat):Int)=3;decide,ay _,fun e=>{_,Z9}}
 |two h1 h2 Y Z=>exact .inr {_,_,_,_,_,_,Z9,Z9,h1,h2,Y,Z}
theorem MG(D:Df K mg "worth_of" mT ["formula","state","now","got"] f fd)(DT:Df K mg "number_of_two" ir ["kind","first","second"] fT fdT)(DD:Df K mg "number_of_division" eI ["kind","first","second"] fD fdD)
  (g:Df K mg "number_of_leaf" gT ["formula","state","now","got"] fL fdL) (T:Fts K mg CN CG) (TM:MdT K mg CM CS) (B:Bl mg) (G:bN P w K mg base (CXo P w) (n+2) f fd ["formula","state","now","got"] (Jt K CS CN CG bs qs n)) :
  bN P w K mg base (CXo P w) (n+3) f fd ["formula","state","now","got"] (Jt K CS CN CG bs qs (n+1)):=by
 have GT:bN P w K mg base (CXo P w) 2 fT fdT ["kind","first","second"] (OJ CN CG):=QC DT DD T;have GL:bN P w K mg base CX0 1 fL fdL ["formula","state","now","got"] (Jr K CS bs qs):=Mz g TM B;refine D.F.okX Ju #[3] (fun bz A outer s H vs Q E V h=>?_)
 ·obtain⟨v,F,st,U,e,rfl,_⟩:=h;rfl
 obtain⟨v,F,st,U,e,rfl,I,hd,M,Z,h⟩:=h;have r2:dJ 2 _:=V.mono #[2];have r1:dJ 1 _:=V.mono #[2];refine⟨_,ar (cR (bO ff (cS i0 #[7] B.len cA (av (pv 0) ao)) aA)
   (ar (pst 4 Ju (gO G V rfl D.m D.F.kp D.b .nil (eC.passes fun _ _ _ z=>z) (av (bR cv (pv 0) aA) (av (pv 1) (av (pv 2) (av (pv 3) ao))))))
   (ar (pst 5 Ju (gO G V rfl D.m D.F.kp D.b .nil (eC.passes fun _ _ _ z=>z) (av (bR cv (pv 0) aA) (av (pv 1) (av (pv 2) (av (pv 3) ao))))))
   (aF (pst 6 Ju (gO GT r2 rfl DT.m DT.F.kp DT.b .nil (eC.passes fun _ _ _ z=>z) (av (bR cv (pv 0) aA) (av (pv 4) (av (pv 5) ao))))))))
   (aF (pst 6 Ju (pcl GL r1 g (av (pv 0) (av (pv 1) (av (pv 2) (av (pv 3) ao))))))))
  (ar (cR (bO rL (cS Ia #[7] B.abs boot_abs (av (pv 6) ao)) (cM sj aA aA)) (aF (mP eC rfl rfl T.mG T.xG (av bX ao))) b9)
  (aF (bQ (pv 6)))),?_⟩
 dsimp only[cxA,cxB];have Y:Cg 10 15:={by decide,by decide,by decide};have l1:1<=aD:=by decide
 rcases MA I with⟨t,xs,rfl,ht,hx,O,hv⟩|⟨t,k,u,v',f1,J,rfl,rfl,ht,hk,h1,h2⟩
 ·obtain⟨r,bB⟩:=hv e;refine{_,Z9,t,_,Z9,.inr (SqT.of ht),Z9,_,Z9,gA (fun c=>absurd (Ab (lJ c)) hx) (fun c=>?_)};refine{_,Z9,_,Z9,_,Z9,_,Z9,.ref t,F,st,U,e,Z9,I,O,M,fun r' W=>?_};refine{_,Z9,_,Z9,_,_,Z9,Z9,Y,_,_,Z9,Z9,_,Z9,gA (fun c=>?_) (fun c=>?_)}
  ·exact absurd (lJ c) (Jn (vm Z I W))
  ·rw[W]at h;exact{_,Z9,h}
 ·have d1:f1.depth<=n:=by
   unfold Fm.depth at hd;omega
  have d2:J.depth<=n:=by
   unfold Fm.depth at hd;omega
  refine{_,Z9,t,_,Z9,.inr (SqT.of ht),Z9,_,Z9,gA (fun c=>?_) (fun c=>absurd rfl (lY c))};refine{_,Z9,t,_,_,_,Z9,Z9,SqT.of ht,Z9,_,Z9,_,Z9,_,Z9,u,f1,st,U,e,Z9,h1,d1,M,Z,?_};unfold ev at h
  cases e1:ev e f1 with
  |nought=>rw[e1]at h;exact h
  |great=>rw[e1]at h;exact h
  |ok a=>
   rw[e1]at h;refine{_,Z9,t,_,_,_,Z9,Z9,SqT.of ht,Z9,_,Z9,_,Z9,_,Z9,v',J,st,U,e,Z9,h2,d2,M,Z,?_}
   cases e2:ev e J with
   |nought=>rw[e2]at h;exact h
   |great=>rw[e2]at h;exact h
   |ok b=>
    rw[e2]at h;have h:y8 CN CG (cap (Bv k a b)) Q E H:=h;refine{_,Z9,t,_,_,_,Z9,Z9,SqT.of ht,Z9,_,Z9,_,Z9,k,a,b,Z9,vm Z h1 e1,vm Z h2 e2,?_}
    cases e3:Bv k a b with
    |nought=>rw[e3]at h;exact h
    |great=>rw[e3]at h;exact h
    |ok r=>
     rw[e3]at h;have h':y8 CN CG (if 10^15<tU r then .great else .ok r) Q E H:=h;refine{_,Z9,_,Z9,_,_,Z9,Z9,Y,_,_,Z9,Z9,_,Z9,gA (fun c=>?_) (fun c=>?_)}
     ·rw[if_pos (show 10^15<tU r from lJ c)]at h';exact⟨l1,h'⟩
     ·rw[if_neg (show ¬10^15<tU r from lY c)]at h';exact{_,Z9,h'}
theorem Gi(F:Fm):0<F.depth:=by cases F<;>exact nU _
theorem OL(D:Df K mg "worth_of" mT ["formula","state","now","got"] f fd)(DT:Df K mg "number_of_two" ir ["kind","first","second"] fT fdT)(Z:Df K mg "number_of_division" eI ["kind","first","second"] fD fdD)
  (W:Df K mg "number_of_leaf" gT ["formula","state","now","got"] fL fdL) (T:Fts K mg CN CG) (V:MdT K mg CM CS) (B:Bl mg):∀n:Nat,bN P w K mg base (CXo P w) (n+2) f fd ["formula","state","now","got"] (Jt K CS CN CG bs qs n)
 |0=>by
  have Y:∀vs H Q E,¬Jt K CS CN CG bs qs 0 vs H Q E:=fun vs H Q E h=>by
   obtain⟨v,F,st,U,e,_,_,O,_⟩:=h;have:=Gi F;omega
  exact{fun vs H Q E h=>absurd h (Y vs H Q E),fun A outer s H args us vs Q E _ _ _ _ h=>absurd h (Y vs H Q E)}
 |n+1=>MG D DT Z W T V B (OL D DT Z W T V B n)
end
mutual
inductive Dd where
 |put(x:Str)(f:Fm)
 |push(q:Str)(f:Fm)
 |pull(q x:Str)(o:Ds)
 |draw(x:Str)(f:Fm)
 |send(to:Int)(sg:Str)(sp:Fm)(rk:Int)(a b:Fm)
 |ife(f:Fm)(t e:Ds)
 |fin
inductive Ds where
 |nil
 |cons(d:Dd)(r:Ds)
end
inductive Flt where
 |nought
 |great
 |full
 |dry
 |span
 |late
structure Ev where
 t:Int
 r:Int
 fr:Int
 c:Int
 to:Int
 sg:Str
 a:Int
 b:Int
structure Wk where
 bx:List (Str×Int)
 qu:List (Str×List Int)
 dr:Nat
 se:Int
 wr:List Str
 out:List Ev
 en:Bool
 rk:List Fm
 qn:List Str
def Wk.len(w:Wk):Nat:=w.out.length+w.rk.length
def xm(ps:List (Str×Int))(x:Str):Int:=(ps.lookup x).getD 0
def kQ(ps:List (Str×List Int))(x:Str):List Int:=(ps.lookup x).getD []
def pO{α:Type}(ps:List (Str×α))(x:Str)(n:α):List (Str×α):=ps.map fun p=>if p.1=x then (p.1,n) else p
def oC(xs:List Str)(x:Str):List Str:=if x∈xs then xs else xs++[x]
def Bw(h:Ev)(w:Wk):Aa:={xm w.bx,fun q=>(kQ w.qu q).length,h.a,h.b,h.t}
def rck(h:Ev)(w:Wk)(f:Fm)(k:Wk->Int->Except Flt Wk):Except Flt Wk:=match ev (Bw h w) f with
 |.ok n=>k {w with rk:=w.rk++[f]} n
 |.nought=>.error .nought
 |.great=>.error .great
def Jv(w:Wk)(x:Str)(n:Int):Wk:={w with bx:=pO w.bx x n,wr:=oC w.wr x}
def sendW(h:Ev)(w:Wk)(to:Int)(Z:Str)(rk t a b:Int):Wk:={w with se:=w.se+1,out:=w.out++[⟨t,rk,h.to,w.se,to,Z,a,b⟩]}
mutual
def doD(h:Ev)(ds:List Int):Dd->Wk->Except Flt Wk
 |.put x f,w=>rck h w f fun w n=>.ok (Jv w x n)
 |.push q f,w=>rck h w f fun w n=>if 30<=(kQ w.qu q).length then .error .full else .ok {w with qu:=pO w.qu q (kQ w.qu q++[n]),wr:=oC w.wr q,qn:=oC w.qn q}
 |.pull q x o,w=>match kQ w.qu q with
  | []=>doS h ds o {w with qn:=oC w.qn q}
  |n::ns=>.ok {w with qu:=pO w.qu q ns,bx:=pO w.bx x n,wr:=oC (oC w.wr x) q,qn:=oC w.qn q}
 |.draw x f,w=>rck h w f fun w n=>if n<1 then .error .nought else if ds=[] then .error .dry else .ok (Jv {w with dr:=w.dr+1} x (ds.getD (w.dr%ds.length) 0%n))
 |.send to Z sp rk a b,w=>rck h w sp fun w n=>if n<1\/10^6<n then .error .span else rck h w a fun w x=>rck h w b fun w y=>if 10^12<h.t+n then .error .late else .ok (sendW h w to Z rk (h.t+n) x y)
 |.ife f t e,w=>rck h w f fun w n=>if n=0 then doS h ds e w else doS h ds t w
 |.fin,w=>.ok {w with en:=true}
def doS(h:Ev)(ds:List Int):Ds->Wk->Except Flt Wk
 |.nil,w=>.ok w
 |.cons d r,w=>match doD h ds d w with
  |.ok Z=>doS h ds r Z
  |.error e=>.error e
end
mutual
def Dd.deep:Dd->Nat
 |.pull _ _ o=>o.deep+1
 |.ife _ t e=>max t.deep e.deep+1
 |_=>0
def Ds.deep:Ds->Nat
 |.nil=>0
 |.cons d r=>max d.deep r.deep
end
def oj(H:Hp)(R:List V->Prop)(v:V):Prop:=∃l vs,v=.ref l/\H l=Z8 (.lst vs)/\vs.length<1000/\R vs
def FmI(bs qs:List Str)(H:Hp)(v:V)(f:Fm):Prop:=kf bs qs H v f/\f.depth<=15
mutual
def eT(bs qs:List Str)(H:Hp):Dd->V->Prop
 |.put x f,v=>∃t u,v=.ref t/\H t=Z8 (.tup [.str "put",.str x,u])/\x∈bs/\FmI bs qs H u f
 |.push q f,v=>∃t u,v=.ref t/\H t=Z8 (.tup [.str "push",.str q,u])/\q∈qs/\FmI bs qs H u f
 |.pull q x o,v=>∃t u,v=.ref t/\H t=Z8 (.tup [.str "pull",.str q,.str x,u])/\q∈qs/\x∈bs/\oj H (fJ bs qs H o) u
 |.draw x f,v=>∃t u,v=.ref t/\H t=Z8 (.tup [.str "draw",.str x,u])/\x∈bs/\FmI bs qs H u f
 |.send to Z sp rk a b,v=>∃t u u1 u2,v=.ref t/\H t=Z8 (.tup [.str "send",.int to,.str Z,u,.int rk,u1,u2])/\FmI bs qs H u sp/\FmI bs qs H u1 a/\FmI bs qs H u2 b
 |.ife f x y,v=>∃t u u1 u2,v=.ref t/\H t=Z8 (.tup [.str "if",u,u1,u2])/\FmI bs qs H u f/\oj H (fJ bs qs H x) u1/\oj H (fJ bs qs H y) u2
 |.fin,v=>∃t,v=.ref t/\H t=Z8 (.tup [.str "end"])
def fJ(bs qs:List Str)(H:Hp):Ds->List V->Prop
 |.nil,vs=>vs=[]
 |.cons d r,vs=>∃v Z,vs=v::Z/\eT bs qs H d v/\fJ bs qs H r Z
end
theorem oj.same(s:bj H H')(f:∀vs,R vs->Z vs)(h:oj H R v):oj H' Z v:=by
 obtain⟨l,vs,e,h1,h2,Y⟩:=h;exact{l,vs,e,s _ _ h1,h2,f vs Y}
theorem FmI.same(s:bj H H')(h:FmI bs qs H v f):FmI bs qs H' v f:={h.1.same s,h.2}
mutual
theorem eT.same{bs qs:List Str}{H H':Hp}(s:bj H H'):∀(d:Dd) (v:V),eT bs qs H d v->eT bs qs H' d v
 |.put x f,v,h=>by
  obtain⟨t,u,e,h1,h2,Z⟩:=(by simpa only[eT] using h);simp only[eT];exact{t,u,e,s _ _ h1,h2,Z.same s}
 |.push q f,v,h=>by
  obtain⟨t,u,e,h1,h2,Z⟩:=(by simpa only[eT] using h);simp only[eT];exact{t,u,e,s _ _ h1,h2,Z.same s}
 |.pull q x o,v,h=>by
  obtain⟨t,u,e,h1,h2,Z,Y⟩:=(by simpa only[eT] using h);simp only[eT];exact{t,u,e,s _ _ h1,h2,Z,Y.same s (fJ.same s o)}
 |.draw x f,v,h=>by
  obtain⟨t,u,e,h1,h2,Z⟩:=(by simpa only[eT] using h);simp only[eT];exact{t,u,e,s _ _ h1,h2,Z.same s}
 |.send to W sp rk a b,v,h=>by
  obtain⟨t,u,u1,u2,e,h1,h2,Z,Y⟩:=(by simpa only[eT] using h);simp only[eT];exact{t,u,u1,u2,e,s _ _ h1,h2.same s,Z.same s,Y.same s}
 |.ife f x y,v,h=>by
  obtain⟨t,u,u1,u2,e,h1,h2,Z,Y⟩:=(by simpa only[eT] using h);simp only[eT];exact{t,u,u1,u2,e,s _ _ h1,h2.same s,Z.same s (fJ.same s x),Y.same s (fJ.same s y)}
 |.fin,v,h=>by
  obtain⟨t,e,h1⟩:=(by simpa only[eT] using h);simp only[eT];exact{t,e,s _ _ h1}
theorem fJ.same{bs qs:List Str}{H H':Hp}(s:bj H H'):∀(d:Ds) (vs:List V),fJ bs qs H d vs->fJ bs qs H' d vs
 |.nil,vs,h=>by
  simpa only[fJ] using h
 |.cons d r,vs,h=>by
  obtain⟨v,Z,e,h1,h2⟩:=(by simpa only[fJ] using h);simp only[fJ];exact{v,Z,e,eT.same s d v h1,fJ.same s r Z h2}
end
def iW(H:Hp)(v:V)(e:Ev):Prop:=∃t k,v=.ref t/\H t=Z8 (.tup [.ref k,.int e.to,.str e.sg,.int e.a,.int e.b])/\H k=Z8 (.tup [.int e.t,.int e.r,.int e.fr,.int e.c])
theorem iW.same(s:bj H H')(h:iW H v e):iW H' v e:=by
 obtain⟨t,k,Z,h1,h2⟩:=h;exact{t,k,Z,s _ _ h1,s _ _ h2}
def boK(ps:List (Str×Int)):List (Key×V):=ps.map fun p=>((Sum.inr p.1:Key),V.int p.2)
def quK(ps:List (Str×ae)):List (Key×V):=ps.map fun p=>((Sum.inr p.1:Key),V.ref p.2)
def wrK(xs:List Str):List (Key×V):=xs.map fun x=>((Sum.inr x:Key),V.bl true)
theorem tV{α:Type}(g:α->V)(x:Str):∀ps:List (Str×α),iR (ps.map fun p=>((Sum.inr p.1:Key),g p.2)) (Sum.inr x)=(ps.lookup x).map g
 | []=>rfl
 |p::ps=>by
  rw[bK]
  by_cases c:p.1=x
  ·rw[gZ (by rw[c])];obtain⟨a,b⟩:=p;dsimp only at c;subst c;rw[bS];rfl
  ·rw[g9 (fun z=>c (iu z)),tV g x ps];obtain⟨a,b⟩:=p;dsimp only at c;rw[cC];have:(x==a)=false:=beq_eq_false_iff_ne.mpr fun z=>c z.symm;rw[this]
theorem MH{α:Type}(g:α->V)(x:Str)(n:α){ps:List (Str×α)}(h:(ps.lookup x).isSome=true):iV (ps.map fun p=>((Sum.inr p.1:Key),g p.2)) (Sum.inr x) (g n)=(pO ps x n).map fun p=>((Sum.inr p.1:Key),g p.2):=by
 unfold iV;rw[jH,tV,kL,h,if_pos rfl];unfold pO;rw[dC,dC];apply gR;intro p _
 by_cases c:p.1=x
 ·simp only[kX,c,if_true]
 ·simp only[kX,if_neg c,if_neg (fun z=>c (iu z):¬(Sum.inr p.1:Key)=Sum.inr x)]
theorem EK(xs:List Str)(x:Str):iR (wrK xs) (Sum.inr x)=if x∈xs then Z8 (.bl true) else Z7:=by
 induction xs with
 |nil=>rfl
 |cons y xs Z=>
  unfold wrK at Z |-;rw[bK]
  by_cases c:y=x
  ·rw[gZ (by rw[c]),if_pos (by rw[c];exact aB)]
  ·rw[g9 (fun z=>c (iu z)),Z]
   by_cases m:x∈xs
   ·rw[if_pos m,if_pos (aj _ m)]
   ·rw[if_neg m,if_neg];intro z
    rcases aq.mp z with z|z
    ·exact c z.symm
    ·exact m z
theorem EL(xs:List Str)(x:Str):iV (wrK xs) (Sum.inr x) (.bl true)=wrK (oC xs x):=by
 unfold iV;rw[jH,EK]
 by_cases m:x∈xs
 ·rw[if_pos m];unfold oC;rw[if_pos m];show (if true=true then _ else _)=_;rw[if_pos rfl];unfold wrK;rw[dC];apply gR;intro y _
  by_cases c:y=x
  ·simp only[kX,c,if_true]
  ·simp only[kX,if_neg (fun z=>c (iu z):¬(Sum.inr y:Key)=Sum.inr x)]
 ·rw[if_neg m];unfold oC;rw[if_neg m];show (if false=true then _ else _)=_;rw[if_neg (by decide)];unfold wrK;rw[bA];rfl
theorem y9{α:Type}(ps:List (Str×α))(x:Str)(n:α):(pO ps x n).map (·.1)=ps.map (·.1):=by
 unfold pO;rw[dC];apply gR;intro p _;show (if p.1=x then (p.1,n) else p).1=p.1
 split<;>rfl
theorem oU{α:Type}:∀{ps:List (Str×α)},x∈ps.map (·.1)->∃a,ps.lookup x=Z8 a/\(x,a)∈ps
 | [],h=>by cases h
 |p::ps,h=>by
  obtain⟨k,a⟩:=p
  by_cases c:x=k
  ·subst c;exact⟨a,bS,aB⟩
  ·have h':x∈ps.map (·.1):=by
    rcases aq.mp h with z|z
    ·exact absurd z c
    ·exact z
   obtain⟨b,h1,h2⟩:=oU h';refine{b,?_,aj _ h2};rw[cC,beq_eq_false_iff_ne.mpr c];exact h1
theorem Bx{α:Type}{n:α}{ps:List (Str×α)}{q:Str×α}(h:q∈pO ps x n):q∈ps\/q.2=n:=by
 obtain⟨p,hp,e⟩:=cB.mp h
 by_cases c:p.1=x
 ·rw[if_pos c]at e;subst e;exact .inr rfl
 ·rw[if_neg c]at e;subst e;exact .inl hp
structure DT(K:ag)(mg:Str->Option af)(CD:ae):Prop where
 cl:Cls K CD
 nM:fk K CD "machine"
 nH:fk K CD "happening"
 nS:fk K CD "state"
 nW:fk K CD "written"
 nO:fk K CD "outgoing"
 nE:fk K CD "ends"
 nR:fk K CD "reckoned"
 nQ:fk K CD "queued"
 mD:mg "Doing"=Z8 (.ref CD)
def dF(m h:V)(st Y od:ae)(en:Bool)(W Z:ae):List (Str×V):=[("machine",m),("happening",h),("state",.ref st),("written",.ref Y),("outgoing",.ref od),("ends",.bl en),("reckoned",.ref W),("queued",.ref Z)]
abbrev Dj:List Str:=["machine","happening","state","written","outgoing","ends","reckoned","queued"]
theorem QD(m h:V)(st Y od:ae)(en:Bool)(W Z:ae):(dF m h st Y od en W Z).lookup ("machine":Str)=Z8 m:=bS
theorem eA{k x:Str}{v:V}(h:(x==k)=false):((k,v)::r).lookup x=r.lookup x:=by rw[cC,h]
theorem Jw(m h:V)(st Y od:ae)(en:Bool)(W Z:ae):(dF m h st Y od en W Z).lookup ("happening":Str)=Z8 h:=by
 unfold dF;rw[eA #[1],bS]
theorem vG(m h:V)(st Y od:ae)(en:Bool)(W Z:ae):(dF m h st Y od en W Z).lookup ("state":Str)=Z8 (.ref st):=by
 unfold dF;rw[eA #[1],eA #[1],bS]
theorem Gj(m h:V)(st Z od:ae)(en:Bool)(W Y:ae):(dF m h st Z od en W Y).lookup ("written":Str)=Z8 (.ref Z):=by
 unfold dF;rw[eA #[1],eA #[1],eA #[1],bS]
theorem QE(m h:V)(st Y od:ae)(en:Bool)(W Z:ae):(dF m h st Y od en W Z).lookup ("outgoing":Str)=Z8 (.ref od):=by
 unfold dF;rw[eA #[1],eA #[1],eA #[1],eA #[1],bS]
theorem dF_e(m h:V)(st Y od:ae)(en:Bool)(W Z:ae):(dF m h st Y od en W Z).lookup ("ends":Str)=Z8 (.bl en):=by
 unfold dF;rw[eA #[1],eA #[1],eA #[1],eA #[1],eA #[1],bS]
theorem dF_r(m h:V)(st W od:ae)(en:Bool)(Z Y:ae):(dF m h st W od en Z Y).lookup ("reckoned":Str)=Z8 (.ref Z):=by
 unfold dF;rw[eA #[1],eA #[1],eA #[1],eA #[1],eA #[1],eA #[1],bS]
theorem dF_u(m h:V)(st Y od:ae)(en:Bool)(W Z:ae):(dF m h st Y od en W Z).lookup ("queued":Str)=Z8 (.ref Z):=by
 unfold dF;rw[eA #[1],eA #[1],eA #[1],eA #[1],eA #[1],eA #[1],eA #[1],bS]
theorem p4(m h:V)(st Y od:ae)(en:Bool)(W Z:ae)(hx:Dj.contains x=false):(dF m h st Y od en W Z).lookup x=Z7:=by
 have z:∀k∈Dj,(x==k)=false:=fun k hk=>beq_eq_false_iff_ne.mpr fun e=>by
  rw[e,rj.mpr hk]at hx
  cases hx
 unfold dF;rw[eA (z _ #[5]),eA (z _ #[5]),eA (z _ #[5]),eA (z _ #[5]),eA (z _ #[5]),eA (z _ #[5]),eA (z _ #[5]),eA (z _ #[5])];rfl
theorem sne{a b:Str}(h:(a==b)=false):¬a=b:=fun e=>by
 rw[e,beq_self_eq_true]at h
 cases h
theorem QF(m h:V)(st Y od:ae)(en:Bool)(W Z:ae):dO "queued" (.ref Z) (dO "reckoned" (.ref W) (dO "ends" (.bl en) (dO "outgoing" (.ref od) (dO "written" (.ref Y) (dO "state" (.ref st) (dO "happening" h (dO "machine" m [])))))))=dF m h st Y od en W Z:=by
 simp only[dF,dO,if_neg (sne (a:="machine") (b:="happening") #[1]),if_neg (sne (a:="machine") (b:="state") #[1]),if_neg (sne (a:="machine") (b:="written") #[1]),if_neg (sne (a:="machine") (b:="outgoing") #[1]),if_neg (sne (a:="machine") (b:="ends") #[1]),if_neg (sne (a:="machine") (b:="reckoned") #[1]),if_neg (sne (a:="machine") (b:="queued") #[1]),if_neg (sne (a:="happening") (b:="state") #[1]),if_neg (sne (a:="happening") (b:="written") #[1]),if_neg (sne (a:="happening") (b:="outgoing") #[1]),if_neg (sne (a:="happening") (b:="ends") #[1]),if_neg (sne (a:="happening") (b:="reckoned") #[1]),if_neg (sne (a:="happening") (b:="queued") #[1]),if_neg (sne (a:="state") (b:="written") #[1]),if_neg (sne (a:="state") (b:="outgoing") #[1]),if_neg (sne (a:="state") (b:="ends") #[1]),if_neg (sne (a:="state") (b:="reckoned") #[1]),if_neg (sne (a:="state") (b:="queued") #[1]),if_neg (sne (a:="written") (b:="outgoing") #[1]),if_neg (sne (a:="written") (b:="ends") #[1]),if_neg (sne (a:="written") (b:="reckoned") #[1]),if_neg (sne (a:="written") (b:="queued") #[1]),if_neg (sne (a:="outgoing") (b:="ends") #[1]),if_neg (sne (a:="outgoing") (b:="reckoned") #[1]),if_neg (sne (a:="outgoing") (b:="queued") #[1]),if_neg (sne (a:="ends") (b:="reckoned") #[1]),if_neg (sne (a:="ends") (b:="queued") #[1]),if_neg (sne (a:="reckoned") (b:="queued") #[1])]
theorem QG(m h:V)(st Y od:ae)(en U:Bool)(W Z:ae):dO "ends" (.bl U) (dF m h st Y od en W Z)=dF m h st Y od U W Z:=by
 simp only[dF,dO,if_neg (sne (a:="machine") (b:="ends") #[1]),if_neg (sne (a:="happening") (b:="ends") #[1]),if_neg (sne (a:="state") (b:="ends") #[1]),if_neg (sne (a:="written") (b:="ends") #[1]),if_neg (sne (a:="outgoing") (b:="ends") #[1]),if_true]
theorem lu(b q d e:V):pK b q d e=([("boxes",b),("queues",q),("drawn",d),("sent",e)]:List (Str×V)):=by
 simp only[pK,dO,if_neg (sne (a:="boxes") (b:="queues") #[1]),if_neg (sne (a:="boxes") (b:="drawn") #[1]),if_neg (sne (a:="boxes") (b:="sent") #[1]),if_neg (sne (a:="queues") (b:="drawn") #[1]),if_neg (sne (a:="queues") (b:="sent") #[1]),if_neg (sne (a:="drawn") (b:="sent") #[1])]
theorem QH(b q d e d':V):dO "drawn" d' (pK b q d e)=pK b q d' e:=by
 rw[lu,lu];simp only[dO,if_neg (sne (a:="boxes") (b:="drawn") #[1]),if_neg (sne (a:="queues") (b:="drawn") #[1]),if_true]
theorem QI(b q d e Z:V):dO "sent" Z (pK b q d e)=pK b q d Z:=by
 rw[lu,lu];simp only[dO,if_neg (sne (a:="boxes") (b:="sent") #[1]),if_neg (sne (a:="queues") (b:="sent") #[1]),if_neg (sne (a:="drawn") (b:="sent") #[1]),if_true]
theorem MI(b q d e:V):(pK b q d e).lookup ("boxes":Str)=Z8 b:=by rw[lu,bS]
theorem MJ(b q d e:V):(pK b q d e).lookup ("queues":Str)=Z8 q:=by rw[lu,eA #[1],bS]
theorem Jx(b q d e:V):(pK b q d e).lookup ("drawn":Str)=Z8 d:=by rw[lu,eA #[1],eA #[1],bS]
theorem Jy(b q d e:V):(pK b q d e).lookup ("sent":Str)=Z8 e:=by rw[lu,eA #[1],eA #[1],eA #[1],bS]
theorem st_no(b q d e:V)(hx:(["boxes","queues","drawn","sent"]:List Str).contains x=false):(pK b q d e).lookup x=Z7:=by
 have z:∀k∈(["boxes","queues","drawn","sent"]:List Str),(x==k)=false:=fun k hk=>beq_eq_false_iff_ne.mpr fun e=>by
  rw[e,rj.mpr hk]at hx
  cases hx
 rw[lu,eA (z _ #[5]),eA (z _ #[5]),eA (z _ #[5]),eA (z _ #[5])];rfl
theorem Jz(b q d e:V):(pK b q d e).length<1000:=by
 rw[lu];show 4<1000;decide
theorem QJ(m h:V)(st Y od:ae)(en:Bool)(W Z:ae):(dF m h st Y od en W Z).length<1000:=by show 8<1000;decide
structure Lay where
 d:ae
 dx:ae
 st:ae
 dxs:ae
 bd:ae
 qd:ae
 wd:ae
 od:ae
 rd:ae
 ud:ae
 m:V
 hv:V
 qa:List (Str×ae)
def Lay.all(L:Lay):List ae:=L.d::L.st::L.bd::L.qd::L.wd::L.od::L.rd::L.ud::L.qa.map (·.2)
def gE(G:Hp):List (Str×ae)->List (Str×List Int)->Prop:=aN fun p q=>p.1=q.1/\G p.2=Z8 (.lst (q.2.map V.int))
structure qO(bs qs:List Str)(w:Wk):Prop where
 kb:w.bx.map (·.1)=bs
 kq:w.qu.map (·.1)=qs
 nb:bs.Nodup
 nq:qs.Nodup
 wb:∀p∈w.bx,Wo p.2
 wq:∀p∈w.qu,p.2.length<=30/\∀n∈p.2,Wo n
 nw:w.wr.Nodup
 sw:∀x∈w.wr,x∈bs++qs
 nu:w.qn.Nodup
 su:∀x∈w.qn,x∈bs++qs
 wo:∀e∈w.out,Wo e.a/\Wo e.b
 fw:(bs++qs).length<100
structure Dg(CD CS:ae)(bs qs:List Str)(H0 G:Hp)(L:Lay)(h:Ev)(ds:List Int)(w:Wk):Prop where
 sm:bj H0 G
 hd:G L.d=Z8 (.ins CD L.dx (dF L.m L.hv L.st L.wd L.od w.en L.rd L.ud))
 hst:G L.st=Z8 (.ins CS L.dxs (pK (.ref L.bd) (.ref L.qd) (.int w.dr) (.int w.se)))
 hb:G L.bd=Z8 (.dK (boK w.bx))
 hq:G L.qd=Z8 (.dK (quK L.qa))
 hl:gE G L.qa w.qu
 hw:G L.wd=Z8 (.dK (wrK w.wr))
 ho:∃vs,G L.od=Z8 (.lst vs)/\aN (iW G) vs w.out
 hr:∃rs,G L.rd=Z8 (.lst rs)/\aN (FmI bs qs H0) rs w.rk
 hu:G L.ud=Z8 (.dK (wrK w.qn))
 hh:iW H0 L.hv h
 hm:∃t x1 x2 x3 x4 dl,L.m=.ref t/\H0 t=Z8 (.tup [x1,x2,x3,.ref dl,x4])/\H0 dl=Z8 (.lst (ds.map V.int))
 nd:L.all.Nodup
 fr:∀a∈L.all,H0 a=Z7
 ok:qO bs qs w
 wt:Wo h.t
 wa:Wo h.a
 wb:Wo h.b
section
variable{CD CS:ae}{bs qs:List Str}{H0 G G':Hp}{L:Lay}{h:Ev}{ds:List Int}{w:Wk}
theorem gE.keep(k:∀a u,G a=Z8 u->a∈L.qa.map (·.2)->G' a=Z8 u)(sub:∀p∈Z,p∈L.qa)(q:gE G Z qu):gE G' Z qu:=by
 unfold gE at q |-
 induction q with
 |nil=>exact .nil
 |cons a _ Y=>exact .cons {a.1,k _ _ a.2 (cB.mpr {_,sub _ aB,Z9})} (Y fun p hp=>sub p (aj _ hp))
theorem Paired.mono{α Z:Type}{R S:α->Z->Prop}(f:∀a b,R a b->S a b){xs:List α}{ys:List Z}(r:aN R xs ys):aN S xs ys:=L2.Paired.imp' f r
theorem Dg.same(g:Dg CD CS bs qs H0 G L h ds w)(s:bj G G'):Dg CD CS bs qs H0 G' L h ds w:=by
 obtain⟨vs,Y,V⟩:=g.ho;obtain⟨rs,W,Z⟩:=g.hr;exact{g.sm.trans s,s _ _ g.hd,s _ _ g.hst,s _ _ g.hb,s _ _ g.hq,g.hl.keep (L:=L) (fun a u e _=>s _ _ e) (fun _ hp=>hp),s _ _ g.hw,{vs,s _ _ Y,Paired.mono (fun _ _ z=>z.same s) V},{rs,s _ _ W,Z},s _ _ g.hu,g.hh,g.hm,g.nd,g.fr,g.ok,g.wt,g.wa,g.wb}
structure Lay.Ne(L:Lay):Prop where
 ds:L.d≠L.st
 db:L.d≠L.bd
 dq:L.d≠L.qd
 dw:L.d≠L.wd
 do_:L.d≠L.od
 dr:L.d≠L.rd
 du:L.d≠L.ud
 dl:∀a∈L.qa.map (·.2),L.d≠a
 sb:L.st≠L.bd
 sq:L.st≠L.qd
 sw:L.st≠L.wd
 so:L.st≠L.od
 sr:L.st≠L.rd
 su:L.st≠L.ud
 sl:∀a∈L.qa.map (·.2),L.st≠a
 bq:L.bd≠L.qd
 bw:L.bd≠L.wd
 bo:L.bd≠L.od
 br:L.bd≠L.rd
 bu:L.bd≠L.ud
 bl:∀a∈L.qa.map (·.2),L.bd≠a
 qw:L.qd≠L.wd
 qo:L.qd≠L.od
 qr:L.qd≠L.rd
 qu:L.qd≠L.ud
 ql:∀a∈L.qa.map (·.2),L.qd≠a
 wo:L.wd≠L.od
 wr:L.wd≠L.rd
 wu:L.wd≠L.ud
 wl:∀a∈L.qa.map (·.2),L.wd≠a
 or:L.od≠L.rd
 ou:L.od≠L.ud
 ol:∀a∈L.qa.map (·.2),L.od≠a
 ru:L.rd≠L.ud
 rl:∀a∈L.qa.map (·.2),L.rd≠a
 ul:∀a∈L.qa.map (·.2),L.ud≠a
 ll:(L.qa.map (·.2)).Nodup
theorem Lay.ne(W:L.all.Nodup):L.Ne:=by
 unfold Lay.all at W;have cut:∀{a:ae} {xs:List ae},(a::xs).Nodup->(∀b∈xs,a≠b)/\xs.Nodup:=fun {a xs} z=>by
  obtain⟨V,U⟩:=cH.mp z;exact{fun b hb e=>V (by rw[e];exact hb),U}
 obtain⟨a1,W⟩:=cut W;obtain⟨a2,W⟩:=cut W;obtain⟨a3,W⟩:=cut W;obtain⟨a4,W⟩:=cut W;obtain⟨a5,W⟩:=cut W;obtain⟨a6,W⟩:=cut W;obtain⟨a7,W⟩:=cut W;obtain⟨a8,W⟩:=cut W;have Y:∀{b:ae} {xs:List ae},b∈b::xs:=aB;have Z:∀{a b:ae} {xs:List ae},b∈xs->b∈a::xs:=fun z=>aj _ z;exact{a1 _ Y,a1 _ (Z Y),a1 _ (Z (Z Y)),a1 _ (Z (Z (Z Y))),a1 _ (Z (Z (Z (Z Y)))),a1 _ (Z (Z (Z (Z (Z Y))))),a1 _ (Z (Z (Z (Z (Z (Z Y)))))),fun a ha=>a1 _ (Z (Z (Z (Z (Z (Z (Z ha))))))),a2 _ Y,a2 _ (Z Y),a2 _ (Z (Z Y)),a2 _ (Z (Z (Z Y))),a2 _ (Z (Z (Z (Z Y)))),a2 _ (Z (Z (Z (Z (Z Y))))),fun a ha=>a2 _ (Z (Z (Z (Z (Z (Z ha)))))),a3 _ Y,a3 _ (Z Y),a3 _ (Z (Z Y)),a3 _ (Z (Z (Z Y))),a3 _ (Z (Z (Z (Z Y)))),fun a ha=>a3 _ (Z (Z (Z (Z (Z ha))))),a4 _ Y,a4 _ (Z Y),a4 _ (Z (Z Y)),a4 _ (Z (Z (Z Y))),fun a ha=>a4 _ (Z (Z (Z (Z ha)))),a5 _ Y,a5 _ (Z Y),a5 _ (Z (Z Y)),fun a ha=>a5 _ (Z (Z (Z ha))),a6 _ Y,a6 _ (Z Y),fun a ha=>a6 _ (Z (Z ha)),a7 _ Y,fun a ha=>a7 _ (Z ha),fun a ha=>a8 _ ha,W}
theorem mr(Z:∀xs,G a≠Z8 (.tup xs))(r:aN (iW G) vs es):aN (iW (upd G a o)) vs es:=
 Paired.mono (fun v e z=>by
  obtain⟨t,k,Y,h1,h2⟩:=z;refine{t,k,Y,?_,?_}
  ·rw[aQ fun y=>Z _ (by rw[<- y];exact h1)];exact h1
  ·rw[aQ fun y=>Z _ (by rw[<- y];exact h2)];exact h2) r
theorem Dg.sm_upd(g:Dg CD CS bs qs H0 G L h ds w)(ha:a∈L.all)(o:HO):bj H0 (upd G a o):=fun b u e=>by
 rw[aQ (aJ e (g.fr a ha))];exact g.sm _ _ e
theorem in_d:L.d∈L.all:=aB
theorem OM:L.st∈L.all:=aj _ aB
theorem ON:L.bd∈L.all:=aj _ (aj _ aB)
theorem in_qd:L.qd∈L.all:=aj _ (aj _ (aj _ aB))
theorem OO:L.wd∈L.all:=aj _ (aj _ (aj _ (aj _ aB)))
theorem JA:L.od∈L.all:=aj _ (aj _ (aj _ (aj _ (aj _ aB))))
theorem in_rd:L.rd∈L.all:=aj _ (aj _ (aj _ (aj _ (aj _ (aj _ aB)))))
theorem in_ud:L.ud∈L.all:=aj _ (aj _ (aj _ (aj _ (aj _ (aj _ (aj _ aB))))))
theorem in_l(h:a∈L.qa.map (·.2)):a∈L.all:=aj _ (aj _ (aj _ (aj _ (aj _ (aj _ (aj _ (aj _ h)))))))
theorem bh(e:G a=Z8 o)(n:a≠b):upd G b o' a=Z8 o:=by rw[aQ n];exact e
theorem mw(e:G a=Z8 o)(n:∀xs,o≠.tup xs):∀xs,G a≠Z8 (.tup xs):=fun xs z=>by
 rw[e]at z
 cases z;exact n xs rfl
theorem Dg.box(g:Dg CD CS bs qs H0 G L h ds w)(I:Wo n):Dg CD CS bs qs H0 (upd G L.bd (.dK (boK (pO w.bx x n)))) L h ds {w with bx:=pO w.bx x n}:=by
 have N:=Lay.ne g.nd;obtain⟨vs,Y,M⟩:=g.ho;obtain⟨rs,O,Z⟩:=g.hr;refine{g.sm_upd ON _,bh g.hd N.db,bh g.hst N.sb,ak,bh g.hq N.bq.symm,g.hl.keep (L:=L) (fun a u e m=>bh e (N.bl a m).symm) (fun _ hp=>hp),bh g.hw N.bw.symm,{vs,bh Y N.bo.symm,mr (mw g.hb (fun _ z=>by cases z)) M},{rs,bh O N.br.symm,Z},bh g.hu N.bu.symm,g.hh,g.hm,g.nd,g.fr,?_,g.wt,g.wa,g.wb};obtain⟨V,U,W,nq,D,wq,nw,sw,nu,J,wo,t⟩:=g.ok;refine{(y9 _ _ _).trans V,U,W,nq,fun p hp=>?_,wq,nw,sw,nu,J,wo,t}
 rcases Bx hp with z|z
 ·exact D p z
 ·rw[z];exact I
theorem EM(h:xs.Nodup):(oC xs x).Nodup:=by
 unfold oC
 by_cases c:x∈xs
 ·rw[if_pos c];exact h
 ·rw[if_neg c];refine gI.mpr {h,by simp,fun a ha b hb=>?_};rw[aK.mp hb];exact fun z=>c (by rw[<- z];exact ha)
theorem By(h:y∈oC xs x):y∈xs\/y=x:=by
 unfold oC at h
 by_cases c:x∈xs
 ·rw[if_pos c]at h;exact .inl h
 ·rw[if_neg c]at h
  rcases cj.mp h with z|z
  ·exact .inl z
  ·exact .inr (aK.mp z)
theorem JB{xs:List Str}:∀{ys:List Str},xs.Nodup->(∀x∈xs,x∈ys)->xs.length<=ys.length:=by
 induction xs with
 |nil=>intro ys _ _;exact aW _
 |cons x xs V=>
  intro ys Z s;obtain⟨Y,W⟩:=cH.mp Z;have hx:x∈ys:=s x aB;have:=V (ys:=ys.erase x) W fun z hz=>(EN (fun e=>Y (by rw[<- e];exact hz))).mpr (s z (aj _ hz));rw[AU hx]at this;have:=B9 hx;rw[aX];omega
theorem qO.few(k:qO bs qs w):w.wr.length<100:=jm (JB k.nw k.sw) k.fw
theorem qO.few2(k:qO bs qs w):w.qn.length<100:=jm (JB k.nu k.su) k.fw
theorem Ac(xs:List Str):(wrK xs).length=xs.length:=ah _
theorem eJ:1000<aD:=by decide
theorem Dg.wrote(g:Dg CD CS bs qs H0 G L h ds w)(hx:x∈bs++qs):Dg CD CS bs qs H0 (upd G L.wd (.dK (wrK (oC w.wr x)))) L h ds {w with wr:=oC w.wr x}:=by
 have N:=Lay.ne g.nd;obtain⟨vs,Y,M⟩:=g.ho;obtain⟨rs,O,Z⟩:=g.hr;refine{g.sm_upd OO _,bh g.hd N.dw,bh g.hst N.sw,bh g.hb N.bw,bh g.hq N.qw,g.hl.keep (L:=L) (fun a u e m=>bh e (N.wl a m).symm) (fun _ hp=>hp),ak,{vs,bh Y N.wo.symm,mr (mw g.hw (fun _ z=>by cases z)) M},{rs,bh O N.wr.symm,Z},bh g.hu N.wu.symm,g.hh,g.hm,g.nd,g.fr,?_,g.wt,g.wa,g.wb};obtain⟨V,U,W,nq,I,t,nw,sw,nu,J,wo,D⟩:=g.ok;refine{V,U,W,nq,I,t,EM nw,fun y hy=>?_,nu,J,wo,D}
 rcases By hy with z|z
 ·exact sw y z
 ·rw[z];exact hx
theorem gE.at_:∀{Z:List (Str×ae)} {qu:List (Str×List Int)},gE G Z qu->x∈qu.map (·.1)->∃l,Z.lookup x=Z8 l/\G l=Z8 (.lst ((kQ qu x).map V.int))/\l∈Z.map (·.2)
 |_,_,.nil,m=>by cases m
 |(k,l)::Z,(O,xs)::qu,.cons a b,m=>by
  obtain⟨e,ha⟩:=a;dsimp only at e ha;subst e
  by_cases c:x=k
  ·subst c;refine{l,bS,?_,aB};unfold kQ;rw[bS];exact ha
  ·have W:x∈qu.map (·.1):=by
    rcases aq.mp m with z|z
    ·exact absurd z c
    ·exact z
   obtain⟨U,h1,h2,Y⟩:=gE.at_ b W;refine{U,?_,?_,aj _ Y}
   ·rw[cC,beq_eq_false_iff_ne.mpr c];exact h1
   ·unfold kQ at h2 |-;rw[cC,beq_eq_false_iff_ne.mpr c];exact h2
theorem qP{α:Type}{a:α}:∀{ps:List (Str×α)},ps.lookup x=Z8 a->(x,a)∈ps
 | [],h=>by cases h
 |(k,b)::ps,h=>by
  by_cases c:x=k
  ·subst c;rw[bS]at h
   cases h;exact aB
  ·rw[cC,beq_eq_false_iff_ne.mpr c]at h;exact aj _ (qP h)
theorem Gm{α:Type}{n:α}{ps:List (Str×α)}(h:x∉ps.map (·.1)):pO ps x n=ps:=by
 unfold pO;have:∀p∈ps,(if p.1=x then (p.1,n) else p)=p:=fun p hp=>if_neg fun e=>h (cB.mpr ⟨p,hp,e⟩);rw[gR this];exact List.map_id _
theorem gE.set:∀{Z:List (Str×ae)} {qu:List (Str×List Int)},gE G Z qu->(Z.map (·.2)).Nodup->(qu.map (·.1)).Nodup->Z.lookup x=Z8 l->gE (upd G l (.lst (ns.map V.int))) Z (pO qu x ns)
 |_,_,.nil,_,_,e=>by cases e
 |(k,U)::Z,(D,xs)::qu,.cons a b,O,nk,e=>by
  obtain⟨W,ha⟩:=a;dsimp only at W ha;subst W;obtain⟨Y,I⟩:=cH.mp O;obtain⟨M,J⟩:=cH.mp nk
  by_cases c:x=k
  ·subst c;rw[bS]at e
   cases e;show gE _ _ ((if x=x then (x,ns) else (x,xs))::pO qu x ns);rw[if_pos rfl,Gm M];refine .cons ⟨Z9,ak⟩ ?_;refine gE.keep (L:={0,0,0,0,0,0,0,0,0,0,.non,.non,Z}) (G:=G) (fun a u e m=>bh e fun z=>Y (by rw[<- z];exact m)) (fun _ hp=>hp) b
  ·rw[cC,beq_eq_false_iff_ne.mpr c]at e;show gE _ _ ((if k=x then (k,ns) else (k,xs))::pO qu x ns);rw[if_neg fun z=>c z.symm];refine .cons {Z9,bh ha fun z=>Y ?_} (gE.set b I J e);show U∈Z.map (·.2);rw[show U=l from z];exact cB.mpr {_,qP e,Z9}
theorem Dg.queue(g:Dg CD CS bs qs H0 G L h ds w)(M:L.qa.lookup x=Z8 l)(len:ns.length<=30)(wn:∀n∈ns,Wo n):Dg CD CS bs qs H0 (upd G l (.lst (ns.map V.int))) L h ds {w with qu:=pO w.qu x ns}:=by
 have N:=Lay.ne g.nd;have Z:l∈L.qa.map (·.2):=cB.mpr {_,qP M,Z9};obtain⟨vs,J,I⟩:=g.ho;obtain⟨rs,r1,r2⟩:=g.hr;obtain⟨kb,U,nb,O,wb,wq,nw,sw,nu,su,t,D⟩:=g.ok;have W:∃xs,G l=Z8 (.lst xs):=by
  have key:∀{Y:List (Str×ae)} {qu:List (Str×List Int)},gE G Y qu->l∈Y.map (·.2)->∃xs,G l=Z8 (.lst xs):=fun {Y qu} q=>by
   induction q with
   |nil=>intro m;cases m
   |cons a _ ih=>
    intro m
    rcases aq.mp m with z|z
    ·rw[z];exact{_,a.2}
    ·exact ih z
  exact key g.hl Z
 obtain⟨xs,W⟩:=W;refine{g.sm_upd (in_l Z) _,bh g.hd (N.dl l Z),bh g.hst (N.sl l Z),bh g.hb (N.bl l Z),bh g.hq (N.ql l Z),g.hl.set N.ll (by rw[U];exact O) M,bh g.hw (N.wl l Z),{vs,bh J (N.ol l Z),mr (mw W (fun _ z=>by cases z)) I},{rs,bh r1 (N.rl l Z),r2},bh g.hu (N.ul l Z),g.hh,g.hm,g.nd,g.fr,?_,g.wt,g.wa,g.wb};refine{kb,(y9 _ _ _).trans U,nb,O,wb,fun p hp=>?_,nw,sw,nu,su,t,D}
 rcases Bx hp with z|z
 ·exact wq p z
 ·rw[z];exact⟨len,wn⟩
theorem Dg.counts(g:Dg CD CS bs qs H0 G L h ds w)(dr:Nat)(se:Int):Dg CD CS bs qs H0 (upd G L.st (.ins CS L.dxs (pK (.ref L.bd) (.ref L.qd) (.int dr) (.int se)))) L h ds {w with dr:=dr,se:=se}:=by
 have N:=Lay.ne g.nd;obtain⟨vs,W,M⟩:=g.ho;obtain⟨rs,O,Z⟩:=g.hr;obtain⟨V,U,Y,nq,I,t,nw,sw,nu,J,wo,D⟩:=g.ok;exact{g.sm_upd OM _,bh g.hd N.ds,ak,bh g.hb N.sb.symm,bh g.hq N.sq.symm,g.hl.keep (L:=L) (fun a u e m=>bh e (N.sl a m).symm) (fun _ hp=>hp),bh g.hw N.sw.symm,{vs,bh W N.so.symm,mr (mw g.hst (fun _ z=>by cases z)) M},{rs,bh O N.sr.symm,Z},bh g.hu N.su.symm,g.hh,g.hm,g.nd,g.fr,⟨V,U,Y,nq,I,t,nw,sw,nu,J,wo,D⟩,g.wt,g.wa,g.wb}
theorem Dg.sent(g:Dg CD CS bs qs H0 G L h ds w)(hv:G L.od=Z8 (.lst vs))(he:iW G v e)(Y:Wo e.a/\Wo e.b):Dg CD CS bs qs H0 (upd G L.od (.lst (vs++[v]))) L h ds {w with out:=w.out++[e]}:=by
 have N:=Lay.ne g.nd;obtain⟨bu,Z,W⟩:=g.ho;obtain⟨rs,r1,D⟩:=g.hr;rw[hv]at Z
 cases Z;obtain⟨t,kq,nb,nq,wb,wq,J,M,I,su,O,U⟩:=g.ok;refine{g.sm_upd JA _,bh g.hd N.do_,bh g.hst N.so,bh g.hb N.bo,bh g.hq N.qo,g.hl.keep (L:=L) (fun a u e m=>bh e (N.ol a m).symm) (fun _ hp=>hp),bh g.hw N.wo,{_,ak,?_},{rs,bh r1 N.or.symm,D},bh g.hu N.ou.symm,g.hh,g.hm,g.nd,g.fr,{t,kq,nb,nq,wb,wq,J,M,I,su,fun x hx=>(cj.mp hx).elim (O x) fun z=>by rw[aK.mp z];exact Y,U},g.wt,g.wa,g.wb};exact mr (mw hv (fun _ z=>by cases z)) (dy W he)
theorem Dg.ended(g:Dg CD CS bs qs H0 G L h ds w):Dg CD CS bs qs H0 (upd G L.d (.ins CD L.dx (dF L.m L.hv L.st L.wd L.od true L.rd L.ud))) L h ds {w with en:=true}:=by
 have N:=Lay.ne g.nd;obtain⟨vs,W,M⟩:=g.ho;obtain⟨rs,O,Z⟩:=g.hr;obtain⟨V,U,Y,nq,I,t,nw,sw,nu,J,wo,D⟩:=g.ok;exact{g.sm_upd in_d _,ak,bh g.hst N.ds.symm,bh g.hb N.db.symm,bh g.hq N.dq.symm,g.hl.keep (L:=L) (fun a u e m=>bh e (N.dl a m).symm) (fun _ hp=>hp),bh g.hw N.dw.symm,{vs,bh W N.do_.symm,mr (mw g.hd (fun _ z=>by cases z)) M},{rs,bh O N.dr.symm,Z},bh g.hu N.du.symm,g.hh,g.hm,g.nd,g.fr,⟨V,U,Y,nq,I,t,nw,sw,nu,J,wo,D⟩,g.wt,g.wa,g.wb}
theorem Dg.reckoned(g:Dg CD CS bs qs H0 G L h ds w)(Y:G L.rd=Z8 (.lst rs))(M:FmI bs qs H0 v F):Dg CD CS bs qs H0 (upd G L.rd (.lst (rs++[v]))) L h ds {w with rk:=w.rk++[F]}:=by
 have N:=Lay.ne g.nd;obtain⟨vs,O,D⟩:=g.ho;obtain⟨rs',Z,W⟩:=g.hr;rw[Y]at Z
 cases Z;obtain⟨J,I,U,nq,wb,wq,nw,sw,nu,t,wo,fw⟩:=g.ok;exact{g.sm_upd in_rd _,bh g.hd N.dr,bh g.hst N.sr,bh g.hb N.br,bh g.hq N.qr,g.hl.keep (L:=L) (fun a u e m=>bh e (N.rl a m).symm) (fun _ hp=>hp),bh g.hw N.wr,{vs,bh O N.or,mr (mw Y (fun _ z=>by cases z)) D},{_,ak,dy W M},bh g.hu N.ru.symm,g.hh,g.hm,g.nd,g.fr,⟨J,I,U,nq,wb,wq,nw,sw,nu,t,wo,fw⟩,g.wt,g.wa,g.wb}
theorem Dg.queued(g:Dg CD CS bs qs H0 G L h ds w)(hx:x∈bs++qs):Dg CD CS bs qs H0 (upd G L.ud (.dK (wrK (oC w.qn x)))) L h ds {w with qn:=oC w.qn x}:=by
 have N:=Lay.ne g.nd;obtain⟨vs,Y,M⟩:=g.ho;obtain⟨rs,O,Z⟩:=g.hr;obtain⟨V,U,W,nq,I,t,nw,sw,nu,J,wo,D⟩:=g.ok;refine{g.sm_upd in_ud _,bh g.hd N.du,bh g.hst N.su,bh g.hb N.bu,bh g.hq N.qu,g.hl.keep (L:=L) (fun a u e m=>bh e (N.ul a m).symm) (fun _ hp=>hp),bh g.hw N.wu,{vs,bh Y N.ou,mr (mw g.hu (fun _ z=>by cases z)) M},{rs,bh O N.ru,Z},ak,g.hh,g.hm,g.nd,g.fr,{V,U,W,nq,I,t,nw,sw,EM nu,fun y hy=>?_,wo,D},g.wt,g.wa,g.wb}
 rcases By hy with z|z
 ·exact J y z
 ·rw[z];exact hx
theorem JC(m:x∈ps.map (·.1)):iR (boK ps) (Sum.inr x)=Z8 (.int (xm ps x)):=by
 obtain⟨a,h1,_⟩:=oU m;have z:=tV V.int x ps;rw[h1]at z;unfold xm;rw[h1];exact z
theorem JD(m:Z.lookup x=Z8 l):iR (quK Z) (Sum.inr x)=Z8 (.ref l):=by
 have z:=tV V.ref x Z;rw[m]at z;exact z
theorem MK(k:qO bs qs w)(m:x∈bs):Wo (xm w.bx x):=by
 obtain⟨a,h1,h2⟩:=oU (ps:=w.bx) (x:=x) (by rw[k.kb];exact m);unfold xm;rw[h1];exact k.wb _ h2
theorem Ad(k:qO bs qs w)(m:x∈qs):(kQ w.qu x).length<=30/\∀n∈kQ w.qu x,Wo n:=by
 obtain⟨a,h1,h2⟩:=oU (ps:=w.qu) (x:=x) (by rw[k.kq];exact m);unfold kQ;rw[h1];exact k.wq _ h2
theorem Dg.asks(g:Dg CD CS bs qs H0 G L h ds w):(Bw h w).Ok bs qs:=
 ⟨fun x m=>MK g.ok m,fun x m=>by
  have:=(Ad g.ok m).1;show (kQ w.qu x).length<=1000;omega,g.wa,g.wb,g.wt⟩
theorem Dg.holds(g:Dg CD CS bs qs H0 G L h ds w)(Y:G Z=Z8 (.lst [.int h.a,.int h.b])):Holds K CS bs qs G L.st Z (Bw h w):=
 ⟨⟨L.dxs,L.bd,L.qd,_,_,_,g.hst,MI _ _ _ _,MJ _ _ _ _,g.hb,g.hq,fun x m=>JC (by rw[g.ok.kb];exact m),fun x m=>by
  obtain⟨l,h1,h2,_⟩:=g.hl.at_ (x:=x) (by rw[g.ok.kq];exact m);exact{l,_,JD h1,h2,ah _}⟩,Y⟩
end
end My
namespace L2
open PySem
theorem vg.own(hb:vg X E):PassesOwn #[4] X.A X.env X.xe:=by
 rw[hb.xe];exact PassesOwn.leaving
end L2
namespace My
open PySem L2
structure Mt(K:ag)(C:ae)(x qual:Str)(st:df)(ps:List Str)(f:ae)(fd:bY):Prop where
 F:Fun K x qual st f fd
 b:Binds K fd ps []
 m:zG K C x f
structure JE(K:ag)(mg:Str->Option af)(cf:Flt->ae):Prop where
 two:Fts K mg (cf .nought) (cf .great)
 mF:mg "Full"=Z8 (.ref (cf .full))
 mD:mg "Dry"=Z8 (.ref (cf .dry))
 mS:mg "Span"=Z8 (.ref (cf .span))
 mL:mg "Late"=Z8 (.ref (cf .late))
 xF:dU K (cf .full) sM "ValueError.__new__"=true
 xD:dU K (cf .dry) sM "ValueError.__new__"=true
 xS:dU K (cf .span) sM "ValueError.__new__"=true
 xL:dU K (cf .late) sM "ValueError.__new__"=true
def uK(cf:Flt->ae)(Y:Wk->Hp->Prop)(H0:Hp)(n:Nat)(r:Except Flt Wk)(Q:VK)(E:XK):Prop:=match r with
 |.ok Z=>∀G',Y Z G'->Z.len<=n->Q .non G'
 |.error e=>∀G',bj H0 G'->E (.ref (cf e)) Z7 G'
theorem m5(p:uK cf Y H0 n (rck h w f k) Z E)(s:bj H0 G')
  (hq:∀r,ev (Bw h w) f=.ok r->uK cf Y H0 n (k {w with rk:=w.rk++[f]} r) Z E->Q (.int r) G'):y8 (cf .nought) (cf .great) (ev (Bw h w) f) Q E G':=by
 unfold rck at p
 cases e:ev (Bw h w) f with
 |ok r=>
  rw[e]at p;exact hq r e p
 |nought=>
  rw[e]at p;exact p G' s
 |great=>
  rw[e]at p;exact p G' s
theorem Dk{w:Wk}:w.out.length+(w.rk++[F]).length<=w.len+4:=by
 rw[au];show _+(_+1)<=w.out.length+w.rk.length+4;omega
theorem ML{w:Wk}:(w.out++[e]).length+(w.rk++[F]++[F1]++[F2]).length<=w.len+4:=by
 rw[au,au,au,au];show _+1+(_+1+1+1)<=w.out.length+w.rk.length+4;omega
theorem MP(m:x∈ps.map (·.1)):iV (boK ps) (Sum.inr x) (.int n)=boK (pO ps x n):=by
 obtain⟨a,h1,_⟩:=oU m;exact MH V.int x n (by rw[h1];rfl)
theorem MT(ps:List (Str×Int)):(boK ps).length=ps.length:=ah _
section
variable{CD CS:ae}{bs qs:List Str}{H0 G G':Hp}{L:Lay}{h:Ev}{ds:List Int}{w:Wk}
theorem Dg.few(g:Dg CD CS bs qs H0 G L h ds w):(boK w.bx).length<aD/\(wrK w.wr).length<aD:=by
 have:=g.ok.few;have:=g.ok.fw;have:=eJ;rw[MT,Ac];have e:=congrArg i5 g.ok.kb;rw[ah]at e;rw[au]at *;omega
theorem Dg.putB(g:Dg CD CS bs qs H0 G L h ds w)(m:x∈bs):ux G L.bd (.str x) (.int n) (upd G L.bd (.dK (boK (pO w.bx x n)))):=by
 have z:=ux.k (k:=Sum.inr x) (v:=.int n) g.hb g.few.1;rw[MP (by rw[g.ok.kb];exact m)]at z;exact z
theorem Dg.putW(g:Dg CD CS bs qs H0 G L h ds w)(x:Str):ux G L.wd (.str x) (.bl true) (upd G L.wd (.dK (wrK (oC w.wr x)))):=by
 have z:=ux.k (k:=Sum.inr x) (v:=.bl true) g.hw g.few.2;rw[EL]at z;exact z
theorem Dg.putU(g:Dg CD CS bs qs H0 G L h ds w)(x:Str):ux G L.ud (.str x) (.bl true) (upd G L.ud (.dK (wrK (oC w.qn x)))):=by
 have z:=ux.k (k:=Sum.inr x) (v:=.bl true) g.hu (by
  have:=g.ok.few2;have:=eJ;rw[Ac];omega)
 rw[EL]at z;exact z
theorem Dg.getL(g:Dg CD CS bs qs H0 G L h ds w)(m:x∈qs):∃l,L.qa.lookup x=Z8 l/\G l=Z8 (.lst ((kQ w.qu x).map V.int))/\sL G L.qd (.str x) (Z8 (.ref l)):=by
 obtain⟨l,h1,h2,_⟩:=g.hl.at_ (x:=x) (by rw[g.ok.kq];exact m);refine{l,h1,h2,?_};have z:=sL.k (k:=Sum.inr x) g.hq;rw[JD h1]at z;exact z
end
section
variable{P:aI}{w:aY}{K:ag}{mg:Str->Option af}{base:cb}{f fN fR fF fW fT fD fL fQ CD CS CM:ae}{fd fdN fdR fdF fdW fdT fdD fdL fdQ:bY}{cf:Flt->ae}{bs qs:List Str}
inductive JF(CD CS:ae)(bs qs:List Str)(vs:List V)(H:Hp)(Q:VK)(_e:XK):Prop where
 |mk(H0:Hp)(L:Lay)(h:Ev)(ds:List Int)(w:Wk)(_:vs=[.ref L.d])(_:Dg CD CS bs qs H0 H L h ds w)(_:Q (.int h.t) H):JF CD CS bs qs vs H Q _e
def JG(CD CS:ae)(bs qs:List Str):Sp:=fun vs H Q Z=>JF CD CS bs qs vs H Q Z
theorem scNw:bM ["self"] ["self"] (aR kl):=e7
theorem JH(M:Mt K CD "now" "Doing.now" kl ["self"] f fd)(T:DT K mg CD):bN P w K mg base CX0 1 f fd ["self"] (JG CD CS bs qs):=by
 refine M.F.ok scNw #[3] (fun Z A outer s H vs Q E Y h=>?_)
 ·obtain⟨H0,L,e,ds,w,rfl,_⟩:=h;rfl
 obtain⟨H0,L,e,ds,w,rfl,g,q⟩:=h;obtain⟨t,k,ev,h1,h2⟩:=g.hh;refine{_,aF (bQ (bR cv (bR cv (cX (pv 0) rfl) aA) aA)),?_};dsimp only[cxA,cxB];exact{_,Z9,L.d,CD,L.dx,_,_,Z9,g.hd,T.cl,T.nH,Jw _ _ _ _ _ _ _ _,t,_,_,_,ev,Z9,SqT.of (g.sm _ _ h1),Z9,k,_,_,_,Z9,Z9,SqT.of (g.sm _ _ h2),Z9,q}
inductive EO(cf:Flt->ae)(CD CS:ae)(bs qs:List Str)(vs:List V)(H:Hp)(Q:VK)(E:XK):Prop where
 |mk(H0:Hp)(L:Lay)(h:Ev)(ds:List Int)(w:Wk)(v:V)(F:Fm)(_:vs=[.ref L.d,v])(_:Dg CD CS bs qs H0 H L h ds w)(_:FmI bs qs H0 v F)(_:w.len<400000)(_:∀G',Dg CD CS bs qs H0 G' L h ds {w with rk:=w.rk++[F]}->y8 (cf .nought) (cf .great) (ev (Bw h w) F) Q E G'):EO cf CD CS bs qs vs H Q E
def uL(cf:Flt->ae)(CD CS:ae)(bs qs:List Str):Sp:=fun vs H Q E=>EO cf CD CS bs qs vs H Q E
theorem scRk:bM ["self","formula"] ["self","formula"] (aR fv):=e7
theorem j8(M:Mt K CD "reckon" "Doing.reckon" fv ["self","formula"] f fd)(U:Mt K CD "now" "Doing.now" kl ["self"] fN fdN)(W:Df K mg "worth_of" mT ["formula","state","now","got"] fW fdW)(O:Df K mg "number_of_two" ir ["kind","first","second"] fT fdT)(DD:Df K mg "number_of_division" eI ["kind","first","second"] fD fdD)
  (DL:Df K mg "number_of_leaf" gT ["formula","state","now","got"] fL fdL) (T:DT K mg CD) (TF:JE K mg cf) (TM:MdT K mg CM CS) (B:Bl mg):bN P w K mg base (CXo P w) 18 f fd ["self","formula"] (uL cf CD CS bs qs):=by
 have GN:bN P w K mg base CX0 1 fN fdN ["self"] (JG CD CS bs qs):=JH U T;have GW:bN P w K mg base (CXo P w) 17 fW fdW ["formula","state","now","got"] (Jt K CS (cf .nought) (cf .great) bs qs 15):=OL W O DD DL TF.two TM B 15;refine M.F.okX scRk #[3] (fun bu A outer s H vs Q E D h=>?_)
 ·obtain⟨H0,L,e,ds,w,v,F,rfl,_⟩:=h;rfl
 obtain⟨H0,L,e,ds,w,v,F,rfl,g,J,fw,q⟩:=h;obtain⟨t,k,I,h1,h2⟩:=g.hh;have r1:dJ 1 _:=D.mono #[2];obtain⟨rs,Y,r2⟩:=g.hr;have Z:=g.reckoned Y J;refine{_,ar (eU (mO bV cD cE ip (cX (pv 0) rfl) (av (pv 1) ao))) (aF (bQ (gO GW D rfl W.m W.F.kp W.b .nil (eC.passes fun _ _ _ z=>z) (av (pv 1) (av (cX (pv 0) rfl) (av (tE (pv 0) T.cl U.m GN r1 U.b .nil jV) (av (eO (av (bR cv (cX (pv 0) rfl) aA) (av (bR cv (cX (pv 0) rfl) aA) ao))) ao))))))),?_};dsimp only[cxA,cxB];have rl:rs.length<aD:=by
  have z:rs.length=w.rk.length:=aL r2;have:400000<aD:=by decide
  have:w.out.length+w.rk.length<400000:=fw;omega
 refine{_,Z9,L.d,CD,L.dx,_,_,Z9,g.hd,T.cl,T.nR,dF_r _ _ _ _ _ _ _ _,.inl {Z9,_,SqL.of Y},_,Z9,L.rd,_,_,Z9,Z9,Y,rl,?_};refine{_,Z9,_,Z9,L.d,CD,L.dx,_,_,Z9,Z.hd,T.cl,T.nS,vG _ _ _ _ _ _ _ _,?_};refine{_,Z9,L.d,L.dx,_,Z9,Z.hd,p4 _ _ _ _ _ _ _ _ #[1],H0,L,e,ds,_,Z9,Z,?_};refine{_,Z9,L.d,CD,L.dx,_,_,Z9,Z.hd,T.cl,T.nH,Jw _ _ _ _ _ _ _ _,t,_,_,_,I,Z9,SqT.of (Z.sm _ _ h1),Z9,?_};refine{_,Z9,L.d,CD,L.dx,_,_,Z9,Z.hd,T.cl,T.nH,Jw _ _ _ _ _ _ _ _,t,_,_,_,I,Z9,SqT.of (Z.sm _ _ h1),Z9,?_};refine{lt2,fun l hl=>?_};have s2:=aG hl (.lst [.int e.a,.int e.b]);have V:=Z.same s2;exact{v,F,L.st,l,Bw e w,Z9,(J.1.same V.sm),J.2,V.holds ak,V.asks,q _ V}
inductive JI(CD CS:ae)(bs qs:List Str)(vs:List V)(H:Hp)(Q:VK)(_e:XK):Prop where
 |mk(H0:Hp)(L:Lay)(h:Ev)(ds:List Int)(w:Wk)(x:Str)(_:vs=[.ref L.d,.str x])(_:Dg CD CS bs qs H0 H L h ds w)(_:x∈qs)(_:∀G' l,Dg CD CS bs qs H0 G' L h ds {w with qn:=oC w.qn x}->L.qa.lookup x=Z8 l->G' l=Z8 (.lst ((kQ w.qu x).map V.int))->Q (.ref l) G'):JI CD CS bs qs vs H Q _e
def JJ(CD CS:ae)(bs qs:List Str):Sp:=fun vs H Q Z=>JI CD CS bs qs vs H Q Z
theorem scQo:bM ["self","name"] ["self","name"] (aR e8):=e7
theorem JK(M:Mt K CD "queue_of" "Doing.queue_of" e8 ["self","name"] f fd)(T:DT K mg CD)(Y:MdT K mg CM CS):bN P w K mg base CX0 1 f fd ["self","name"] (JJ CD CS bs qs):=by
 refine M.F.ok scQo #[3] (fun V A outer s H vs Q E O h=>?_)
 ·obtain⟨H0,L,e,ds,w,x,rfl,_⟩:=h;rfl
 obtain⟨H0,L,e,ds,w,x,rfl,g,hx,q⟩:=h;have hu:=qD O;refine{_,ar (nZ hu (cX (pv 0) rfl) (pv 1) oG rfl) (aF (bQ (tJ hu (cX (cX (pv 0) rfl) rfl) (pv 1)))),?_};dsimp only[cxA,cxB];have Z:=g.queued (x:=x) (bL _ hx);obtain⟨l,J,U,W⟩:=Z.getL hx;refine{_,Z9,L.d,CD,L.dx,_,_,Z9,g.hd,T.cl,T.nQ,dF_u _ _ _ _ _ _ _ _,_,Z9,L.ud,_,Z9,g.putU x,?_};exact{_,Z9,L.d,CD,L.dx,_,_,Z9,Z.hd,T.cl,T.nS,vG _ _ _ _ _ _ _ _,L.st,CS,L.dxs,_,_,Z9,Z.hst,Y.clS,Y.nQ,MJ _ _ _ _,_,Z9,L.qd,_,Z9,W,q _ l Z J U}
inductive ER(CD CS:ae)(bs qs:List Str)(vs:List V)(H:Hp)(Q:VK)(_e:XK):Prop where
 |mk(H0:Hp)(L:Lay)(h:Ev)(ds:List Int)(w:Wk)(x:Str)(n:Int)(_:vs=[.ref L.d,.str x,.int n])(_:Dg CD CS bs qs H0 H L h ds w)(_:x∈bs)(_:Wo n)(_:∀G',Dg CD CS bs qs H0 G' L h ds (Jv w x n)->Q .non G'):ER CD CS bs qs vs H Q _e
def Ae(CD CS:ae)(bs qs:List Str):Sp:=fun vs H Q Z=>ER CD CS bs qs vs H Q Z
theorem scFl:bM ["self","box","worth"] ["self","box","worth"] (aR iy):=e7
theorem Af(M:Mt K CD "fill" "Doing.fill" iy ["self","box","worth"] f fd)(T:DT K mg CD)(Y:MdT K mg CM CS):bN P w K mg base CX0 1 f fd ["self","box","worth"] (Ae CD CS bs qs):=by
 refine M.F.ok scFl #[3] (fun W A outer s H vs Q E U h=>?_)
 ·obtain⟨H0,L,e,ds,w,x,n,rfl,_⟩:=h;rfl
 obtain⟨H0,L,e,ds,w,x,n,rfl,g,hx,V,q⟩:=h;have hu:=qD U;refine{_,ar (nZ hu (cX (cX (pv 0) rfl) rfl) (pv 1) (pv 2) rfl) (aF (nZ hu (cX (pv 0) rfl) (pv 1) oG rfl)),?_};dsimp only[cxA,cxB];have Z:=g.box (x:=x) V;have O:=Z.wrote (x:=x) (iI _ hx);refine{_,Z9,_,Z9,L.d,CD,L.dx,_,_,Z9,g.hd,T.cl,T.nS,vG _ _ _ _ _ _ _ _,L.st,CS,L.dxs,_,_,Z9,g.hst,Y.clS,Y.nB,MI _ _ _ _,_,Z9,L.bd,_,Z9,g.putB hx,?_};exact{_,Z9,L.d,CD,L.dx,_,_,Z9,Z.hd,T.cl,T.nW,Gj _ _ _ _ _ _ _ _,_,Z9,L.wd,_,Z9,Z.putW x,q _ O}
inductive ES(cf:Flt->ae)(CD CS:ae)(bs qs:List Str)(vs:List V)(H:Hp)(Q:VK)(E:XK):Prop where
 |mk(H0:Hp)(L:Lay)(h:Ev)(ds:List Int)(w:Wk)(x:Str)(v:V)(F:Fm)(_:vs=[.ref L.d,.str x,v])(_:Dg CD CS bs qs H0 H L h ds w)(_:x∈qs)(_:FmI bs qs H0 v F)(_:w.len<400000)(_:uK cf (fun w' G'=>Dg CD CS bs qs H0 G' L h ds w') H0 (w.len+4) (doD h ds (.push x F) w) Q E):ES cf CD CS bs qs vs H Q E
def Dl(cf:Flt->ae)(CD CS:ae)(bs qs:List Str):Sp:=fun vs H Q E=>ES cf CD CS bs qs vs H Q E
theorem QK:bM ["doing","name","formula","worth","queue"] ["doing","name","formula"] (aR oO):=e7
theorem Ag(D:Df K mg "do_push" oO ["doing","name","formula"] f fd)(J:Mt K CD "reckon" "Doing.reckon" fv ["self","formula"] fR fdR)(GR:bN P w K mg base (CXo P w) 18 fR fdR ["self","formula"] (uL cf CD CS bs qs))(O:Mt K CD "queue_of" "Doing.queue_of" e8 ["self","name"] fQ fdQ)(T:DT K mg CD)(I:JE K mg cf)(TM:MdT K mg CM CS)(B:Bl mg) :
  bN P w K mg base (CXo P w) 19 f fd ["doing","name","formula"] (Dl cf CD CS bs qs):=by
 have GQ:bN P w K mg base CX0 1 fQ fdQ ["self","name"] (JJ CD CS bs qs):=JK O T TM;refine D.F.okX QK #[3] (fun bw A outer s H vs Q E W h=>?_)
 ·obtain⟨H0,L,e,ds,w,x,v,F,rfl,_⟩:=h;rfl
 obtain⟨H0,L,e,ds,w,x,v,F,rfl,g,hx,t,fw,p⟩:=h;have hu:=qD W;have r1:dJ 1 _:=W.mono #[2];refine⟨_,ar (pst 3 QK (jt (pv 0) T.cl J.m GR W J.b .nil (eC.passes fun _ _ _ z=>z) (av (pv 2) ao)))
  (ar (pst 4 QK (jt (pv 0) T.cl O.m GQ r1 O.b .nil jV (av (pv 1) ao)))
  (ar (cR (bO op_ge (cS i0 #[7] B.len cA (av (pv 4) ao)) aA) (aF (mP eC rfl rfl I.mF I.xF (av bX ao))) b9)
  (ar (eU (mO bV cD cE ip (pv 4) (av (pv 3) ao)))
  (aF (nZ hu (cX (pv 0) rfl) (pv 1) oG rfl))))),?_⟩
 dsimp only[cxA,cxB];simp only[doD]at p;refine{_,Z9,L.d,L.dx,_,Z9,g.hd,p4 _ _ _ _ _ _ _ _ #[1],_,Z9,H0,L,e,ds,w,v,F,Z9,g,t,fw,fun G0 Y=>?_};refine m5 p Y.sm fun n en p=>?_;dsimp only at p;refine{_,Z9,L.d,L.dx,_,Z9,Y.hd,p4 _ _ _ _ _ _ _ _ #[1],_,Z9,H0,L,e,ds,_,x,Z9,Y,hx,fun G1 l Z hl M=>?_};refine{_,Z9,l,_,Z9,.inl (SqL.of M),_,_,Z9,Z9,_,Z9,gA (fun c=>?_) (fun c=>?_)}
 ·have c:(30:Int)<=((((kQ w.qu x).map V.int).length:Nat):Int):=lJ c;rw[ah]at c;rw[if_pos #[2]]at p;exact{(by show 1<=aD;decide),p _ Z.sm}
 ·have c:¬(30:Int)<=((((kQ w.qu x).map V.int).length:Nat):Int):=lY c;rw[ah]at c;rw[if_neg #[2]]at p;have wn:Wo n:=vm Z.asks (t.1.same Z.sm) en;have gq:=Ad Z.ok hx;have U:=Z.queue (x:=x) (l:=l) (ns:=kQ w.qu x++[n]) hl (by rw[au];simp only[aX,cI];omega) (fun m hm=>by
   rcases cj.mp hm with z|z
   ·exact gq.2 m z
   ·rw[aK.mp z];exact wn)
  have g3:=U.wrote (x:=x) (bL _ hx);have lt:((kQ w.qu x).map V.int).length<aD:=by
   rw[ah];have:=eJ;omega
  refine{_,Z9,.inl {Z9,_,SqL.of M},_,Z9,l,_,_,Z9,Z9,M,lt,?_};have eq:(kQ w.qu x).map V.int++[V.int n]=(kQ w.qu x++[n]).map V.int:=by rw[bA];rfl
  rw[eq];exact{_,Z9,L.d,CD,L.dx,_,_,Z9,U.hd,T.cl,T.nW,Gj _ _ _ _ _ _ _ _,_,Z9,L.wd,_,Z9,U.putW x,p _ g3 (Dk (w:=w) (F:=F))}
end
theorem JL(ds:List Int)(i:Nat)(h:i<ds.length):(ds.map V.int)[i]?=Z8 (.int (ds.getD i 0)):=by
 rw[bT,aw h,cG,aw h];rfl
section
variable{P:aI}{w:aY}{K:ag}{mg:Str->Option af}{base:cb}{f fN fR fF CD CS CM:ae}{fd fdN fdR fdF:bY}{cf:Flt->ae}{bs qs:List Str}
inductive Bz(cf:Flt->ae)(CD CS:ae)(bs qs:List Str)(vs:List V)(H:Hp)(Q:VK)(E:XK):Prop where
 |mk(H0:Hp)(L:Lay)(h:Ev)(ds:List Int)(w:Wk)(x:Str)(v:V)(F:Fm)(_:vs=[.ref L.d,.str x,v])(_:Dg CD CS bs qs H0 H L h ds w)(_:x∈bs)(_:FmI bs qs H0 v F)(_:w.len<400000)(_:uK cf (fun w' G'=>Dg CD CS bs qs H0 G' L h ds w') H0 (w.len+4) (doD h ds (.draw x F) w) Q E):Bz cf CD CS bs qs vs H Q E
def Ah(cf:Flt->ae)(CD CS:ae)(bs qs:List Str):Sp:=fun vs H Q E=>Bz cf CD CS bs qs vs H Q E
theorem MU:bM ["doing","box","formula","divisor","draws","draw"] ["doing","box","formula"] (aR oQ):=e7
theorem xn(D:Df K mg "do_draw" oQ ["doing","box","formula"] f fd)(J:Mt K CD "reckon" "Doing.reckon" fv ["self","formula"] fR fdR)(GR:bN P w K mg base (CXo P w) 18 fR fdR ["self","formula"] (uL cf CD CS bs qs))(O:Mt K CD "fill" "Doing.fill" iy ["self","box","worth"] fF fdF)(T:DT K mg CD)(U:JE K mg cf)(W:MdT K mg CM CS)(B:Bl mg) :
  bN P w K mg base (CXo P w) 19 f fd ["doing","box","formula"] (Ah cf CD CS bs qs):=by
 have GF:bN P w K mg base CX0 1 fF fdF ["self","box","worth"] (Ae CD CS bs qs):=Af O T W;refine D.F.okX MU #[3] (fun bH A outer s H vs Q E I h=>?_)
 ·obtain⟨H0,L,e,ds,w,x,v,F,rfl,_⟩:=h;rfl
 obtain⟨H0,L,e,ds,w,x,v,F,rfl,g,hx,hF,fw,p⟩:=h;have r1:dJ 1 _:=I.mono #[2];refine⟨_,ar (pst 3 MU (jt (pv 0) T.cl J.m GR I J.b .nil (eC.passes fun _ _ _ z=>z) (av (pv 2) ao)))
  (ar (cR (bO rK (pv 3) aA) (aF (mP eC rfl rfl U.two.mN U.two.xN (av bX ao))) b9)
  (ar (pst 4 MU (bR cv (cX (pv 0) rfl) aA))
  (ar (cR (HK (wV (pv 4) (fun _=>rfl))) (aF (mP eC rfl rfl U.mD U.xD (av bX ao))) b9)
  (ar (pst 5 MU (bR dD (pv 4) (cM sh (cX (cX (pv 0) rfl) rfl) (cS i0 #[7] B.len cA (av (pv 4) ao)))))
  (ar (yC (cX (pv 0) rfl) aA Ig)
  (aF (eU (jt (pv 0) T.cl O.m GF r1 O.b .nil jV (av (pv 1) (av (cM sh (pv 5) (pv 3)) ao)))))))))),?_⟩
 dsimp only[cxA,cxB];simp only[doD]at p;refine{_,Z9,L.d,L.dx,_,Z9,g.hd,p4 _ _ _ _ _ _ _ _ #[1],_,Z9,H0,L,e,ds,w,v,F,Z9,g,hF,fw,fun G1 Z=>?_};refine m5 p Z.sm fun n en p=>?_;refine{_,Z9,_,_,Z9,Z9,_,Z9,gA (fun c=>?_) (fun c=>?_)}
 ·rw[if_pos (lJ c)]at p;exact{(by show 1<=aD;decide),p _ Z.sm}
 have c:¬n<1:=lY c;rw[if_neg c]at p;obtain⟨t,x1,x2,x3,x4,M,em,hm,hdl⟩:=Z.hm;refine{_,Z9,L.d,CD,L.dx,_,_,Z9,Z.hd,T.cl,T.nM,QD _ _ _ _ _ _ _ _,t,_,_,_,em,Z9,SqT.of (Z.sm _ _ hm),Z9,?_};have Y:=Z.sm _ _ hdl;refine{_,Z9,_,.inl {_,SqL.of Y,Z9},?_}
 cases hds:ds with
 |nil=>
  rw[hds]at p;refine iU ?_;exact{(by show 1<=aD;decide),p _ Z.sm}
 |cons d0 dr=>
  rw[<- hds];have ne:¬ds=[]:=by rw[hds];intro z;cases z
  have pos:0<ds.length:=by rw[hds];exact nU _
  rw[if_neg ne]at p;have nb:(!(!(ds.map V.int).isEmpty))=false:=by rw[hds];rfl
  rw[nb];refine gz ?_;have lt:w.dr%ds.length<ds.length:=JM _ pos;have ix:atI (ds.map V.int) ((w.dr:Int)%(((ds.map V.int).length:Nat):Int))=Z8 (.int (ds.getD (w.dr%ds.length) 0)):=by
   rw[ah,<- Int.natCast_emod];exact iO (JL ds _ lt)
  refine{_,Z9,_,Z9,L.d,CD,L.dx,_,_,Z9,Z.hd,T.cl,T.nS,vG _ _ _ _ _ _ _ _,L.st,CS,L.dxs,_,_,Z9,Z.hst,W.clS,W.nD,Jx _ _ _ _,_,Z9,M,_,Z9,.inl (SqL.of Y),_,_,Z9,Z9,(by rw[ah];omega),M,_,_,_,Z9,Z9,SqL.of Y,ix,?_};refine{_,Z9,L.d,CD,L.dx,_,_,Z9,Z.hd,T.cl,T.nS,vG _ _ _ _ _ _ _ _,L.st,CS,L.dxs,_,_,Z9,Z.hst,W.clS,W.nD,Jx _ _ _ _,_,_,Z9,Z9,L.dxs,_,Z.hst,Jz _ _ _ _,?_};rw[QH];have g2:=Z.counts (w.dr+1) w.se;have wn:Wo n:=vm Z.asks (hF.1.same Z.sm) en;have wm:Wo (ds.getD (w.dr%ds.length) 0%n):=by
   have a1:=m7 (ds.getD (w.dr%ds.length) 0) (show n≠0 by omega);have a2:=kH (ds.getD (w.dr%ds.length) 0) (show 0<n by omega);unfold Wo at wn |-;omega
  exact{_,Z9,L.d,L.dx,_,Z9,g2.hd,p4 _ _ _ _ _ _ _ _ #[1],_,Z9,_,Z9,_,Z9,_,_,Z9,Z9,#[2],H0,L,e,ds,_,x,_,Z9,g2,hx,wm,fun G' g3=>p G' g3 (Dk (w:=w) (F:=F))}
inductive ET(cf:Flt->ae)(CD CS:ae)(bs qs:List Str)(vs:List V)(H:Hp)(Q:VK)(E:XK):Prop where
 |mk(H0:Hp)(L:Lay)(h:Ev)(ds:List Int)(w:Wk)(t:ae)(u u1 u2:V)(to:Int)(sg:Str)(rk:Int)(F F1 F2:Fm)(_:vs=[.ref L.d,.ref t])(_:Dg CD CS bs qs H0 H L h ds w)(_:H0 t=Z8 (.tup [.str "send",.int to,.str sg,u,.int rk,u1,u2]))(_:FmI bs qs H0 u F)(_:FmI bs qs H0 u1 F1)(_:FmI bs qs H0 u2 F2)(_:w.len+4<400000)(_:uK cf (fun w' G'=>Dg CD CS bs qs H0 G' L h ds w') H0 (w.len+4) (doD h ds (.send to sg F rk F1 F2) w) Q E):ET cf CD CS bs qs vs H Q E
def Do(cf:Flt->ae)(CD CS:ae)(bs qs:List Str):Sp:=fun vs H Q E=>ET cf CD CS bs qs vs H Q E
theorem Gn:bM ["doing","deed","span","first","second","when","key"] ["doing","deed"] (aR oR):=e7
theorem Ai(D:Df K mg "do_send" oR ["doing","deed"] f fd)(W:Mt K CD "reckon" "Doing.reckon" fv ["self","formula"] fR fdR)(GR:bN P w K mg base (CXo P w) 18 fR fdR ["self","formula"] (uL cf CD CS bs qs))(MN:Mt K CD "now" "Doing.now" kl ["self"] fN fdN)(T:DT K mg CD)(TF:JE K mg cf)(TM:MdT K mg CM CS)(B:Bl mg) :
  bN P w K mg base (CXo P w) 19 f fd ["doing","deed"] (Do cf CD CS bs qs):=by
 have GN:bN P w K mg base CX0 1 fN fdN ["self"] (JG CD CS bs qs):=JH MN T;refine D.F.okX Gn #[3] (fun cx A outer s H vs Q E hr h=>?_)
 ·obtain⟨H0,L,e,ds,w,t,u,u1,u2,to,sg,rk,F,F1,F2,rfl,_⟩:=h;rfl
 obtain⟨H0,L,e,ds,w,t,u,u1,u2,to,sg,rk,F,F1,F2,rfl,g,ht,hF,di,I,lo,p⟩:=h;have r1:dJ 1 _:=hr.mono #[2];refine⟨_,ar (pst 2 Gn (jt (pv 0) T.cl W.m GR hr W.b .nil (eC.passes fun _ _ _ z=>z) (av (bR cv (pv 1) aA) ao)))
  (ar (cR (HJ (bO rK (pv 2) aA) (Cd (bO rL (pv 2) (cM sj aA aA)))).pt (aF (mP eC rfl rfl TF.mS TF.xS (av bX ao))) b9)
  (ar (pst 3 Gn (jt (pv 0) T.cl W.m GR hr W.b .nil (eC.passes fun _ _ _ z=>z) (av (bR cv (pv 1) aA) ao)))
  (ar (pst 4 Gn (jt (pv 0) T.cl W.m GR hr W.b .nil (eC.passes fun _ _ _ z=>z) (av (bR cv (pv 1) aA) ao)))
  (ar (pst 5 Gn (cM ie (tE (pv 0) T.cl MN.m GN r1 MN.b .nil jV) (pv 2)))
  (ar (cR (bO rL (pv 5) (cM sj aA aA)) (aF (mP eC rfl rfl TF.mL TF.xL (av bX ao))) b9)
  (ar (pst 6 Gn (dX (av (pv 5) (av (bR cv (pv 1) aA) (av (bR cv (cX (pv 0) rfl) aA) (av (cX (cX (pv 0) rfl) rfl) ao))))))
  (ar (yC (cX (pv 0) rfl) aA Ig)
  (aF (eU (mO bV cD cE ip (cX (pv 0) rfl) (av (dX (av (pv 6) (av (bR cv (pv 1) aA) (av (bR cv (pv 1) aA) (av (pv 3) (av (pv 4) ao)))))) ao))))))))))),?_⟩
 dsimp only[cxA,cxB];simp only[doD]at p;have f0:w.len<400000:=by omega
 have f1:Wk.len {w with rk:=w.rk++[F]}<400000:=by
  show w.out.length+(w.rk++[F]).length<400000;rw[au];have:w.out.length+w.rk.length+4<400000:=lo;show _+(_+1)<_;omega
 have f2:Wk.len {w with rk:=w.rk++[F]++[F1]}<400000:=by
  show w.out.length+(w.rk++[F]++[F1]).length<400000;rw[au,au];have:w.out.length+w.rk.length+4<400000:=lo;show _+(_+1+1)<_;omega
 have l1:1<=aD:=by decide
 have c6:Cg 10 6:={by decide,by decide,by decide};have da:Cg 10 12:={by decide,by decide,by decide};have V:∀{G:Hp},bj H0 G->SqT K G t [.str "send",.int to,.str sg,u,.int rk,u1,u2]:=fun {G} z=>SqT.of (z _ _ ht);refine{_,Z9,L.d,L.dx,_,Z9,g.hd,p4 _ _ _ _ _ _ _ _ #[1],_,Z9,t,_,_,_,Z9,Z9,V g.sm,Z9,H0,L,e,ds,w,u,F,Z9,g,hF,f0,fun G1 Y=>?_};refine m5 p Y.sm fun n en p=>?_;refine{_,Z9,_,_,Z9,Z9,_,Z9,gA (fun c=>?_) (fun c=>?_)}
 ·rw[if_pos (.inl (lJ c))]at p;exact iU {l1,p _ Y.sm}
 have c:¬n<1:=lY c;refine{_,Z9,_,_,Z9,Z9,c6,_,_,Z9,Z9,_,Z9,gA (fun c2=>?_) (fun c2=>?_)}
 ·rw[if_pos (.inr (lJ c2))]at p;exact{l1,p _ Y.sm}
 have c2:¬10^6<n:=lY c2;rw[if_neg (fun z=>z.elim c c2)]at p;refine{_,Z9,L.d,L.dx,_,Z9,Y.hd,p4 _ _ _ _ _ _ _ _ #[1],_,Z9,t,_,_,_,Z9,Z9,V Y.sm,Z9,H0,L,e,ds,_,u1,F1,Z9,Y,di,f1,fun G2 O=>?_};refine m5 p O.sm fun n1 dg p=>?_;refine{_,Z9,L.d,L.dx,_,Z9,O.hd,p4 _ _ _ _ _ _ _ _ #[1],_,Z9,t,_,_,_,Z9,Z9,V O.sm,Z9,H0,L,e,ds,_,u2,F2,Z9,O,I,f2,fun G3 Z=>?_};refine m5 p Z.sm fun n2 db p=>?_;refine{_,Z9,L.d,L.dx,_,Z9,Z.hd,p4 _ _ _ _ _ _ _ _ #[1],H0,L,e,ds,_,Z9,Z,_,Z9,_,_,Z9,Z9,?_};refine{_,Z9,_,_,Z9,Z9,da,_,_,Z9,Z9,_,Z9,gA (fun c3=>?_) (fun c3=>?_)}
 ·rw[if_pos (show 10^12<e.t+n from lJ c3)]at p;exact{l1,p _ Z.sm}
 rw[if_neg (show ¬10^12<e.t+n from lY c3)]at p;obtain⟨th,kh,eh,h1,h2⟩:=Z.hh;refine{_,Z9,_,Z9,t,_,_,_,Z9,Z9,V Z.sm,Z9,_,Z9,L.d,CD,L.dx,_,_,Z9,Z.hd,T.cl,T.nH,Jw _ _ _ _ _ _ _ _,th,_,_,_,eh,Z9,SqT.of (Z.sm _ _ h1),Z9,_,Z9,L.d,CD,L.dx,_,_,Z9,Z.hd,T.cl,T.nS,vG _ _ _ _ _ _ _ _,L.st,CS,L.dxs,_,_,Z9,Z.hst,TM.clS,TM.nS,Jy _ _ _ _,(by show 4<=aD;decide),fun U hk=>?_};have s4:=aG hk (.tup [.int (e.t+n),.int rk,.int e.to,.int w.se]);have M:=Z.same s4;refine{_,Z9,L.d,CD,L.dx,_,_,Z9,M.hd,T.cl,T.nS,vG _ _ _ _ _ _ _ _,L.st,CS,L.dxs,_,_,Z9,M.hst,TM.clS,TM.nS,Jy _ _ _ _,_,_,Z9,Z9,L.dxs,_,M.hst,Jz _ _ _ _,?_};rw[QI];have J:=M.counts w.dr (w.se+1);have de:∀{G:Hp} {o o':HO},G U=Z8 (.tup [.int (e.t+n),.int rk,.int e.to,.int w.se])->G L.st=Z8 o'->(∀xs,o'≠.tup xs)->upd G L.st o U=Z8 (.tup [.int (e.t+n),.int rk,.int e.to,.int w.se]):=fun h1 h2 h3=>bh h1 (kg h1 h2 (fun z=>h3 _ z.symm));have k5:=de (o:=.ins CS L.dxs (pK (.ref L.bd) (.ref L.qd) (.int w.dr) (.int (w.se+1)))) (ak:upd G3 U _ U=_) M.hst (fun xs z=>by cases z);obtain⟨vs,o1,o2⟩:=J.ho;refine{_,Z9,L.d,CD,L.dx,_,_,Z9,J.hd,T.cl,T.nO,QE _ _ _ _ _ _ _ _,.inl {Z9,_,SqL.of o1},?_};refine{_,Z9,_,Z9,t,_,_,_,Z9,Z9,V J.sm,Z9,_,Z9,t,_,_,_,Z9,Z9,V J.sm,Z9,_,Z9,_,Z9,lt5,fun ev dc=>?_};have s6:=aG dc (.tup [.ref U,.int to,.str sg,.int n1,.int n2]);have g6:=J.same s6;have ol:vs.length<aD:=by
  have:=aL o2;have z:vs.length=w.out.length:=this;have:400000<aD:=by decide
  have:w.out.length+w.rk.length+4<400000:=lo;omega
 refine{L.od,vs,_,Z9,Z9,s6 _ _ o1,ol,?_};have g7:=g6.sent (v:=.ref ev) (e:={e.t+n,rk,e.to,w.se,to,sg,n1,n2}) (s6 _ _ o1) {ev,U,Z9,ak,s6 _ _ k5} {vm Y.asks (di.1.same Y.sm) dg,vm O.asks (I.1.same O.sm) db};exact p _ g7 (ML (w:=w) (F:=F) (F1:=F1) (F2:=F2))
end
mutual
def Dd.size:Dd->Nat
 |.pull _ _ o=>o.size+1
 |.ife _ t e=>max t.size e.size+1
 |_=>1
def Ds.size:Ds->Nat
 |.nil=>0
 |.cons d r=>d.size+r.size
end
theorem uK.le(p:uK cf Z H0 n r Q E)(h:m<=n):uK cf Z H0 m r Q E:=by
 cases r with
 |ok w=>exact fun G g l=>p G g (cZ l h)
 |error e=>exact p
section
variable{P:aI}{w:aY}{K:ag}{mg:Str->Option af}{base:cb}{f fR fF fP fD fU fW fS f1 fQ CD CS CM:ae}{fd fdR fdF fdP fdD fdU fdW fdS fd1 fdQ:bY}{cf:Flt->ae}{bs qs:List Str}
inductive JN(cf:Flt->ae)(CD CS:ae)(bs qs:List Str)(n:Nat)(vs:List V)(H:Hp)(Q:VK)(E:XK):Prop where
 |mk(H0:Hp)(L:Lay)(h:Ev)(ds:List Int)(w:Wk)(v:V)(D:Ds)(_:vs=[.ref L.d,v])(_:Dg CD CS bs qs H0 H L h ds w)(_:oj H0 (fJ bs qs H0 D) v)(_:D.deep<n)(_:w.len+4*D.size<400000)(_:uK cf (fun w' G'=>Dg CD CS bs qs H0 G' L h ds w') H0 (w.len+4*D.size) (doS h ds D w) Q E):JN cf CD CS bs qs n vs H Q E
def xo(cf:Flt->ae)(CD CS:ae)(bs qs:List Str)(n:Nat):Sp:=fun vs H Q E=>JN cf CD CS bs qs n vs H Q E
inductive OP(cf:Flt->ae)(CD CS:ae)(bs qs:List Str)(n:Nat)(vs:List V)(H:Hp)(Q:VK)(E:XK):Prop where
 |mk(H0:Hp)(L:Lay)(h:Ev)(ds:List Int)(w:Wk)(v:V)(D:Dd)(_:vs=[.ref L.d,v])(_:Dg CD CS bs qs H0 H L h ds w)(_:eT bs qs H0 D v)(_:D.deep<n)(_:w.len+4*D.size<400000)(_:uK cf (fun w' G'=>Dg CD CS bs qs H0 G' L h ds w') H0 (w.len+4*D.size) (doD h ds D w) Q E):OP cf CD CS bs qs n vs H Q E
def spDd(cf:Flt->ae)(CD CS:ae)(bs qs:List Str)(n:Nat):Sp:=fun vs H Q E=>OP cf CD CS bs qs n vs H Q E
inductive EU(cf:Flt->ae)(CD CS:ae)(bs qs:List Str)(n:Nat)(vs:List V)(H:Hp)(Q:VK)(E:XK):Prop where
 |mk(H0:Hp)(L:Lay)(h:Ev)(ds:List Int)(w:Wk)(q x:Str)(v:V)(D:Ds)(_:vs=[.ref L.d,.str q,.str x,v])(_:Dg CD CS bs qs H0 H L h ds w)(_:q∈qs)(_:x∈bs)(_:oj H0 (fJ bs qs H0 D) v)(_:D.deep<n)(_:w.len+4*D.size<400000)(_:uK cf (fun w' G'=>Dg CD CS bs qs H0 G' L h ds w') H0 (w.len+4*D.size) (doD h ds (.pull q x D) w) Q E):EU cf CD CS bs qs n vs H Q E
def JO(cf:Flt->ae)(CD CS:ae)(bs qs:List Str)(n:Nat):Sp:=fun vs H Q E=>EU cf CD CS bs qs n vs H Q E
theorem scPl:bM ["doing","name","box","otherwise","queue"] ["doing","name","box","otherwise"] (aR oP):=e7
theorem MV(hk:1<=k)(D:Df K mg "do_pull" oP ["doing","name","box","otherwise"] f fd)(W:Df K mg "do_deeds" jI ["doing","deeds"] fD fdD)(GD:bN P w K mg base (CXo P w) k fD fdD ["doing","deeds"] (xo cf CD CS bs qs n))(I:Mt K CD "fill" "Doing.fill" iy ["self","box","worth"] fF fdF)(J:Mt K CD "queue_of" "Doing.queue_of" e8 ["self","name"] fQ fdQ)(T:DT K mg CD)(t:MdT K mg CM CS) :
  bN P w K mg base (CXo P w) (k+1) f fd ["doing","name","box","otherwise"] (JO cf CD CS bs qs n):=by
 have GF:bN P w K mg base CX0 1 fF fdF ["self","box","worth"] (Ae CD CS bs qs):=Af I T t;have GQ:bN P w K mg base CX0 1 fQ fdQ ["self","name"] (JJ CD CS bs qs):=JK J T t;refine D.F.okX scPl #[3] (fun bv A outer s H vs Q E O h=>?_)
 ·obtain⟨H0,L,e,ds,w,q,x,v,D,rfl,_⟩:=h;rfl
 obtain⟨H0,L,e,ds,w,q,x,v,D,rfl,g,hq,hx,hv,hn,ho,p⟩:=h;have r1:dJ 1 _:=O.mono hk;have hu:=qD O;refine⟨_,ar (pst 4 scPl (jt (pv 0) T.cl J.m GQ r1 J.b .nil jV (av (pv 1) ao)))
  (aF (cR (wV (pv 4) (fun _=>rfl))
   (ar (eU (jt (pv 0) T.cl I.m GF r1 I.b .nil jV (av (pv 2) (av (mO bV AV AW Iz (pv 4) (av aA ao)) ao))))
   (aF (nZ hu (cX (pv 0) rfl) (pv 1) oG rfl)))
   (aF (eU (gO GD O rfl W.m W.F.kp W.b .nil (eC.passes fun _ _ _ z=>z) (av (pv 0) (av (pv 3) ao))))))),?_⟩
 dsimp only[cxA,cxB];simp only[doD]at p;refine{_,Z9,L.d,L.dx,_,Z9,g.hd,p4 _ _ _ _ _ _ _ _ #[1],_,Z9,H0,L,e,ds,w,q,Z9,g,hq,fun G0 l U hl Y=>?_};refine{_,Z9,_,.inl {_,SqL.of Y,Z9},?_};have Z:(kQ w.qu q).length<=30/\∀n∈kQ w.qu q,Wo n:=Ad g.ok hq
 cases e1:kQ w.qu q with
 |nil=>
  rw[e1]at p;refine gz ?_;exact{_,Z9,_,Z9,H0,L,e,ds,_,v,D,Z9,U,hv,hn,ho,p}
 |cons m ms=>
  rw[e1]at p Y Z;refine iU ?_;have g1:=U.queue (x:=q) (l:=l) (ns:=ms) hl (by have:=Z.1;rw[aX]at this;omega) (fun z hz=>Z.2 z (aj _ hz));refine{_,Z9,L.d,L.dx,_,Z9,U.hd,p4 _ _ _ _ _ _ _ _ #[1],_,Z9,_,Z9,.inl {Z9,_,SqL.of Y},l,_,_,0,.int m,Z9,Z9,Y,(by decide),(by decide),(zP (n:=((m::ms).map V.int).length) (i:=0) (j:=0) (by unfold ixN;rw[if_pos (by decide),if_pos (by rw[ah,aX];omega)];rfl)).1,Z9,?_};refine{H0,L,e,ds,_,x,m,Z9,g1,hx,Z.2 m aB,fun G2 M=>?_};have g3:=M.wrote (x:=q) (bL _ hq);exact{_,Z9,L.d,CD,L.dx,_,_,Z9,M.hd,T.cl,T.nW,Gj _ _ _ _ _ _ _ _,_,Z9,L.wd,_,Z9,M.putW q,p _ g3 (xp _ _)}
theorem scDd:bM ["doing","deed","kind"] ["doing","deed"] (aR oN):=e7
theorem MX(hk:19<=k)(D:Df K mg "do_deed" oN ["doing","deed"] f fd)(DD:Df K mg "do_deeds" jI ["doing","deeds"] fD fdD)(GD:bN P w K mg base (CXo P w) k fD fdD ["doing","deeds"] (xo cf CD CS bs qs n))
  (MF:Mt K CD "fill" "Doing.fill" iy ["self","box","worth"] fF fdF) (MR:Mt K CD "reckon" "Doing.reckon" fv ["self","formula"] fR fdR) (GR:bN P w K mg base (CXo P w) 18 fR fdR ["self","formula"] (uL cf CD CS bs qs))
  (DP:Df K mg "do_pull" oP ["doing","name","box","otherwise"] fP fdP) (DU:Df K mg "do_push" oO ["doing","name","formula"] fU fdU) (GU:bN P w K mg base (CXo P w) 19 fU fdU ["doing","name","formula"] (Dl cf CD CS bs qs))
  (DW:Df K mg "do_draw" oQ ["doing","box","formula"] fW fdW) (GW:bN P w K mg base (CXo P w) 19 fW fdW ["doing","box","formula"] (Ah cf CD CS bs qs)) (DS:Df K mg "do_send" oR ["doing","deed"] fS fdS) (GS:bN P w K mg base (CXo P w) 19 fS fdS ["doing","deed"] (Do cf CD CS bs qs)) (MQ:Mt K CD "queue_of" "Doing.queue_of" e8 ["self","name"] fQ fdQ) (T:DT K mg CD) (TM:MdT K mg CM CS) :
  bN P w K mg base (CXo P w) (k+2) f fd ["doing","deed"] (spDd cf CD CS bs qs (n+1)):=by
 have GF:bN P w K mg base CX0 1 fF fdF ["self","box","worth"] (Ae CD CS bs qs):=Af MF T TM;have GP:bN P w K mg base (CXo P w) (k+1) fP fdP ["doing","name","box","otherwise"] (JO cf CD CS bs qs n):=MV #[2] DP DD GD MF MQ T TM;refine D.F.okX scDd #[3] (fun cp A outer s H vs Q E I h=>?_)
 ·obtain⟨H0,L,e,ds,w,v,D,rfl,_⟩:=h;rfl
 obtain⟨H0,L,e,ds,w,v,D,rfl,g,hv,hn,ho,p⟩:=h;have r1:dJ 1 _:=I.mono #[2];have M:dJ 18 _:=I.mono #[2];have O:dJ 19 _:=I.mono #[2];have rk:dJ k _:=I.mono #[2];refine⟨_,ar (pst 2 scDd (bR cv (pv 1) aA))
  (aF (cR (bO ff (pv 2) bX) (aF (eU (jt (pv 0) T.cl MF.m GF r1 MF.b .nil jV (av (bR cv (pv 1) aA) (av (jt (pv 0) T.cl MR.m GR M MR.b .nil (eC.passes fun _ _ _ z=>z) (av (bR cv (pv 1) aA) ao)) ao)))))
  (aF (cR (bO ff (pv 2) bX) (aF (eU (gO GU O rfl DU.m DU.F.kp DU.b .nil (eC.passes fun _ _ _ z=>z) (av (pv 0) (av (bR cv (pv 1) aA) (av (bR cv (pv 1) aA) ao))))))
  (aF (cR (bO ff (pv 2) bX) (aF (eU (gO GP I rfl DP.m DP.F.kp DP.b .nil (eC.passes fun _ _ _ z=>z) (av (pv 0) (av (bR cv (pv 1) aA) (av (bR cv (pv 1) aA) (av (bR cv (pv 1) aA) ao)))))))
  (aF (cR (bO ff (pv 2) bX) (aF (eU (gO GW O rfl DW.m DW.F.kp DW.b .nil (eC.passes fun _ _ _ z=>z) (av (pv 0) (av (bR cv (pv 1) aA) (av (bR cv (pv 1) aA) ao))))))
  (aF (cR (bO ff (pv 2) bX) (aF (eU (gO GS O rfl DS.m DS.F.kp DS.b .nil (eC.passes fun _ _ _ z=>z) (av (pv 0) (av (pv 1) ao)))))
  (aF (cR (bO ff (pv 2) bX) (aF (eU (gO GD rk rfl DD.m DD.F.kp DD.b .nil (eC.passes fun _ _ _ z=>z) (av (pv 0) (av (wO (bO Oi (jt (pv 0) T.cl MR.m GR M MR.b .nil (eC.passes fun _ _ _ z=>z) (av (bR cv (pv 1) aA) ao)) aA) (bR cv (pv 1) aA) (bR cv (pv 1) aA)) ao)))))
  (aF (cR (bO ff (pv 2) bX) (aF (gD (pv 0) oG rfl)) b9)))))))))))))),?_⟩
 dsimp only[cxA,cxB];have no:∀{m:Str},Dj.contains m=false->(dF L.m L.hv L.st L.wd L.od w.en L.rd L.ud).lookup m=Z7:=fun z=>p4 _ _ _ _ _ _ _ _ z;have nx:∀{a b:Str} {p1 p2:Prop},(a==b)=false->p2->(if decide (V.str a=V.str b)=true then p1 else p2):=fun z q=>mj (uJ (sne z)) (gz q);have U:∀{a:Str} {p1 p2:Prop},p1->(if decide (V.str a=V.str a)=true then p1 else p2):=fun q=>mj (Di _) (iU q);have fw:w.len<400000:=by omega
 cases D with
 |put x F=>
  obtain⟨t,u,rfl,ht,hx,Y⟩:=(by simpa only[eT] using hv);have Z:=SqT.of (K:=K) (g.sm _ _ ht);simp only[doD]at p;refine{_,Z9,t,_,_,_,Z9,Z9,Z,Z9,_,Z9,Z9,_,Z9,U ?_};refine{_,Z9,L.d,L.dx,_,Z9,g.hd,no #[1],_,Z9,t,_,_,_,Z9,Z9,Z,Z9,?_};refine{_,Z9,L.d,L.dx,_,Z9,g.hd,no #[1],_,Z9,t,_,_,_,Z9,Z9,Z,Z9,H0,L,e,ds,w,u,F,Z9,g,Y,fw,fun G1 W=>?_};refine m5 p W.sm fun m em p=>?_;exact{H0,L,e,ds,_,x,m,Z9,W,hx,vm W.asks (Y.1.same W.sm) em,fun G' g'=>p G' g' (Dk (w:=w) (F:=F))}
 |push x F=>
  obtain⟨t,u,rfl,ht,hx,Y⟩:=(by simpa only[eT] using hv);have Z:=SqT.of (K:=K) (g.sm _ _ ht);refine{_,Z9,t,_,_,_,Z9,Z9,Z,Z9,_,Z9,Z9,_,Z9,nx #[1] ?_};refine{_,Z9,Z9,_,Z9,U ?_};exact{_,Z9,_,Z9,t,_,_,_,Z9,Z9,Z,Z9,_,Z9,t,_,_,_,Z9,Z9,Z,Z9,H0,L,e,ds,w,x,u,F,Z9,g,hx,Y,fw,p}
 |pull q x o=>
  obtain⟨t,u,rfl,ht,hq,hx,hl⟩:=(by simpa only[eT] using hv);have Z:=SqT.of (K:=K) (g.sm _ _ ht);simp only[Dd.deep]at hn;simp only[Dd.size]at ho p;refine{_,Z9,t,_,_,_,Z9,Z9,Z,Z9,_,Z9,Z9,_,Z9,nx #[1] ?_};refine{_,Z9,Z9,_,Z9,nx #[1] ?_};refine{_,Z9,Z9,_,Z9,U ?_};exact{_,Z9,_,Z9,t,_,_,_,Z9,Z9,Z,Z9,_,Z9,t,_,_,_,Z9,Z9,Z,Z9,_,Z9,t,_,_,_,Z9,Z9,Z,Z9,H0,L,e,ds,w,q,x,u,o,Z9,g,hq,hx,hl,#[2],#[2],p.le #[2]}
 |draw x F=>
  obtain⟨t,u,rfl,ht,hx,Y⟩:=(by simpa only[eT] using hv);have Z:=SqT.of (K:=K) (g.sm _ _ ht);refine{_,Z9,t,_,_,_,Z9,Z9,Z,Z9,_,Z9,Z9,_,Z9,nx #[1] ?_};refine{_,Z9,Z9,_,Z9,nx #[1] ?_};refine{_,Z9,Z9,_,Z9,nx #[1] ?_};refine{_,Z9,Z9,_,Z9,U ?_};exact{_,Z9,_,Z9,t,_,_,_,Z9,Z9,Z,Z9,_,Z9,t,_,_,_,Z9,Z9,Z,Z9,H0,L,e,ds,w,x,u,F,Z9,g,hx,Y,fw,p}
 |send to sg F rk F1 F2=>
  obtain⟨t,u,u1,u2,rfl,ht,Y,cr,cs⟩:=(by simpa only[eT] using hv);have Z:=SqT.of (K:=K) (g.sm _ _ ht);simp only[Dd.size]at ho p;refine{_,Z9,t,_,_,_,Z9,Z9,Z,Z9,_,Z9,Z9,_,Z9,nx #[1] ?_};refine{_,Z9,Z9,_,Z9,nx #[1] ?_};refine{_,Z9,Z9,_,Z9,nx #[1] ?_};refine{_,Z9,Z9,_,Z9,nx #[1] ?_};refine{_,Z9,Z9,_,Z9,U ?_};exact{_,Z9,_,Z9,H0,L,e,ds,w,t,u,u1,u2,to,sg,rk,F,F1,F2,Z9,g,ht,Y,cr,cs,#[2],p}
 |ife F x y=>
  obtain⟨t,u,u1,u2,rfl,ht,Y,hX,hY⟩:=(by simpa only[eT] using hv);simp only[Dd.deep]at hn;simp only[Dd.size]at ho p;simp only[doD]at p;have Z:=SqT.of (K:=K) (g.sm _ _ ht);refine{_,Z9,t,_,_,_,Z9,Z9,Z,Z9,_,Z9,Z9,_,Z9,nx #[1] ?_};refine{_,Z9,Z9,_,Z9,nx #[1] ?_};refine{_,Z9,Z9,_,Z9,nx #[1] ?_};refine{_,Z9,Z9,_,Z9,nx #[1] ?_};refine{_,Z9,Z9,_,Z9,nx #[1] ?_};refine{_,Z9,Z9,_,Z9,U ?_};refine{_,Z9,_,Z9,L.d,L.dx,_,Z9,g.hd,no #[1],_,Z9,t,_,_,_,Z9,Z9,Z,Z9,H0,L,e,ds,w,u,F,Z9,g,Y,fw,fun G1 W=>?_};have J:=SqT.of (K:=K) (W.sm _ _ ht);have lw:Wk.len {w with rk:=w.rk++[F]}=w.len+1:=by
   show w.out.length+(w.rk++[F]).length=w.out.length+w.rk.length+1;rw[au];rfl
  refine m5 p W.sm fun m em p=>?_;refine{Z9,_,Z9,?_}
  by_cases c:m=0
  ·subst c;rw[if_pos rfl]at p;refine mj (b:=false) rfl (gz ?_);exact{_,Z9,t,_,_,_,Z9,Z9,J,Z9,H0,L,e,ds,_,u2,y,Z9,W,hY,#[2],(by rw[lw];omega),p.le (by rw[lw];omega)}
  ·rw[if_neg c]at p;refine mj (b:=true) (by rw[decide_eq_false (fun z=>c (Ab z))];rfl) (iU ?_);exact{_,Z9,t,_,_,_,Z9,Z9,J,Z9,H0,L,e,ds,_,u1,x,Z9,W,hX,#[2],(by rw[lw];omega),p.le (by rw[lw];omega)}
 |fin=>
  obtain⟨t,rfl,ht⟩:=(by simpa only[eT] using hv);have Z:=SqT.of (K:=K) (g.sm _ _ ht);simp only[doD]at p;refine{_,Z9,t,_,_,_,Z9,Z9,Z,Z9,_,Z9,Z9,_,Z9,nx #[1] ?_};refine{_,Z9,Z9,_,Z9,nx #[1] ?_};refine{_,Z9,Z9,_,Z9,nx #[1] ?_};refine{_,Z9,Z9,_,Z9,nx #[1] ?_};refine{_,Z9,Z9,_,Z9,nx #[1] ?_};refine{_,Z9,Z9,_,Z9,nx #[1] ?_};refine{_,Z9,Z9,_,Z9,U ?_};refine{_,Z9,L.d,CD,L.dx,_,Z9,g.hd,T.cl,T.nE,QJ _ _ _ _ _ _ _ _,?_};rw[QG];exact p _ g.ended (xp _ _)
theorem scDs:bM ["doing","deeds","deed"] ["doing","deeds"] (aR jI):=e7
theorem Gp(D:Df K mg "do_deeds" jI ["doing","deeds"] f fd)(I:Df K mg "do_deed" oN ["doing","deed"] f1 fd1)(G1:bN P w K mg base (CXo P w) k f1 fd1 ["doing","deed"] (spDd cf CD CS bs qs n)) :
  bN P w K mg base (CXo P w) (k+1) f fd ["doing","deeds"] (xo cf CD CS bs qs n):=by
 refine D.F.okX scDs #[3] (fun bz A outer s H vs Q E hr h=>?_)
 ·obtain⟨H0,L,e,ds,w,v,D,rfl,_⟩:=h;rfl
 obtain⟨H0,L,e,ds,w,v,D,rfl,g,⟨l,vs,rfl,t,bB,hD⟩,hn,ho,p⟩:=h;refine{_,aF (iE eC.own rfl (hV (pv 1)) (pgn 2 scDs) (aF (eU (gO G1 hr rfl I.m I.F.kp I.b .nil (eC.passes fun _ _ _ z=>z) (av (pv 0) (av (pv 2) ao)))))),?_};dsimp only[cxA,cxB];refine⟨_,Z9,l,Z9,{_,SqL.of (g.sm _ _ t)},kx (K:=K) (a:=l) (xs:=vs) (fun i σ G=>∃(W:Ds) (Y:Wk) (u:Option V),σ=[Z8 (.ref L.d),Z8 (.ref l),u]/\Dg CD CS bs qs H0 G L e ds Y/\fJ bs qs H0 W (vs.drop i)/\W.deep<n/\Y.len+4*W.size<=w.len+4*D.size /\
  uK cf (fun Y G'=>Dg CD CS bs qs H0 G' L e ds Y) H0 (w.len+4*D.size) (doS e ds W Y) Q E) {D,w,Z7,Z9,g,hD,hn,ay _,p} ?_ ?_ ?_⟩
 ·rintro i σ G _ ⟨W,Y,u,rfl,g',_⟩;exact SqL.of (g'.sm _ _ t)
 ·rintro i x σ G hi ⟨W,Y,u,rfl,g',Z,M,O,U⟩;have lt:i<vs.length:=(aC.mp hi).1;have hx:vs[i]=x:=(aC.mp hi).2;rw[Aj lt,hx]at Z
  cases W with
  |nil=>
   simp only[fJ]at Z
   cases Z
  |cons d r=>
   obtain⟨v0,vr,ev,hd,J⟩:=(by simpa only[fJ] using Z)
   cases ev;simp only[Ds.deep]at M;simp only[Ds.size]at O;refine{_,Z9,_,Z9,H0,L,e,ds,Y,x,d,Z9,g',hd,#[2],#[2],?_};simp only[doS]at U
   cases ed:doD e ds d Y with
   |error er=>
    rw[ed]at U;exact U
   |ok w2=>
    rw[ed]at U;intro G2 g2 l2;exact{r,w2,_,Z9,g2,J,#[2],#[2],U}
 ·rintro σ G ⟨W,Y,u,rfl,g',Z,M,O,U⟩;rw[Lv]at Z
  cases W with
  |nil=>
   simp only[doS]at U;exact U G g' #[2]
  |cons d r=>
   obtain⟨v0,vr,ev,_⟩:=(by simpa only[fJ] using Z)
   cases ev
theorem tW(D:Df K mg "do_deeds" jI ["doing","deeds"] f fd)(Z:Df K mg "do_deed" oN ["doing","deed"] f1 fd1)
  (M:Mt K CD "fill" "Doing.fill" iy ["self","box","worth"] fF fdF) (J:Mt K CD "reckon" "Doing.reckon" fv ["self","formula"] fR fdR) (GR:bN P w K mg base (CXo P w) 18 fR fdR ["self","formula"] (uL cf CD CS bs qs))
  (O:Df K mg "do_pull" oP ["doing","name","box","otherwise"] fP fdP) (I:Df K mg "do_push" oO ["doing","name","formula"] fU fdU) (U:bN P w K mg base (CXo P w) 19 fU fdU ["doing","name","formula"] (Dl cf CD CS bs qs))
  (Y:Df K mg "do_draw" oQ ["doing","box","formula"] fW fdW) (z:bN P w K mg base (CXo P w) 19 fW fdW ["doing","box","formula"] (Ah cf CD CS bs qs)) (DS:Df K mg "do_send" oR ["doing","deed"] fS fdS) (g:bN P w K mg base (CXo P w) 19 fS fdS ["doing","deed"] (Do cf CD CS bs qs)) (V:Mt K CD "queue_of" "Doing.queue_of" e8 ["self","name"] fQ fdQ) (T:DT K mg CD) (t:MdT K mg CM CS) :
  ∀n:Nat,bN P w K mg base (CXo P w) (20+3*n) f fd ["doing","deeds"] (xo cf CD CS bs qs n)
 |0=>by
  have W:∀vs H Q E,¬xo cf CD CS bs qs 0 vs H Q E:=fun vs H Q E h=>by
   obtain⟨H0,L,e,ds,w,v,D,_,_,_,hn,_⟩:=h;omega
  exact{fun vs H Q E h=>absurd h (W vs H Q E),fun A outer s H args us vs Q E _ _ _ _ h=>absurd h (W vs H Q E)}
 |n+1=>Gp D Z (MX (n:=n) (k:=20+3*n) #[2] Z D (tW D Z M J GR O I U Y z DS g V T t n) M J GR O I U Y z DS g V T t)
end
end My
namespace L2
open PySem PySem.Spec PyProof.Rows
theorem Dp:lE X (.type "dict") (fun xs H Q=>∃d kvs,xs=[V.ref d]/\H d=Z8 (.dK kvs)/\∀p,H p=Z7->Q (.ref p) (upd H p (.dK kvs))):=by
 intro pins s σ H xs us Q I r h;obtain⟨d,kvs,rfl,O,q⟩:=h;obtain⟨u,rfl,M⟩:=vals1 r
 cases M;obtain⟨hz,Z,J,k1,U⟩:=(show dZ X.prog X.w H s.heap d (.dK kvs) from I.hok d _ O);refine kt_call_dict (knd:=cP X.prog X.w) Z U (by rw[<- k1.length];exact hz) fun h' W Y=>?_;have kk:∀b o,s.heap.get? b=Z8 o->h'.get? b=Z8 o:=fun b o e=>(Y.2 b (aM (aO e))).trans (aE _ e);exact{.ref s.heap.objs.size,_,I.laid (a:=s.heap.objs.size) (o:=.dK kvs) (t':=s.toks) kk (ay _) (zT hz (beq_eq_false_iff_ne.mpr (fb (aM I.big))) k1 W),Z9,q _ (I.hok.fresh (ay _))}
end L2
namespace My
open PySem L2
def jT(CS:ae)(H:Hp)(st:ae)(bx:List (Str×Int))(qu:List (Str×List Int))(dr:Nat)(se:Int):Prop:=
 ∃dx W Z Y,H st=Z8 (.ins CS dx (pK (.ref W) (.ref Z) (.int dr) (.int se)))/\H W=Z8 (.dK (boK bx))/\H Z=Z8 (.dK (quK Y))/\gE H Y qu
theorem gE.same(s:bj G G')(q:gE G Z qu):gE G' Z qu:=
 gE.keep (L:={0,0,0,0,0,0,0,0,0,0,.non,.non,Z}) (fun a u e _=>s _ _ e) (fun _ h=>h) q
theorem jT.same(s:bj H H')(h:jT CS H st bx qu dr se):jT CS H' st bx qu dr se:=by
 obtain⟨dx,V,Y,U,h1,h2,Z,W⟩:=h;exact{dx,V,Y,U,s _ _ h1,s _ _ h2,s _ _ Z,W.same s}
structure StNew(CS:ae)(H G:Hp)(st:ae)(bx:List (Str×Int))(qu:List (Str×List Int))(dr:Nat)(se:Int)(dxs bd qd:ae)(qa:List (Str×ae)):Prop where
 sm:bj H G
 hst:G st=Z8 (.ins CS dxs (pK (.ref bd) (.ref qd) (.int dr) (.int se)))
 hb:G bd=Z8 (.dK (boK bx))
 hq:G qd=Z8 (.dK (quK qa))
 hl:gE G qa qu
 nd:(st::bd::qd::qa.map (·.2)).Nodup
 fr:∀a∈st::bd::qd::qa.map (·.2),H a=Z7
inductive EV(CS:ae)(vs:List V)(H:Hp)(Q:VK)(_e:XK):Prop where
 |mk(st:ae)(bx:List (Str×Int))(qu:List (Str×List Int))(dr:Nat)(se:Int)(_:vs=[.ref st])(_:jT CS H st bx qu dr se)(_:(qu.map (·.1)).Nodup)(_:qu.length<100)(_:∀(G:Hp) (st' dxs bd qd:ae) (qa:List (Str×ae)),StNew CS H G st' bx qu dr se dxs bd qd qa->Q (.ref st') G):EV CS vs H Q _e
def JP(CS:ae):Sp:=fun vs H Q Z=>EV CS vs H Q Z
theorem MY(h:x∉Z.map (·.1)):iV (quK Z) (Sum.inr x) (.ref l)=quK (Z++[(x,l)]):=by
 have e:Z.lookup x=Z7:=by
  cases z:Z.lookup x with
  |none=>rfl
  |some a=>exact absurd (cB.mpr {_,qP z,Z9}) h
 unfold iV;have v:iR (quK Z) (Sum.inr x)=Z7:=by
  have z:=tV V.ref x Z;rw[e]at z;exact z
 rw[jH,v];show (if false=true then _ else _)=_;rw[if_neg (by decide)];unfold quK;rw[bA];rfl
theorem EW(Z:List (Str×ae)):(quK Z).length=Z.length:=ah _
theorem gE.len(q:gE G Z qu):Z.length=qu.length:=aL q
theorem gE.nm:∀{Z:List (Str×ae)} {qu:List (Str×List Int)},gE G Z qu->Z.map (·.1)=qu.map (·.1)
 |_,_,.nil=>rfl
 |_::_,_::_,.cons a b=>by rw[bK,bK,a.1,gE.nm b]
theorem gE.nth:∀{Z:List (Str×ae)} {qu:List (Str×List Int)} {i:Nat} {p:Str×ae},gE G Z qu->Z[i]?=Z8 p->∃q,qu[i]?=Z8 q/\p.1=q.1/\G p.2=Z8 (.lst (q.2.map V.int))
 |_,_,i,p,.nil,h=>by simp at h
 |_::_,_::_,0,p,.cons a b,h=>by
  simp at h;subst h;exact{_,Z9,a.1,a.2}
 |_::_,_::_,i+1,p,.cons a b,h=>by
  obtain⟨q,h1,h2⟩:=gE.nth (i:=i) (p:=p) b (by simpa using h);exact{q,by simpa using h1,h2}
section
variable{P:aI}{w:aY}{K:ag}{mg:Str->Option af}{base:cb}{f fI CD CS CM:ae}{fd fdI:bY}
theorem MZ:bM ["self","queues","name","worths"] ["self"] (aR kF):=e7
theorem Ak(F:Fun K "copy" "State.copy" kF f fd)(MS:Mk K CS fI)(FI:Fun K "__init__" "State.__init__" kE fI fdI)(bI:Binds K fdI ["self","boxes","queues","drawn","sent"] [])(B:Bl mg)(T:MdT K mg CM CS) :
  bN P w K mg base CX0 3 f fd ["self"] (JP CS):=by
 have GI:bN P w K mg base CX0 1 fI fdI ["self","boxes","queues","drawn","sent"] (Qy CS):=OH FI T;refine F.ok MZ #[3] (fun dc A outer s H vs Q E hr h=>?_)
 ·obtain⟨st,bx,qu,dr,se,rfl,_⟩:=h;rfl
 obtain⟨st,bx,qu,dr,se,rfl,⟨dx,bd,W,J,M,hb,hq,hl⟩,ef,lq,k⟩:=h;have hu:=qD hr;refine⟨_,ar (pst 1 MZ tK)
  (ar (Ml (iE cw rfl (IU (cX (pv 0) rfl)) (rY rfl (iw (pgn 2 MZ) (iw (pgn 3 MZ) o8))) (aF (nZ hu (pv 1) (pv 2) (iQ tH #[7] B.list boot_list (av (pv 3) ao)) rfl))))
  (aF (bQ (q8 MS GI hr #[7] T.mS bI .nil jV (av (iQ Dp #[7] B.dict boot_dict (av (cX (pv 0) rfl) ao)) (av (pv 1) (av (cX (pv 0) rfl) (av (cX (pv 0) rfl) ao)))))))),?_⟩
 dsimp only[cxA,cxB];intro d hd;have s1:bj H (upd H d (.dK [])):=aG hd _;have nf:∀(ob:Obj) (u:HO),H W≠Z8 (.frz ob u):=fun ob u z=>by
  rw[hq]at z
  cases z
 have eh:d≠W:=(aJ hq hd).symm;have di:(J.map (·.1)).Nodup:=by
  rw[hl.nm];exact ef
 refine{_,Z9,st,CS,dx,_,_,Z9,s1 _ _ M,T.clS,T.nQ,MJ _ _ _ _,W,_,Z9,s1 _ _ hq,nf,fun od=>?_};refine FZ (d:=W) (od:=od) (kvs:=quK J) (fun i σ G=>∃(v2 v3:Option V) (Z:List (Str×ae)),σ=[Z8 (.ref st),Z8 (.ref d),v2,v3]/\G W=Z8 (.frz od (.dK (quK J)))/\(∀b o,H b=Z8 o->b≠W->G b=Z8 o)/\G d=Z8 (.dK (quK Z)) /\
  gE G Z (qu.take i)/\(Z.map (·.2)).Nodup/\∀a∈Z.map (·.2),H a=Z7/\a≠d) {Z7,Z7,[],Z9,ak,fun b o e n=>?_,?_,?_,iY,fun a h=>by cases h} ?_ ?_ ?_
 ·rw[aQ n];exact s1 _ _ e
 ·rw[aQ eh];exact ak
 ·rw[jW];exact .nil
 ·rintro i σ G _ ⟨_,_,_,_,h1,_⟩;exact h1
 ·rintro i kv t σ G hi ⟨v2,v3,Z,rfl,g1,g2,g3,D,g5,g6⟩ ht;obtain⟨p,hp,rfl⟩:∃p,J[i]?=Z8 p/\kv=((Sum.inr p.1:Key),V.ref p.2):=by
   unfold quK at hi;rw[bT]at hi
   cases z:J[i]? with
   |none=>
    rw[z]at hi
    cases hi
   |some p=>
    rw[z]at hi
    cases hi;exact⟨p,Z9,Z9⟩
  obtain⟨q,dz,dV,du⟩:=hl.nth hp;have U:=aG ht (.tup [kV (Sum.inr p.1),.ref p.2]);have dj:p.2≠W:=kg du hq (by intro z;cases z);refine{t,_,Z9,SqT.of ak,Z9,_,_,Z9,_,_,Z9,Z9,?_};refine{_,Z9,p.2,_,Z9,.inl (SqL.of (U _ _ (g2 _ _ du dj))),fun l ee=>?_};have sl:=aG ee (.lst (q.2.map V.int));have dn:=sl _ _ (U _ _ g3);have de:i<qu.length:=(aC.mp dz).1;have tk:(qu.take (i+1))=qu.take i++[q]:=by
   rw[cm,dz];rfl
  have dq:p.1∉Z.map (·.1):=by
   rw[D.nm,dV];intro z;have ed:((qu.take (i+1)).map (·.1)).Nodup:=by
    rw[QL];exact ef.sublist (uZ _ _)
   rw[tk,bA]at ed;exact (gI.mp ed).2.2 _ z q.1 #[5] rfl
  have ea:(quK Z).length<aD:=by
   have z:=D.len;rw[bD]at z;rw[EW];have:=eJ;omega
  have dp:=ux.k (k:=Sum.inr p.1) (v:=.ref l) dn ea;rw[MY dq]at dp;refine{_,Z9,_,Z9,d,_,Z9,dp,?_};have Y:G l=Z7:=by
   cases z:G l with
   |none=>rfl
   |some o=>
    have:=U _ _ z;rw[ee]at this
    cases this
  have dk:H l=Z7:=by
   cases z:H l with
   |none=>rfl
   |some o=>
    by_cases c:l=W
    ·rw[c,g1]at Y
     cases Y
    ·rw[g2 _ _ z c]at Y
     cases Y
  have dL:l≠d:=fun z=>by rw[z,g3]at Y;cases Y
  refine{_,_,Z++[(p.1,l)],Z9,?_,fun b o e n=>?_,ak,?_,?_,fun a ha=>?_}
  ·rw[aQ eh.symm];exact sl _ _ (U _ _ g1)
  ·rw[aQ (aJ e hd)];exact sl _ _ (U _ _ (g2 _ _ e n))
  ·rw[tk];have old:gE (upd (upd (upd G t (.tup [kV (Sum.inr p.1),.ref p.2])) l (.lst (q.2.map V.int))) d (.dK (quK (Z++[(p.1,l)])))) Z (qu.take i):=
    gE.keep (L:={0,0,0,0,0,0,0,0,0,0,.non,.non,Z}) (fun a u e m=>bh (sl _ _ (U _ _ e)) (g6 a m).2) (fun _ h=>h) D
   exact dy old {dV,bh ak dL}
  ·rw[bA];refine gI.mpr {g5,by simp,fun a ha b hb=>?_};rw[aK.mp hb];intro z;obtain⟨pp,g,e⟩:=cB.mp ha;obtain⟨j,hj⟩:=c9 g;obtain⟨_,_,_,y⟩:=D.nth hj;rw[e,z,Y]at y
   cases y
  ·rw[bA]at ha
   rcases cj.mp ha with z|z
   ·exact g6 a z
   ·rw[aK.mp z];exact⟨dk,dL⟩
 ·rintro σ G ⟨v2,v3,Z,rfl,g1,g2,g3,D,g5,g6⟩;rw[EW,hl.len,cu]at D;refine{W,od,_,g1,nf,?_};have I:bj H (upd G W (.dK (quK J))):=fun b o e=>by
   by_cases c:b=W
   ·rw[c,ak];rw[c,hq]at e;exact e
   ·rw[aQ c];exact g2 _ _ e c
  have O:upd G W (.dK (quK J)) d=Z8 (.dK (quK Z)):=bh g3 eh;have eg:gE (upd G W (.dK (quK J))) Z qu:=
   gE.keep (L:={0,0,0,0,0,0,0,0,0,0,.non,.non,Z}) (fun a u e m=>bh e (aJ hq (g6 a m).1).symm) (fun _ h=>h) D
  generalize upd G W (.dK (quK J))=G2 at I O eg;refine{_,Z9,st,CS,dx,_,_,Z9,I _ _ M,T.clS,T.nB,MI _ _ _ _,bd,_,Z9,I _ _ hb,fun e he=>?_};have s3:=aG he (.dK (boK bx));refine{_,Z9,_,Z9,st,CS,dx,_,_,Z9,s3 _ _ (I _ _ M),T.clS,T.nD,Jx _ _ _ _,_,Z9,st,CS,dx,_,_,Z9,s3 _ _ (I _ _ M),T.clS,T.nS,Jy _ _ _ _,?_};intro x dw nx dt dg;refine{x,dw,_,_,_,_,Z9,ak,fun H' hx bt=>{Z9,?_}};have sm:bj (upd G2 e (.dK (boK bx))) H':=fun b o e2=>by
   have cx:b≠x:=aJ e2 nx;refine bt b o ?_ cx;rw[aQ cx,aQ (aJ e2 dt)];exact e2
  have ei:=s3.trans sm;have fresh:∀{a:ae},upd G2 e (.dK (boK bx)) a=Z7->H a=Z7:=fun {a} z=>by
   cases y:H a with
   |none=>rfl
   |some o=>
    rw[s3 _ _ (I _ _ y)]at z
    cases z
  have dl:H e=Z7:=by
   cases y:H e with
   |none=>rfl
   |some o=>
    rw[I _ _ y]at he
    cases he
  refine k H' x dw e d Z {I.trans ei,hx,sm _ _ ak,ei _ _ O,eg.same ei,?_,?_}
  ·have eb:x≠e:=(aJ (ak:upd G2 e (.dK (boK bx)) e=_) nx).symm;have ec:x≠d:=(aJ (s3 _ _ O) nx).symm;have dG:e≠d:=(aJ O he).symm;have ql:∀a∈Z.map (·.2),∃o,G2 a=Z8 o:=fun a ha=>by
    obtain⟨pp,g,e⟩:=cB.mp ha;obtain⟨j,hj⟩:=c9 g;obtain⟨_,_,_,y⟩:=eg.nth hj;rw[<- e];exact{_,y}
   refine cH.mpr {fun z=>?_,cH.mpr {fun z=>?_,cH.mpr {fun z=>(g6 d z).2 rfl,g5}}}
   ·rcases aq.mp z with z|z
    ·exact eb z
    ·rcases aq.mp z with z|z
     ·exact ec z
     ·obtain⟨o,y⟩:=ql x z;exact (aJ (s3 _ _ y) nx) rfl
   ·rcases aq.mp z with z|z
    ·exact dG z
    ·obtain⟨o,y⟩:=ql e z;exact (aJ y he) rfl
  ·intro a ha
   rcases aq.mp ha with z|z
   ·rw[z];exact fresh nx
   ·rcases aq.mp z with z|z
    ·rw[z];exact dl
    ·rcases aq.mp z with z|z
     ·rw[z];exact hd
     ·exact (g6 a z).1
end
theorem Dg.base(g:Dg CD CS bs qs H0 G L h ds w)(s:bj G G')(Y:bj H0 Z)(I:bj Z G')(fr:∀a∈L.all,Z a=Z7):Dg CD CS bs qs Z G' L h ds w:=by
 obtain⟨t,x1,M,U,J,W,O,hm,hdl⟩:=g.hm;have g':=g.same s;obtain⟨rs,D,V⟩:=g'.hr;exact{I,g'.hd,g'.hst,g'.hb,g'.hq,g'.hl,g'.hw,g'.ho,{rs,D,Paired.mono (fun _ _ z=>z.same Y) V},g'.hu,g.hh.same Y,{t,x1,M,U,J,W,O,Y _ _ hm,Y _ _ hdl},g.nd,fr,g.ok,g.wt,g.wa,g.wb}
theorem gE.there(q:gE G Y qu)(h:a∈Y.map (·.2)):∃xs,G a=Z8 (.lst xs):=by
 obtain⟨V,Z,e⟩:=cB.mp h;obtain⟨j,W⟩:=c9 Z;obtain⟨_,_,_,y⟩:=q.nth W;rw[<- e];exact{_,y}
theorem Dg.there(g:Dg CD CS bs qs H0 G L h ds w):∀a∈L.all,∃o,G a=Z8 o:=fun a ha=>by
 obtain⟨vs,Z,_⟩:=g.ho;obtain⟨rs,Y,_⟩:=g.hr;unfold Lay.all at ha;simp only[aq]at ha
 rcases ha with rfl|rfl|rfl|rfl|rfl|rfl|rfl|rfl|ha
 ·exact{_,g.hd}
 ·exact{_,g.hst}
 ·exact{_,g.hb}
 ·exact{_,g.hq}
 ·exact{_,g.hw}
 ·exact{_,Z}
 ·exact{_,Y}
 ·exact{_,g.hu}
 ·obtain⟨xs,e⟩:=g.hl.there ha;exact{_,e}
def Gq(bs qs:List Str)(H:Hp)(v:V)(p:Str×Ds):Prop:=∃t u,v=.ref t/\H t=Z8 (.tup [.str p.1,u])/\oj H (fJ bs qs H p.2) u
def j5(hs:List (Str×Ds))(Z:Str):Ds:=(hs.lookup Z).getD .nil
theorem Gq.same(s:bj H H')(h:Gq bs qs H v p):Gq bs qs H' v p:=by
 obtain⟨t,u,e,h1,h2⟩:=h;exact{t,u,e,s _ _ h1,h2.same s (fJ.same s p.2)}
section
variable{P:aI}{w:aY}{K:ag}{mg:Str->Option af}{base:cb}{f fC fI CD CS CM:ae}{fd fdC fdI:bY}{bs qs:List Str}
theorem gJ(h:upd G a o b=Z7):b≠a/\G b=Z7:=by
 by_cases c:b=a
 ·rw[c,ak]at h
  cases h
 ·rw[aQ c]at h;exact⟨c,h⟩
theorem BA(Z:G M=Z7)(W:G od=Z7)(Y:G U=Z7)(V:G O=Z7)(e:G a=Z8 o)(n:a≠d):upd (upd (upd (upd (upd (upd (upd (upd (upd G d t) M (.dK [])) d J) od (.lst [])) d I) U (.lst [])) d z) O (.dK [])) d D a=Z8 o:=
 bh (bh (bh (bh (bh (bh (bh (bh (bh e n) (aJ e Z)) n) (aJ e W)) n) (aJ e Y)) n) (aJ e V)) n
inductive OQ(CD CS:ae)(bs qs:List Str)(vs:List V)(H:Hp)(Q:VK)(_e:XK):Prop where
 |mk(H0:Hp)(d dx st:ae)(m hv:V)(h:Ev)(ds:List Int)(bx:List (Str×Int))(qu:List (Str×List Int))(dr:Nat)(se:Int)(_:vs=[.ref d,m,.ref st,hv])(_:H d=Z8 (.ins CD dx []))(_:H0 d=Z7)(_:bj H0 H)(_:jT CS H0 st bx qu dr se)(_:iW H0 hv h)(_:(∃t x1 x2 x3 x4 dl,m=.ref t/\H0 t=Z8 (.tup [x1,x2,x3,.ref dl,x4])/\H0 dl=Z8 (.lst (ds.map V.int))))(_:qO bs qs ⟨bx,qu,dr,se,[],[],false,[],[]⟩)(_:Wo h.t)(_:Wo h.a)(_:Wo h.b)(_:∀(G:Hp) (L:Lay),L.d=d->L.m=m->Dg CD CS bs qs H0 G L h ds ⟨bx,qu,dr,se,[],[],false,[],[]⟩->Q .non G):OQ CD CS bs qs vs H Q _e
def QM(CD CS:ae)(bs qs:List Str):Sp:=fun vs H Q Z=>OQ CD CS bs qs vs H Q Z
theorem scDI:bM ["self","machine","state","happening"] ["self","machine","state","happening"] (aR pE):=e7
theorem JQ(F:Fun K "__init__" "Doing.__init__" pE f fd)(MC:Mt K CS "copy" "State.copy" kF ["self"] fC fdC)(GC:bN P w K mg base CX0 3 fC fdC ["self"] (JP CS))(T:DT K mg CD)(TM:MdT K mg CM CS):bN P w K mg base CX0 4 f fd ["self","machine","state","happening"] (QM CD CS bs qs):=by
 refine F.ok scDI #[3] (fun dl A outer s H vs Q E hr h=>?_)
 ·obtain⟨H0,d,dx,st,m,hv,h,ds,bx,qu,dr,se,rfl,_⟩:=h;rfl
 obtain⟨H0,d,dx,st,m,hv,h,ds,bx,qu,dr,se,rfl,hd,ec,s0,hS,hE,hM,ok,wt,wa,wb,k⟩:=h;refine{_,ar (gD (pv 0) (pv 1) rfl) (ar (gD (pv 0) (pv 3) rfl) (ar (gD (pv 0) (tE (pv 2) TM.clS MC.m GC hr MC.b .nil jV) rfl) (ar (gD (pv 0) tK rfl) (ar (gD (pv 0) (eO ao) rfl) (ar (gD (pv 0) oG rfl) (ar (gD (pv 0) (eO ao) rfl) (aF (gD (pv 0) tK rfl)))))))),?_};dsimp only[cxA,cxB];have l1:=iP "machine" m [];have l2:=iP "happening" hv (dO "machine" m []);simp only[cI]at l1;refine{_,Z9,_,Z9,d,CD,dx,[],Z9,hd,T.cl,T.nM,(by show 0<1000;decide),?_};refine{_,Z9,_,Z9,d,CD,dx,_,Z9,ak,T.cl,T.nH,#[2],?_};rw[Eh];have sd:∀(o:HO),bj H0 (upd H d o):=fun o b u e=>by
  rw[aQ (aJ e ec)];exact s0 _ _ e
 obtain⟨dG,dg,dp,dj,ea,_⟩:=id hS;refine{_,Z9,st,dG,_,Z9,sd _ _ _ ea,st_no _ _ _ _ #[1],st,bx,qu,dr,se,Z9,hS.same (sd _),(by rw[ok.kq];exact ok.nq),?_,fun G V dt bd qd qa N=>?_}
 ·have e:=congrArg i5 ok.kq;rw[ah]at e;have:=ok.fw;rw[au]at this;show qu.length<100;have e:qu.length=qs.length:=e;omega
 have gd:G d=Z8 (.ins CD dx (dO "happening" hv (dO "machine" m []))):=N.sm _ _ ak;have l3:=iP "state" (.ref V) (dO "happening" hv (dO "machine" m []));have l4:=fun I=>iP "written" (.ref I) (dO "state" (.ref V) (dO "happening" hv (dO "machine" m [])));have l5:=fun od I=>iP "outgoing" (.ref od) (dO "written" (.ref I) (dO "state" (.ref V) (dO "happening" hv (dO "machine" m []))));refine{_,Z9,d,CD,dx,_,Z9,gd,T.cl,T.nS,#[2],?_};have l6:=fun od I=>iP "ends" (.bl false) (dO "outgoing" (.ref od) (dO "written" (.ref I) (dO "state" (.ref V) (dO "happening" hv (dO "machine" m [])))));have l7:=fun rd od I=>iP "reckoned" (.ref rd) (dO "ends" (.bl false) (dO "outgoing" (.ref od) (dO "written" (.ref I) (dO "state" (.ref V) (dO "happening" hv (dO "machine" m []))))));intro I J;obtain⟨D,J⟩:=gJ J;refine{_,Z9,d,CD,dx,_,Z9,(by rw[aQ D.symm];exact ak),T.cl,T.nW,#[2],aW _,fun od U=>?_};obtain⟨t,U⟩:=gJ U;obtain⟨ed,U⟩:=gJ U;obtain⟨_,U⟩:=gJ U;have di:=l4 I;have dq:=l5 od I;have dn:=l6 od I;refine{_,Z9,d,CD,dx,_,Z9,(by rw[aQ t.symm];exact ak),T.cl,T.nO,#[2],?_};refine{_,Z9,d,CD,dx,_,Z9,ak,T.cl,T.nE,#[2],aW _,fun rd W=>?_};rw[Eh]at W |-;obtain⟨eh,W⟩:=gJ W;obtain⟨dL,W⟩:=gJ W;obtain⟨_,W⟩:=gJ W;obtain⟨dw,W⟩:=gJ W;obtain⟨_,W⟩:=gJ W;have dk:=l7 rd od I;refine{_,Z9,d,CD,dx,_,Z9,(by rw[aQ eh.symm];exact ak),T.cl,T.nR,#[2],?_};intro ud Z;obtain⟨eb,Z⟩:=gJ Z;obtain⟨dV,Z⟩:=gJ Z;obtain⟨_,Z⟩:=gJ Z;obtain⟨dz,Z⟩:=gJ Z;obtain⟨_,Z⟩:=gJ Z;obtain⟨du,Z⟩:=gJ Z;obtain⟨_,Z⟩:=gJ Z;refine{_,Z9,d,CD,dx,_,Z9,(by rw[aQ eb.symm];exact ak),T.cl,T.nQ,#[2],?_};rw[QF];have ei:∀{a:ae},G a=Z7->H0 a=Z7:=fun {a} z=>by
  cases y:H0 a with
  |none=>rfl
  |some o=>
   rw[N.sm _ _ (sd _ _ _ y)]at z
   cases z
 have O:∀a∈V::bd::qd::qa.map (·.2),H0 a=Z7/\a≠d:=fun a ha=>by
  have z:=N.fr a ha;have n:a≠d:=fun y=>by
   rw[y,ak]at z
   cases z
  rw[aQ n]at z;refine{?_,n}
  cases y:H0 a with
  |none=>rfl
  |some o=>
   rw[s0 _ _ y]at z
   cases z
 have ee:∀a∈V::bd::qd::qa.map (·.2),∃o,G a=Z8 o:=fun a ha=>by
  simp only[aq]at ha
  rcases ha with rfl|rfl|rfl|ha
  ·exact{_,N.hst}
  ·exact{_,N.hb}
  ·exact{_,N.hq}
  ·obtain⟨xs,e⟩:=N.hl.there ha;exact{_,e}
 have M:∀{b:ae} {xs:List ae},b∈b::xs:=aB;have Y:∀{a b:ae} {xs:List ae},b∈xs->b∈a::xs:=fun z=>aj _ z;refine k _ ⟨d,dx,V,dt,bd,qd,I,od,rd,ud,m,hv,qa⟩ rfl rfl {fun b o e=>BA J U W Z (N.sm _ _ (sd _ _ _ e)) (aJ e ec),ak,BA J U W Z N.hst (O _ M).2,BA J U W Z N.hb (O _ (Y M)).2,BA J U W Z N.hq (O _ (Y (Y M))).2,?_,?_,{[],?_,.nil},{[],?_,.nil},?_,hE,hM,?_,?_,ok,wt,wa,wb}
 ·exact gE.keep (L:={0,0,0,0,0,0,0,0,0,0,.non,.non,qa}) (fun a u e m=>BA J U W Z e (O a (Y (Y (Y m)))).2) (fun _ h=>h) N.hl
 ·show upd _ d _ I=Z8 (.dK []);rw[aQ D,aQ du.symm,aQ D,aQ dw.symm,aQ D,aQ ed.symm,aQ D,ak]
 ·show upd _ d _ od=Z8 (.lst []);rw[aQ t,aQ dz.symm,aQ t,aQ dL.symm,aQ t,ak]
 ·show upd _ d _ rd=Z8 (.lst []);rw[aQ eh,aQ dV.symm,aQ eh,ak]
 ·show upd _ d _ ud=Z8 (.dK []);rw[aQ eb,ak]
 ·have nd:=N.nd;have hn:∀{a:ae} {xs:List ae},a∉xs->xs.Nodup->(a::xs).Nodup:=fun p q=>cH.mpr ⟨p,q⟩;obtain⟨n1,nd⟩:=cH.mp nd;obtain⟨n2,nd⟩:=cH.mp nd;obtain⟨n3,nd⟩:=cH.mp nd;simp only[aq,not_or]at n1 n2 n3;have ej:∀a∈V::bd::qd::qa.map (·.2),a≠I:=fun a ha z=>by
   obtain⟨o,y⟩:=ee a ha;rw[z,J]at y
   cases y
  have eg:∀a∈V::bd::qd::qa.map (·.2),a≠od:=fun a ha z=>by
   obtain⟨o,y⟩:=ee a ha;rw[z,U]at y
   cases y
  have ef:∀a∈V::bd::qd::qa.map (·.2),a≠rd:=fun a ha z=>by
   obtain⟨o,y⟩:=ee a ha;rw[z,W]at y
   cases y
  have g:∀a∈V::bd::qd::qa.map (·.2),a≠ud:=fun a ha z=>by
   obtain⟨o,y⟩:=ee a ha;rw[z,Z]at y
   cases y
  show (d::V::bd::qd::I::od::rd::ud::qa.map (·.2)).Nodup;refine hn ?_ (hn ?_ (hn ?_ (hn ?_ (hn ?_ (hn ?_ (hn ?_ (hn ?_ nd)))))))
  ·simp only[aq,not_or];exact{fun z=>(O _ M).2 z.symm,fun z=>(O _ (Y M)).2 z.symm,fun z=>(O _ (Y (Y M))).2 z.symm,D.symm,t.symm,eh.symm,eb.symm,fun z=>(O d (Y (Y (Y z)))).2 rfl}
  ·simp only[aq,not_or];exact{n1.1,n1.2.1,ej _ M,eg _ M,ef _ M,g _ M,n1.2.2}
  ·simp only[aq,not_or];exact{n2.1,ej _ (Y M),eg _ (Y M),ef _ (Y M),g _ (Y M),n2.2}
  ·simp only[aq,not_or];exact{ej _ (Y (Y M)),eg _ (Y (Y M)),ef _ (Y (Y M)),g _ (Y (Y M)),n3}
  ·simp only[aq,not_or];exact{ed.symm,dw.symm,du.symm,fun z=>ej I (Y (Y (Y z))) rfl}
  ·simp only[aq,not_or];exact{dL.symm,dz.symm,fun z=>eg od (Y (Y (Y z))) rfl}
  ·simp only[aq,not_or];exact{dV.symm,fun z=>ef rd (Y (Y (Y z))) rfl}
  ·exact fun z=>g ud (Y (Y (Y z))) rfl
 ·intro a ha;unfold Lay.all at ha;simp only[aq]at ha
  rcases ha with rfl|rfl|rfl|rfl|rfl|rfl|rfl|rfl|ha
  ·exact ec
  ·exact (O _ M).1
  ·exact (O _ (Y M)).1
  ·exact (O _ (Y (Y M))).1
  ·exact ei J
  ·exact ei U
  ·exact ei W
  ·exact ei Z
  ·exact (O a (Y (Y (Y ha)))).1
inductive OR(bs qs:List Str)(vs:List V)(H:Hp)(Q:VK)(_e:XK):Prop where
 |mk(H0:Hp)(t hl:ae)(x0 x1 x2 x3:V)(hv:List V)(hs:List (Str×Ds))(sg:Str)(_:vs=[.ref t,.str sg])(_:bj H0 H)(_:H0 t=Z8 (.tup [x0,x1,x2,x3,.ref hl]))(_:H0 hl=Z8 (.lst hv))(_:aN (Gq bs qs H0) hv hs)(_:(∀u,oj H0 (fJ bs qs H0 (j5 hs sg)) u->Q u H))(_:∀l,H l=Z7->j5 hs sg=.nil->Q (.ref l) (upd H l (.lst []))):OR bs qs vs H Q _e
def QN(bs qs:List Str):Sp:=fun vs H Q Z=>OR bs qs vs H Q Z
theorem scBy:bM ["machine","sign","heard"] ["machine","sign"] (aR jc):=e7
theorem oV{α Z:Type}{R:α->Z->Prop}:∀{xs:List α} {ys:List Z} {i:Nat} {x:α},aN R xs ys->xs[i]?=Z8 x->∃y,ys[i]?=Z8 y/\R x y
 |_,_,i,x,.nil,h=>by simp at h
 |_,_,0,x,.cons a b,h=>by
  simp at h;subst h;exact{_,Z9,a}
 |_,_,i+1,x,.cons a b,h=>by
  obtain⟨y,h1,h2⟩:=oV (i:=i) (x:=x) b (by simpa using h);exact{y,by simpa using h1,h2}
theorem ok_by(D:Df K mg "deeds_by_sign" jc ["machine","sign"] f fd):bN P w K mg base CX0 1 f fd ["machine","sign"] (QN bs qs):=by
 refine D.F.ok scBy #[3] (fun J A outer s H vs Q E hr h=>?_)
 ·obtain⟨H0,t,U,x0,x1,x2,M,hv,hs,W,rfl,_⟩:=h;rfl
 obtain⟨H0,t,U,x0,x1,x2,M,hv,hs,W,rfl,sm,ht,V,O,k1,k2⟩:=h;have ht:=sm _ _ ht;have V:=sm _ _ V;refine⟨_,ar (iE cw rfl (hV (bR cv (pv 0) aA)) (pgn 2 scBy) (aF (cR (bO ff (bR cv (pv 2) aA) (pv 1)) (aF (bQ (bR cv (pv 2) aA))) b9)))
  (aF (bQ (eO ao))),?_⟩
 dsimp only[cxA,cxB];refine{_,Z9,t,_,_,_,Z9,Z9,SqT.of ht,Z9,U,Z9,{_,SqL.of V},kx (K:=K) (a:=U) (xs:=hv) (fun i σ G=>G=H/\(∃u,σ=[Z8 (.ref t),Z8 (.str W),u])/\j5 hs W=j5 (hs.drop i) W) {Z9,{_,Z9},by rw[yR]} ?_ ?_ ?_}
 ·rintro i σ G _ ⟨rfl,_⟩;exact SqL.of V
 ·rintro i x σ G hi ⟨rfl,⟨u,rfl⟩,e⟩;obtain⟨p,hp,t',I,rfl,Z,Y⟩:=oV O hi;have Z:=sm _ _ Z;have lt:i<hs.length:=(aC.mp hp).1;have hx:hs[i]=p:=(aC.mp hp).2;rw[Aj lt,hx]at e;obtain⟨pn,pd⟩:=p;refine{_,Z9,t',_,_,_,Z9,Z9,SqT.of Z,Z9,_,Z9,Z9,_,Z9,?_}
  by_cases c:pn=W
  ·subst c;refine mj (Di _) (iU ?_);refine{_,Z9,t',_,_,_,Z9,Z9,SqT.of Z,Z9,k1 I ?_};rw[e];unfold j5;rw[bS];exact Y
  ·refine mj (uJ c) (gz ?_);refine{Z9,{_,Z9},?_};rw[e];unfold j5;rw[cC,beq_eq_false_iff_ne.mpr (fun z=>c z.symm)]
 ·rintro σ G ⟨rfl,⟨u,rfl⟩,e⟩;have g:=aL O;rw[g,Lv]at e;exact{aW _,fun l Y=>k2 l Y e}
end
structure xq(bs qs:List Str)(ds:List Int)(hs:List (Str×Ds))(H:Hp)(m:V):Prop where
 ex:∃(t bl ql dl hl:ae) (nm:V) (vb hv:List V),m=.ref t/\H t=Z8 (.tup [nm,.ref bl,.ref ql,.ref dl,.ref hl])/\H bl=Z8 (.lst vb)/\aN (fun v (x:Str)=>∃a n,v=.ref a/\H a=Z8 (.tup [.str x,n])) vb bs/\H ql=Z8 (.lst (qs.map V.str))/\H dl=Z8 (.lst (ds.map V.int))/\H hl=Z8 (.lst hv)/\aN (Gq bs qs H) hv hs
theorem xq.same(s:bj H H')(h:xq bs qs ds hs H m):xq bs qs ds hs H' m:=by
 obtain⟨t,bl,Y,Z,I,nm,O,hv,e,h1,h2,W,M,D,J,U⟩:=h;exact⟨t,bl,Y,Z,I,nm,O,hv,e,s _ _ h1,s _ _ h2,Paired.mono (fun v x z=>by
  obtain⟨a,n,e,y⟩:=z;exact{a,n,e,s _ _ y}) W,s _ _ M,s _ _ D,s _ _ J,Paired.mono (fun _ _ z=>z.same s) U⟩
def wrB(bs:List Str)(w:Wk):List (Str×Int):=(bs.filter fun x=>decide (x∈w.wr)).map fun x=>(x,xm w.bx x)
def wrQ(qs:List Str)(w:Wk):List (Str×List Int):=(qs.filter fun x=>decide (x∈w.wr)).map fun x=>(x,kQ w.qu x)
def tX(G:Hp)(v:V)(p:Str×Int):Prop:=∃t,v=.ref t/\G t=Z8 (.tup [.str p.1,.int p.2])
def BB(G:Hp)(v:V)(p:Str×ae):Prop:=∃t,v=.ref t/\G t=Z8 (.tup [.str p.1,.ref p.2])
theorem tX.keep(k:∀a xs,G a=Z8 (.tup xs)->G' a=Z8 (.tup xs))(h:tX G v p):tX G' v p:=by
 obtain⟨t,e,h1⟩:=h;exact{t,e,k _ _ h1}
theorem BB.keep(k:∀a xs,G a=Z8 (.tup xs)->G' a=Z8 (.tup xs))(h:BB G v p):BB G' v p:=by
 obtain⟨t,e,h1⟩:=h;exact{t,e,k _ _ h1}
structure WrIn(bs qs:List Str)(w:Wk)(H G:Hp)(wl:ae)(ws1 ws2:List V)(qa:List (Str×ae)):Prop where
 hl:G wl=Z8 (.lst (ws1++ws2))
 b:aN (tX G) ws1 (wrB bs w)
 q:aN (BB G) ws2 qa
 l:gE G qa (wrQ qs w)
 nd:(wl::qa.map (·.2)).Nodup
 fr:∀a∈wl::qa.map (·.2),H a=Z7
theorem vn{xs:List Str}(h:xs[i]?=Z8 x):(xs.take (i+1)).filter p=(xs.take i).filter p++if p x=true then [x] else []:=by
 rw[cm,h,List.filter_append];show _++[x].filter p=_
 by_cases c:p x=true
 ·rw[if_pos c,List.filter_cons_of_pos c];rfl
 ·rw[if_neg c,List.filter_cons_of_neg c];rfl
theorem qQ(s:bj H G)(n:H a=Z7)(o:HO):bj H (upd G a o):=fun b u e=>by
 rw[aQ (aJ e n)];exact s _ _ e
theorem none_of(s:bj H G)(n:G a=Z7):H a=Z7:=by
 cases z:H a with
 |none=>rfl
 |some o=>
  rw[s _ _ z]at n
  cases n
section
variable{P:aI}{w:aY}{K:ag}{mg:Str->Option af}{base:cb}{f CD CS CM:ae}{fd:bY}{bs qs:List Str}
inductive OS(CD CS:ae)(bs qs:List Str)(vs:List V)(H:Hp)(Q:VK)(_e:XK):Prop where
 |mk(H0:Hp)(L:Lay)(h:Ev)(ds:List Int)(w:Wk)(hs:List (Str×Ds))(_:vs=[.ref L.d])(_:Dg CD CS bs qs H0 H L h ds w)(_:xq bs qs ds hs H0 L.m)(_:∀(G:Hp) (wl:ae) (ws1 ws2:List V) (qa:List (Str×ae)),bj H G->WrIn bs qs w H G wl ws1 ws2 qa->Q (.ref wl) G):OS CD CS bs qs vs H Q _e
def spWr(CD CS:ae)(bs qs:List Str):Sp:=fun vs H Q Z=>OS CD CS bs qs vs H Q Z
theorem M0:bM ["doing","writes","box","name"] ["doing"] (aR oa):=e7
theorem Gr(D:Df K mg "writes_of" oa ["doing"] f fd)(T:DT K mg CD)(TM:MdT K mg CM CS)(B:Bl mg):bN P w K mg base CX0 1 f fd ["doing"] (spWr CD CS bs qs):=by
 refine D.F.ok M0 #[3] (fun ce A outer s H vs Q E hr h=>?_)
 ·obtain⟨H0,L,h,ds,w,hs,rfl,_⟩:=h;rfl
 obtain⟨H0,L,h,ds,w,hs,rfl,g,⟨t,bl,ql,dl,hl,nm,vb,hv,em,ht,cn,pb,cs,hdl,cc,_⟩,k⟩:=h;have hu:=qD hr;refine⟨_,ar (pst 1 M0 (eO ao))
  (ar (iE cw rfl (hV (bR cv (cX (pv 0) rfl) aA)) (pgn 2 M0) (aF (cR (qq (CK hu (bR cv (pv 2) aA) (cX (pv 0) rfl)))
   (aF (eU (mO bV cD cE ip (pv 1) (av (dX (av (bR cv (pv 2) aA) (av (tJ hu (cX (cX (pv 0) rfl) rfl) (bR cv (pv 2) aA)) ao))) ao)))) b9)))
  (ar (iE cw rfl (hV (bR cv (cX (pv 0) rfl) aA)) (pgn 3 M0) (aF (cR (qq (CK hu (pv 3) (cX (pv 0) rfl)))
   (aF (eU (mO bV cD cE ip (pv 1) (av (dX (av (pv 3) (av (iQ tH #[7] B.list boot_list (av (tJ hu (cX (cX (pv 0) rfl) rfl) (pv 3)) ao)) ao))) ao)))) b9)))
  (aF (bQ (pv 1))))),?_⟩
 dsimp only[cxA,cxB];have big:=eJ;have fw:=g.ok.fw;rw[au]at fw;refine{aW _,fun O db=>?_};have s0:=aG db (.lst []);have cr:∀{G:Hp} (g:Dg CD CS bs qs H0 G L h ds w) (x:Str),sL G L.wd (.str x) (if x∈w.wr then Z8 (.bl true) else Z7):=fun {G} g x=>by
  have z:=sL.k (k:=Sum.inr x) g.hw;rw[EK]at z;exact z
 refine{_,Z9,L.d,CD,L.dx,_,_,Z9,s0 _ _ g.hd,T.cl,T.nM,QD _ _ _ _ _ _ _ _,t,_,_,_,em,Z9,SqT.of (s0 _ _ (g.sm _ _ ht)),Z9,bl,Z9,{_,SqL.of (s0 _ _ (g.sm _ _ cn))},?_};refine kx (K:=K) (a:=bl) (xs:=vb) (fun i σ G=>∃(u:Option V) (ws:List V),σ=[Z8 (.ref L.d),Z8 (.ref O),u,Z7]/\bj H G/\G O=Z8 (.lst ws)/\aN (tX G) ws (((bs.take i).filter fun x=>decide (x∈w.wr)).map fun x=>(x,xm w.bx x))) {Z7,[],Z9,s0,ak,by rw[jW];exact .nil} ?_ ?_ ?_
 ·rintro i σ G _ ⟨_,_,rfl,sm,_⟩;exact SqL.of (sm _ _ (g.sm _ _ cn))
 ·rintro i x σ G hi ⟨u,ws,rfl,sm,U,M⟩;have Y:=g.same sm;obtain⟨y,hy,a,n,rfl,ha⟩:=oV pb hi;have ha:=Y.sm _ _ ha;have my:y∈bs:=bC hy;have ft:=vn (p:=fun x=>decide (x∈w.wr)) hy;refine{_,Z9,a,_,_,_,Z9,Z9,SqT.of ha,Z9,_,Z9,L.d,CD,L.dx,_,_,Z9,Y.hd,T.cl,T.nW,Gj _ _ _ _ _ _ _ _,L.wd,_,Z9,cr Y y,_,Z9,?_}
  by_cases c:y∈w.wr
  ·rw[if_pos c];rw[if_pos (decide_eq_true c)]at ft;refine iU ?_;refine{_,Z9,.inl {Z9,_,SqL.of U},_,Z9,a,_,_,_,Z9,Z9,SqT.of ha,Z9,_,Z9,L.d,CD,L.dx,_,_,Z9,Y.hd,T.cl,T.nS,vG _ _ _ _ _ _ _ _,L.st,CS,L.dxs,_,_,Z9,Y.hst,TM.clS,TM.nB,MI _ _ _ _,_,Z9,a,_,_,_,Z9,Z9,SqT.of ha,Z9,L.bd,_,Z9,(by have z:=sL.k (k:=Sum.inr y) Y.hb;rw[JC (by rw[Y.ok.kb];exact my)]at z;exact z),lt2,fun J cx=>?_};have Z:=aG cx (.tup [.str y,.int (xm w.bx y)]);have lw:=aL M;have lf:(((bs.take i).filter fun x=>decide (x∈w.wr)).map fun x=>(x,xm w.bx x)).length<=bs.length:=by
    rw[ah];refine cZ (jB _ _) ?_;rw[bD];omega
   refine{O,ws,_,Z9,Z9,Z _ _ U,#[2],_,_,Z9,qQ (sm.trans Z) db _,ak,?_};rw[ft,bA];have kp:∀b xs,upd G J (.tup [.str y,.int (xm w.bx y)]) b=Z8 (.tup xs)->upd (upd G J (.tup [.str y,.int (xm w.bx y)])) O (.lst (ws++[.ref J])) b=Z8 (.tup xs):=fun b xs z=>bh z (kg z (Z _ _ U) (by intro q;cases q));exact dy (Paired.mono (fun _ _ z=>(z.keep fun b xs e=>Z _ _ e).keep kp) M) {J,Z9,kp _ _ ak}
  ·rw[if_neg c];rw[if_neg (by rw[decide_eq_false c];decide),cO]at ft;refine gz {_,ws,Z9,sm,U,?_};rw[ft];exact M
 rintro σ G ⟨u,da,rfl,sm,U,M⟩;have Y:=g.same sm;have ci:vb.length=bs.length:=aL pb;rw[ci,cu]at M;refine{_,Z9,L.d,CD,L.dx,_,_,Z9,Y.hd,T.cl,T.nM,QD _ _ _ _ _ _ _ _,t,_,_,_,em,Z9,SqT.of (Y.sm _ _ ht),Z9,ql,Z9,{_,SqL.of (Y.sm _ _ cs)},?_};refine kx (K:=K) (a:=ql) (xs:=qs.map V.str) (fun i σ G=>∃(u v:Option V) (W:List V) (I:List (Str×ae)),σ=[Z8 (.ref L.d),Z8 (.ref O),u,v]/\bj H G/\G O=Z8 (.lst (da++W))/\aN (tX G) da (wrB bs w)/\aN (BB G) W I /\
  gE G I (((qs.take i).filter fun x=>decide (x∈w.wr)).map fun x=>(x,kQ w.qu x))/\(O::I.map (·.2)).Nodup/\∀a∈O::I.map (·.2),H a=Z7) {_,_,[],[],Z9,sm,by rw[cO];exact U,M,.nil,by rw[jW];exact .nil,by simp,fun a ha=>by rw[aK.mp ha];exact db} ?_ ?_ ?_
 ·rintro i σ G _ ⟨_,_,_,_,rfl,sm,_⟩;exact SqL.of (sm _ _ (g.sm _ _ cs))
 ·rintro i x σ G hi ⟨u,v,W,I,rfl,sm,U,M,pq,pl,nd,fr⟩;have Y:=g.same sm;obtain⟨y,hy,rfl⟩:∃y,qs[i]?=Z8 y/\x=.str y:=by
   rw[bT]at hi
   cases z:qs[i]? with
   |none=>
    rw[z]at hi
    cases hi
   |some y=>
    rw[z]at hi
    cases hi;exact⟨y,Z9,Z9⟩
  have my:y∈qs:=bC hy;have ft:=vn (p:=fun x=>decide (x∈w.wr)) hy;refine{_,Z9,_,Z9,L.d,CD,L.dx,_,_,Z9,Y.hd,T.cl,T.nW,Gj _ _ _ _ _ _ _ _,L.wd,_,Z9,cr Y y,_,Z9,?_}
  by_cases c:y∈w.wr
  ·rw[if_pos c];rw[if_pos (decide_eq_true c)]at ft;refine iU ?_;obtain⟨l,h1,h2,h3⟩:=Y.getL my;refine{_,Z9,.inl {Z9,_,SqL.of U},_,Z9,_,Z9,L.d,CD,L.dx,_,_,Z9,Y.hd,T.cl,T.nS,vG _ _ _ _ _ _ _ _,L.st,CS,L.dxs,_,_,Z9,Y.hst,TM.clS,TM.nQ,MJ _ _ _ _,_,Z9,L.qd,_,Z9,h3,l,_,Z9,.inl (SqL.of h2),fun nl dc=>?_};have sn:=aG dc (.lst ((kQ w.qu y).map V.int));refine{lt2,fun J cx=>?_};have Z:=aG cx (.tup [.str y,.ref nl]);have lw:=aL pq;have lb:=aL M;have lq:=aL pl;have lf:(((qs.take i).filter fun x=>decide (x∈w.wr)).map fun x=>(x,kQ w.qu x)).length<=qs.length:=by
    rw[ah];refine cZ (jB _ _) ?_;rw[bD];omega
   have cd:(wrB bs w).length<=bs.length:=by
    unfold wrB;rw[ah];exact jB _ _
   have cp:=Z _ _ (sn _ _ U);have ck:nl≠O:=(aJ U dc).symm;have kp:∀b xs,upd (upd G nl (.lst ((kQ w.qu y).map V.int))) J (.tup [.str y,.ref nl]) b=Z8 (.tup xs)->upd (upd (upd G nl (.lst ((kQ w.qu y).map V.int))) J (.tup [.str y,.ref nl])) O (.lst (da++W++[.ref J])) b=Z8 (.tup xs):=fun b xs z=>bh z (kg z cp (by intro q;cases q));refine{O,_,_,Z9,Z9,cp,(by rw[au];omega),_,_,W++[.ref J],I++[(y,nl)],Z9,qQ ((sm.trans sn).trans Z) db _,(by rw[<- jM];exact ak),?_,?_,?_,?_,?_}
   ·exact Paired.mono (fun _ _ z=>(z.keep fun b xs e=>Z _ _ (sn _ _ e)).keep kp) M
   ·exact dy (Paired.mono (fun _ _ z=>(z.keep fun b xs e=>Z _ _ (sn _ _ e)).keep kp) pq) {J,Z9,kp _ _ ak}
   ·rw[ft,bA];refine dy (gE.keep (L:={0,0,0,0,0,0,0,0,0,0,.non,.non,I}) (fun a u e m=>bh (Z _ _ (sn _ _ e)) fun z=>?_) (fun _ h=>h) pl) {Z9,bh (Z _ _ ak) ck};rw[z]at m;exact (cH.mp nd).1 m
   ·rw[bA,<- vR];refine gI.mpr {nd,by simp,fun a ha b hb=>?_};rw[aK.mp hb];intro z
    rcases aq.mp ha with q|q
    ·exact ck ((show a=nl from z).symm.trans q)
    ·obtain⟨xs,q⟩:=pl.there q;rw[show a=nl from z,dc]at q
     cases q
   ·intro a ha;rw[bA,<- vR]at ha
    rcases cj.mp ha with z|z
    ·exact fr a z
    ·rw[aK.mp z];exact none_of sm dc
  ·rw[if_neg c];rw[if_neg (by rw[decide_eq_false c];decide),cO]at ft;refine gz {_,_,W,I,Z9,sm,U,M,pq,?_,nd,fr};rw[ft];exact pl
 rintro σ G ⟨u,v,W,I,rfl,sm,U,M,pq,pl,nd,fr⟩;rw[ah,cu]at pl;exact{_,Z9,k G O da W I sm ⟨U,M,pq,pl,nd,fr⟩}
end
structure JR(CD CS:ae)(bs qs:List Str)(H G:Hp)(L:Lay)(h:Ev)(ds:List Int)(w:Wk)(t rc wl:ae)(ws1 ws2:List V)(qa:List (Str×ae)):Prop where
 dg:∃H0,bj H H0/\Dg CD CS bs qs H0 G L h ds w
 ht:G t=Z8 (.tup [.ref L.st,.ref rc,.bl w.en])
 hrc:∃k,G rc=Z8 (.tup [.ref k,.int h.to,.str h.sg,.int h.a,.int h.b,.ref wl,.ref L.od])/\H k=Z8 (.tup [.int h.t,.int h.r,.int h.fr,.int h.c])
 wr:WrIn bs qs w H G wl ws1 ws2 qa
 nd:(L.all++wl::qa.map (·.2)).Nodup
theorem JR.sm(n:JR CD CS bs qs H G L h ds w t W O Y Z U):bj H G:=by
 obtain⟨H0,s,g⟩:=n.dg;exact s.trans g.sm
def w0(bx:List (Str×Int))(qu:List (Str×List Int))(dr:Nat)(se:Int):Wk:={bx,qu,dr,se,[],[],false,[],[]}
section
variable{P:aI}{w:aY}{K:ag}{mg:Str->Option af}{base:cb}{f fI fS fB fW fO CD CS CM:ae}{fd fdI fdS fdB fdW fdO:bY}{bs qs:List Str}{cf:Flt->ae}
inductive EX(cf:Flt->ae)(CM CD CS:ae)(bs qs:List Str)(n:Nat)(vs:List V)(H:Hp)(Q:VK)(E:XK):Prop where
 |mk(m dxm ml st:ae)(fs:List (Str×V))(ms:List V)(hv mv:V)(h:Ev)(ds:List Int)(hs:List (Str×Ds))(bx:List (Str×Int))(qu:List (Str×List Int))(dr:Nat)(se:Int)(_:vs=[.ref m,.ref st,hv])(_:H m=Z8 (.ins CM dxm fs))(_:fs.lookup ("machines":Str)=Z8 (.ref ml))(_:H ml=Z8 (.lst ms))(_:iW H hv h)(_:atI ms h.to=Z8 mv)(_:xq bs qs ds hs H mv)(_:jT CS H st bx qu dr se)(_:qO bs qs (w0 bx qu dr se))(_:Wo h.t)(_:Wo h.a)(_:Wo h.b)(_:(j5 hs h.sg).deep<n)(_:(j5 hs h.sg).size<100000) (_:match doS h ds (j5 hs h.sg) (w0 bx qu dr se) with
 |.ok w'=>∀(G:Hp) (L:Lay) (t rc wl:ae) (ws1 ws2:List V) (qa:List (Str×ae)),JR CD CS bs qs H G L h ds w' t rc wl ws1 ws2 qa->Q (.ref t) G
 |.error e=>∀G,bj H G->E (.ref (cf e)) Z7 G):EX cf CM CD CS bs qs n vs H Q E
def JS(cf:Flt->ae)(CM CD CS:ae)(bs qs:List Str)(n:Nat):Sp:=fun vs H Q E=>EX cf CM CD CS bs qs n vs H Q E
theorem by_go{w:Wk}(g:Dg CD CS bs qs H G L h ds w)(W:H I=Z8 (.tup [x0,x1,x2,x3,.ref J]))(M:H J=Z8 (.lst Y))(ph:aN (Gq bs qs H) Y hs)
  (k:∀(H0 U:Hp) (u:V),bj H H0->bj G U->Dg CD CS bs qs H0 U L h ds w->oj H0 (fJ bs qs H0 (j5 hs O)) u->D u U):QN bs qs [.ref I,.str O] G D E:=by
 refine{H,I,J,_,_,_,_,Y,hs,O,Z9,g.sm,W,M,ph,fun u hu=>k H G u (bj.refl _) (bj.refl _) g hu,fun l Z e=>?_};have sl:=aG Z (.lst []);have nl:=none_of g.sm Z;have t:=aG nl (.lst []);have s1:bj (upd H l (.lst [])) (upd G l (.lst [])):=fun b o z=>by
  by_cases c:b=l
  ·rw[c]at z |-;rw[ak]at z |-;exact z
  ·rw[aQ c]at z |-;exact g.sm _ _ z
 refine k _ _ _ t sl (g.base sl t s1 fun a ha=>?_) {l,[],Z9,ak,by show 0<1000;decide,?_}
 ·obtain⟨o,z⟩:=g.there a ha;rw[aQ (aJ z Z)];exact g.fr a ha
 ·rw[e];simp only[fJ]
inductive JT(cf:Flt->ae)(CM CD CS:ae)(bs qs:List Str)(n:Nat)(vs:List V)(H:Hp)(Q:VK)(E:XK):Prop where
 |mk(m dxm ml st:ae)(fs:List (Str×V))(ms:List V)(hv mv:V)(h:Ev)(ds:List Int)(hs:List (Str×Ds))(bx:List (Str×Int))(qu:List (Str×List Int))(dr:Nat)(se:Int)(_:vs=[.ref m,.ref st,hv])(_:H m=Z8 (.ins CM dxm fs))(_:fs.lookup ("machines":Str)=Z8 (.ref ml))(_:H ml=Z8 (.lst ms))(_:iW H hv h)(_:atI ms h.to=Z8 mv)(_:xq bs qs ds hs H mv)(_:jT CS H st bx qu dr se)(_:qO bs qs (w0 bx qu dr se))(_:Wo h.t)(_:Wo h.a)(_:Wo h.b)(_:(j5 hs h.sg).deep<n)(_:(j5 hs h.sg).size<100000) (_:match doS h ds (j5 hs h.sg) (w0 bx qu dr se) with
 |.ok w'=>∀(H0 G:Hp) (L:Lay),bj H H0->Dg CD CS bs qs H0 G L h ds w'->L.m=mv->Q (.ref L.d) G
 |.error e=>∀G,bj H G->E (.ref (cf e)) Z7 G):JT cf CM CD CS bs qs n vs H Q E
def JU(cf:Flt->ae)(CM CD CS:ae)(bs qs:List Str)(n:Nat):Sp:=fun vs H Q E=>JT cf CM CD CS bs qs n vs H Q E
theorem QO:bM ["model","state","happening","machine","doing"] ["model","state","happening"] (aR mU):=e7
theorem Dq(D:Df K mg "doing_of" mU ["model","state","happening"] f fd)(MD:Mk K CD fI)(bI:Binds K fdI ["self","machine","state","happening"] [])(GI:bN P w K mg base CX0 4 fI fdI ["self","machine","state","happening"] (QM CD CS bs qs))
  (DS:Df K mg "do_deeds" jI ["doing","deeds"] fS fdS) (GS:bN P w K mg base (CXo P w) (20+3*n) fS fdS ["doing","deeds"] (xo cf CD CS bs qs n)) (DB:Df K mg "deeds_by_sign" jc ["machine","sign"] fB fdB) (T:DT K mg CD) (TM:MdT K mg CM CS) :
  bN P w K mg base (CXo P w) (20+3*n+1) f fd ["model","state","happening"] (JU cf CM CD CS bs qs n):=by
 have GB:bN P w K mg base CX0 1 fB fdB ["machine","sign"] (QN bs qs):=ok_by DB;refine D.F.okX QO #[3] (fun dz A outer s H vs Q E hr h=>?_)
 ·obtain⟨m,O,ml,st,fs,ms,hv,mv,h,ds,hs,bx,qu,dr,se,rfl,_⟩:=h;rfl
 obtain⟨m,O,ml,st,fs,ms,hv,mv,h,ds,hs,bx,qu,dr,se,rfl,hm,I,dL,hE,eb,hM,hS,ok,wt,wa,wb,dn,sz,p⟩:=h;have r1:dJ 1 _:=hr.mono #[2];have r5:dJ 5 _:=hr.mono #[2];refine⟨_,ar (pst 3 QO (bR dD (cX (pv 0) rfl) (bR cv (pv 2) aA)))
  (ar (pst 4 QO (q8 MD GI r5 #[7] T.mD bI .nil jV (av (pv 3) (av (pv 1) (av (pv 2) ao)))))
  (ar (eU (gO GS hr #[7] DS.m DS.F.kp DS.b .nil (eC.passes fun _ _ _ z=>z) (av (pv 4) (av (pcl GB r1 DB (av (pv 3) (av (bR cv (pv 2) aA) ao))) ao))))
  (aF (bQ (pv 4))))),?_⟩
 dsimp only[cxA,cxB];obtain⟨th,kh,rfl,Y,dw⟩:=id hE;obtain⟨tm,bl,ql,dl,hl,nm,vb,du,rfl,V,dt,pb,dG,hdl,dV,ph⟩:=hM.ex;refine{_,Z9,m,CM,O,_,_,Z9,hm,TM.clM,TM.nM,I,_,Z9,th,_,_,_,Z9,Z9,SqT.of Y,Z9,ml,_,_,_,Z9,Z9,SqL.of dL,eb,?_};refine{_,Z9,_,Z9,_,Z9,?_};intro d dx W t dq;have sA:bj H (upd (upd H dx (.own d)) d (.ins CD dx [])):=fun b o e=>by
  rw[aQ (aJ e W),aQ (aJ e t)];exact e
 refine{H,d,dx,st,.ref tm,.ref th,h,ds,bx,qu,dr,se,Z9,ak,W,sA,hS,hE,{tm,_,_,_,_,dl,Z9,V,hdl},ok,wt,wa,wb,fun G L eL em g=>{Z9,?_}};have M:=g.sm _ _ Y;refine{_,Z9,_,Z9,_,Z9,th,_,_,_,Z9,Z9,SqT.of M,Z9,?_};subst eL;refine by_go (E:=E0) g V dV ph fun H0 G1 u s0 s1 g1 hu=>?_;refine{H0,L,h,ds,w0 bx qu dr se,u,j5 hs h.sg,Z9,g1,hu,dn,(by show 0+_<_;omega),?_};have ea:∀{J:Wk->Hp->Prop} {r:Except Flt Wk} {Q1:VK} {k:Nat},r=doS h ds (j5 hs h.sg) (w0 bx qu dr se)->(∀U Z,r=.ok U->J U Z->Q1 .non Z)->uK cf J H0 k r Q1 E:=fun {J r Q1 k} e q=>by
  cases r with
  |ok U=>exact fun Z g2 _=>q U Z rfl g2
  |error er=>
   rw[<- e]at p;exact fun Z s2=>p Z (s0.trans s2)
 refine ea rfl fun U Z ew g2=>?_;rw[ew]at p;exact{_,Z9,p H0 Z L s0 g2 em}
theorem QP:bM ["model","state","happening","doing","record"] ["model","state","happening"] (aR z9):=e7
theorem M3(D:Df K mg "done" z9 ["model","state","happening"] f fd)(O:Df K mg "doing_of" mU ["model","state","happening"] fO fdO)(MD:Mk K CD fI)(bI:Binds K fdI ["self","machine","state","happening"] [])(GI:bN P w K mg base CX0 4 fI fdI ["self","machine","state","happening"] (QM CD CS bs qs))
  (DS:Df K mg "do_deeds" jI ["doing","deeds"] fS fdS) (GS:bN P w K mg base (CXo P w) (20+3*n) fS fdS ["doing","deeds"] (xo cf CD CS bs qs n)) (DB:Df K mg "deeds_by_sign" jc ["machine","sign"] fB fdB) (DW:Df K mg "writes_of" oa ["doing"] fW fdW) (T:DT K mg CD) (TM:MdT K mg CM CS) (B:Bl mg) :
  bN P w K mg base (CXo P w) (20+3*n+2) f fd ["model","state","happening"] (JS cf CM CD CS bs qs n):=by
 have GO:bN P w K mg base (CXo P w) (20+3*n+1) fO fdO ["model","state","happening"] (JU cf CM CD CS bs qs n):=Dq O MD bI GI DS GS DB T TM;have GW:bN P w K mg base CX0 1 fW fdW ["doing"] (spWr CD CS bs qs):=Gr DW T TM B;refine D.F.okX QP #[3] (fun dj A outer s H vs Q E hr h=>?_)
 ·obtain⟨m,V,ml,st,fs,ms,hv,mv,h,ds,hs,bx,qu,dr,se,rfl,_⟩:=h;rfl
 obtain⟨m,V,ml,st,fs,ms,hv,mv,h,ds,hs,bx,qu,dr,se,rfl,hm,M,dp,hE,dt,hM,hS,ok,wt,wa,wb,dn,sz,p⟩:=h;have r1:dJ 1 _:=hr.mono #[2];refine⟨_,ar (pst 3 QP (gO GO hr #[7] O.m O.F.kp O.b .nil (eC.passes fun _ _ _ z=>z) (av (pv 0) (av (pv 1) (av (pv 2) ao)))))
  (ar (pst 4 QP (cM Et (pv 2) (dX (av (pcl GW r1 DW (av (pv 3) ao)) (av (cX (pv 3) rfl) ao)))))
  (aF (bQ (dX (av (cX (pv 3) rfl) (av (pv 4) (av (cX (pv 3) rfl) ao))))))),?_⟩
 dsimp only[cxA,cxB];obtain⟨th,kh,rfl,J,g⟩:=id hE;refine{_,Z9,_,Z9,_,Z9,m,V,ml,st,fs,ms,_,mv,h,ds,hs,bx,qu,dr,se,Z9,hm,M,dp,hE,dt,hM,hS,ok,wt,wa,wb,dn,sz,?_}
 cases ew:doS h ds (j5 hs h.sg) (w0 bx qu dr se) with
 |error e=>
  rw[ew]at p;exact p
 |ok w'=>
 rw[ew]at p;intro H0 G2 L U Y em;have W:=Y.sm _ _ (U _ _ J);have gM:xq bs qs ds hs H0 L.m:=by
  rw[em];exact hM.same U
 refine{_,Z9,_,Z9,H0,L,h,ds,w',hs,Z9,Y,gM,fun G3 wl dk du qa s3 wr=>?_};have g3:=Y.same s3;refine{_,Z9,L.d,CD,L.dx,_,_,Z9,g3.hd,T.cl,T.nO,QE _ _ _ _ _ _ _ _,lt2,fun tt dq=>?_};have s4:=aG dq (.tup [.ref wl,.ref L.od]);refine{th,tt,_,_,Z9,Z9,SqT.of (s4 _ _ (s3 _ _ W)),SqT.of ak,(by intro z;cases z),(by show 7<=aD;decide),(fun z=>by cases z),fun _ rc dl=>?_};have s5:=aG dl (.tup [.ref kh,.int h.to,.str h.sg,.int h.a,.int h.b,.ref wl,.ref L.od]);have I:=(g3.same s4).same s5;refine{_,Z9,L.d,CD,L.dx,_,_,Z9,I.hd,T.cl,T.nS,vG _ _ _ _ _ _ _ _,_,Z9,_,Z9,L.d,CD,L.dx,_,_,Z9,I.hd,T.cl,T.nE,dF_e _ _ _ _ _ _ _ _,(by show 3<=aD;decide),fun t ht=>?_};have s6:=aG ht (.tup [.ref L.st,.ref rc,.bl w'.en]);have Z:=(s4.trans s5).trans s6;refine p _ L t rc wl dk du qa {{H0,U,I.same s6},ak,{kh,s6 _ _ ak,g},{Z _ _ wr.hl,Paired.mono (fun _ _ z=>z.keep fun b xs e=>Z _ _ e) wr.b,Paired.mono (fun _ _ z=>z.keep fun b xs e=>Z _ _ e) wr.q,wr.l.same Z,wr.nd,fun a ha=>none_of (U.trans Y.sm) (wr.fr a ha)},?_};refine gI.mpr {Y.nd,wr.nd,fun a ha b hb z=>?_};obtain⟨o,y⟩:=Y.there a ha;rw[z,wr.fr b hb]at y
 cases y
end
theorem cJ(h:t {D with nx:=u D} σ H):LD t u D σ H:=h
theorem jX(h:∀R:St->Hp->Prop,(∀Z H',u D Z H'->R Z H')->t {D with nx:=R} σ H):LD t u D σ H:=h _ fun _ _ z=>z
theorem rm{g:TG}{tb:TS}{D:lD}(Z:Nat->St->Hp->Prop)(h0:Z 0 σ H)(J:∀i σ H,i<=xs.length->Z i σ H->SqL K H a xs)
  (hs:∀(N:Nat->St->Hp->Prop) (B:St->Hp->Prop),(∀i σ H,Z i σ H->N i σ H)->∀i x σ H,xs[i]?=Z8 x->Z i σ H->g x σ H fun Y H2=>tb {D with nx:=N (i+1),ct:=N (i+1),bk:=B} Y H2) (M:∀σ H,Z xs.length σ H->D.nx σ H) :
  ∃W:Nat->Nat->St->Hp->Prop,(∃m,W 0 m σ H)/\∀i m σ H,W i m σ H ->
   ((Itl K a).stop i H/\D.nx σ H)\/((Itl K a).go i H/\∃N:St->Hp->Prop,(∀U H',N U H'->∃O,O<m/\W (i+1) O U H')/\∀x H',(Itl K a).yld i H x H'->g x σ H' fun Y H2=>tb {D with nx:=N,ct:=N,bk:=D.nx} Y H2):=kx Z h0 J (hs Z D.nx fun _ _ _ z=>z) M
theorem xr{g:TG}{tb:TS}{D:lD}(Y:Nat->St->Hp->Prop)(h0:Y 0 σ H)
  (hs:∀(N:Nat->St->Hp->Prop) (B:St->Hp->Prop),(∀i σ H,Y i σ H->N i σ H)->∀i σ H,i<n->Y i σ H->g (.int (lo+i)) σ H fun Z H2=>tb {D with nx:=N (i+1),ct:=N (i+1),bk:=B} Z H2) (O:∀σ H,Y n σ H->D.nx σ H) :
  ∃W:Nat->Nat->St->Hp->Prop,(∃m,W 0 m σ H)/\∀i m σ H,W i m σ H ->
   ((Itr lo n).stop i H/\D.nx σ H)\/((Itr lo n).go i H/\∃N:St->Hp->Prop,(∀V H',N V H'->∃U,U<m/\W (i+1) U V H')/\∀x H',(Itr lo n).yld i H x H'->g x σ H' fun Z H2=>tb {D with nx:=N,ct:=N,bk:=D.nx} Z H2):=qZ Y h0 (hs Y D.nx fun _ _ _ z=>z) O
theorem cV(h:te σ H fun x H1=>g x σ H1 D.nx):HL te g D σ H:=h
theorem bU(h:Q (σ.set i (Z8 v)) H):wQ i v σ H Q:=h
theorem gk{R u:St->Hp->Prop}(k:∀Z H',u Z H'->R Z H')(h:u (σ.set i (Z8 v)) H):wQ i v σ H R:=k _ _ h
theorem Dt (h:t σ H fun vs H1=>∀x dx,H1 x=Z7->H1 dx=Z7->dx≠x ->
  sp (.ref x::(vs++dvs)) (upd (upd H1 dx (.own x)) x (.ins C dx [])) (fun v H2=>v=.non/\Q (.ref x) H2) E):Os C sp dvs E t σ H Q:=h
section
variable{X:Cx}{e:cK}{ta:TE}{f:Str}{pos:Pos}
theorem iC(K:ag)(Y:X.K=K)(Z:PE X e ta)(hb:nr e f X.env (fY e X.env)=fY e X.env):PE X (.Attribute e f pos) (P5 K ta f):=by
 rw[<- Y];exact cX Z hb
end
theorem EY(ht:H t=Z8 (.tup xs)\/H t=Z8 (.lst xs))(T:Tree H n (.ref t)):∃m,n=m+1/\∀x∈xs,Tree H m x:=by
 cases n with
 |zero=>exact T.elim
 |succ m=>
  refine{m,Z9,?_}
  rcases T with T|⟨p,ys,e,h1,_,h2⟩
  ·exact T.elim
  ·cases e;have Z:xs=ys:=by
    rcases ht with ht|ht<;>rcases h1 with h1|h1<;>rw[ht]at h1<;>cases h1<;>rfl
   rw[Z];exact h2
theorem j0(ht:H t=Z8 (.tup xs))(T:Tree H n (.ref t))(Y:Alike H H' n (.ref t) Z):∃m t' ys,Z=.ref t'/\H' t'=Z8 (.tup ys)/\aN (Alike H H' m) xs ys/\∀x∈xs,Tree H m x:=by
 obtain⟨m,rfl,h⟩:=EY (.inl ht) T;obtain⟨t',ys,e,h1,h2⟩:=uG ht Y;exact⟨m,t',ys,e,h1,h2,h⟩
theorem xt(ht:H t=Z8 (.lst xs))(T:Tree H n (.ref t))(Y:Alike H H' n (.ref t) Z):∃m t' ys,Z=.ref t'/\H' t'=Z8 (.lst ys)/\aN (Alike H H' m) xs ys/\∀x∈xs,Tree H m x:=by
 obtain⟨m,rfl,h⟩:=EY (.inr ht) T;obtain⟨t',ys,e,h1,h2⟩:=rh ht Y;exact⟨m,t',ys,e,h1,h2,h⟩
theorem dN{xs ys:List V}(r:aN R (x::xs) ys):∃y Z,ys=y::Z/\R x y/\aN R xs Z:=by
 cases r with
 |cons a b=>exact{_,_,Z9,a,b}
theorem oW{R:V->V->Prop}(r:aN R [] ys):ys=[]:=by
 cases r;rfl
theorem kf.alike(h:kf bs qs H v F):∀{n:Nat} {U:V},Tree H n v->Alike H H' n v U->kf bs qs H' U F:=by
 induction h with
 |num h1 h2=>
  intro n U T W;obtain⟨m,t',ys,rfl,Z,Y,_⟩:=j0 h1 T W;rw[jS Y (by intro x hx;simp only[aq,aV,or_false]at hx;rcases hx with rfl|rfl<;>exact trivial)]at Z;exact .num Z h2
 |box h1 h2=>
  intro n U T W;obtain⟨m,t',ys,rfl,Z,Y,_⟩:=j0 h1 T W;rw[jS Y (by intro x hx;simp only[aq,aV,or_false]at hx;rcases hx with rfl|rfl<;>exact trivial)]at Z;exact .box Z h2
 |long h1 h2=>
  intro n U T W;obtain⟨m,t',ys,rfl,Z,Y,_⟩:=j0 h1 T W;rw[jS Y (by intro x hx;simp only[aq,aV,or_false]at hx;rcases hx with rfl|rfl<;>exact trivial)]at Z;exact .long Z h2
 |got h1=>
  intro n U T W;obtain⟨m,t',ys,rfl,Z,Y,_⟩:=j0 h1 T W;rw[jS Y (by intro x hx;simp only[aq,aV,or_false]at hx;rcases hx with rfl|rfl<;>exact trivial)]at Z;exact .got Z
 |now h1=>
  intro n U T W;obtain⟨m,t',ys,rfl,Z,Y,_⟩:=j0 h1 T W;rw[jS Y (by intro x hx;rw[aK.mp hx];exact trivial)]at Z;exact .now Z
 |two h1 h2 _ _ D M=>
  intro n U T W;obtain⟨m,t',ys,rfl,Z,Y,tr⟩:=j0 h1 T W;obtain⟨t,O,rfl,J,Y⟩:=dN Y;obtain⟨g,O,rfl,a1,Y⟩:=dN Y;obtain⟨z,O,rfl,a2,Y⟩:=dN Y;obtain rfl:=oW Y;have I:=fH (v:=.str _) trivial J;rw[I]at Z;exact .two Z h2 (D (tr _ #[5]) a1) (M (tr _ #[5]) a2)
theorem FmI.alike(h:FmI bs qs H v F)(T:Tree H n v)(Y:Alike H H' n v Z):FmI bs qs H' Z F:={h.1.alike T Y,h.2}
theorem oj.alike(h:oj H R v)(T:Tree H n v)(M:Alike H H' n v Y)(k:∀m vs ys,R vs->aN (Alike H H' m) vs ys->(∀x∈vs,Tree H m x)->Z ys):oj H' Z Y:=by
 obtain⟨l,vs,rfl,h1,h2,U⟩:=h;obtain⟨m,t',ys,rfl,O,W,tr⟩:=xt h1 T M;exact{t',ys,Z9,O,by rw[<- aL W];exact h2,k m vs ys U W tr}
mutual
theorem eT.alike{bs qs:List Str}{H H':Hp}:∀(d:Dd) (v I:V) (n:Nat),eT bs qs H d v->Tree H n v->Alike H H' n v I->eT bs qs H' d I
 |.put x f,v,I,n,h,T,O=>by
  obtain⟨t,u,rfl,h1,h2,M⟩:=(by simpa only[eT] using h);obtain⟨m,t',ys,rfl,W,Z,tr⟩:=j0 h1 T O;obtain⟨D,Y,rfl,U,Z⟩:=dN Z;obtain⟨z,Y,rfl,a1,Z⟩:=dN Z;obtain⟨J,Y,rfl,a2,Z⟩:=dN Z;obtain rfl:=oW Z;rw[fH (v:=.str _) trivial U,fH (v:=.str _) trivial a1]at W;simp only[eT];exact{t',J,Z9,W,h2,M.alike (tr _ #[5]) a2}
 |.push x f,v,I,n,h,T,O=>by
  obtain⟨t,u,rfl,h1,h2,M⟩:=(by simpa only[eT] using h);obtain⟨m,t',ys,rfl,W,Z,tr⟩:=j0 h1 T O;obtain⟨D,Y,rfl,U,Z⟩:=dN Z;obtain⟨z,Y,rfl,a1,Z⟩:=dN Z;obtain⟨J,Y,rfl,a2,Z⟩:=dN Z;obtain rfl:=oW Z;rw[fH (v:=.str _) trivial U,fH (v:=.str _) trivial a1]at W;simp only[eT];exact{t',J,Z9,W,h2,M.alike (tr _ #[5]) a2}
 |.pull q x o,v,I,n,h,T,O=>by
  obtain⟨t,u,rfl,h1,h2,M,g⟩:=(by simpa only[eT] using h);obtain⟨m,t',ys,rfl,W,Z,tr⟩:=j0 h1 T O;obtain⟨D,Y,rfl,U,Z⟩:=dN Z;obtain⟨z,Y,rfl,a1,Z⟩:=dN Z;obtain⟨J,Y,rfl,a2,Z⟩:=dN Z;obtain⟨y3,Y,rfl,a3,Z⟩:=dN Z;obtain rfl:=oW Z;rw[fH (v:=.str _) trivial U,fH (v:=.str _) trivial a1,fH (v:=.str _) trivial a2]at W;simp only[eT];exact{t',y3,Z9,W,h2,M,g.alike (tr _ #[5]) a3 fun m vs ys a b c=>fJ.alike o vs ys m a b c}
 |.draw x f,v,I,n,h,T,O=>by
  obtain⟨t,u,rfl,h1,h2,M⟩:=(by simpa only[eT] using h);obtain⟨m,t',ys,rfl,W,Z,tr⟩:=j0 h1 T O;obtain⟨D,Y,rfl,U,Z⟩:=dN Z;obtain⟨z,Y,rfl,a1,Z⟩:=dN Z;obtain⟨J,Y,rfl,a2,Z⟩:=dN Z;obtain rfl:=oW Z;rw[fH (v:=.str _) trivial U,fH (v:=.str _) trivial a1]at W;simp only[eT];exact{t',J,Z9,W,h2,M.alike (tr _ #[5]) a2}
 |.send to sg sp rk a b,v,I,n,h,T,O=>by
  obtain⟨t,u,u1,u2,rfl,h1,h2,M,g⟩:=(by simpa only[eT] using h);obtain⟨m,t',ys,rfl,W,Z,tr⟩:=j0 h1 T O;obtain⟨D,Y,rfl,U,Z⟩:=dN Z;obtain⟨z,Y,rfl,a1,Z⟩:=dN Z;obtain⟨J,Y,rfl,a2,Z⟩:=dN Z;obtain⟨y3,Y,rfl,a3,Z⟩:=dN Z;obtain⟨y4,Y,rfl,a4,Z⟩:=dN Z;obtain⟨y5,Y,rfl,a5,Z⟩:=dN Z;obtain⟨y6,Y,rfl,a6,Z⟩:=dN Z;obtain rfl:=oW Z;rw[fH (v:=.str _) trivial U,fH (v:=.int _) trivial a1,fH (v:=.str _) trivial a2,fH (v:=.int _) trivial a4]at W;simp only[eT];exact{t',y3,y5,y6,Z9,W,h2.alike (tr _ #[5]) a3,M.alike (tr _ #[5]) a5,g.alike (tr _ #[5]) a6}
 |.ife f x y,v,I,n,h,T,O=>by
  obtain⟨t,u,u1,u2,rfl,h1,h2,M,g⟩:=(by simpa only[eT] using h);obtain⟨m,t',ys,rfl,W,Z,tr⟩:=j0 h1 T O;obtain⟨D,Y,rfl,U,Z⟩:=dN Z;obtain⟨z,Y,rfl,a1,Z⟩:=dN Z;obtain⟨J,Y,rfl,a2,Z⟩:=dN Z;obtain⟨y3,Y,rfl,a3,Z⟩:=dN Z;obtain rfl:=oW Z;rw[fH (v:=.str _) trivial U]at W;simp only[eT];exact{t',z,J,y3,Z9,W,h2.alike (tr _ #[5]) a1,M.alike (tr _ #[5]) a2 fun m vs ys a b c=>fJ.alike x vs ys m a b c,g.alike (tr _ #[5]) a3 fun m vs ys a b c=>fJ.alike y vs ys m a b c}
 |.fin,v,I,n,h,T,O=>by
  obtain⟨t,rfl,h1⟩:=(by simpa only[eT] using h);obtain⟨m,t',ys,rfl,W,Z,tr⟩:=j0 h1 T O;obtain⟨D,Y,rfl,U,Z⟩:=dN Z;obtain rfl:=oW Z;rw[fH (v:=.str _) trivial U]at W;simp only[eT];exact⟨t',Z9,W⟩
theorem fJ.alike{bs qs:List Str}{H H':Hp}:∀(d:Ds) (vs ys:List V) (n:Nat),fJ bs qs H d vs->aN (Alike H H' n) vs ys->(∀x∈vs,Tree H n x)->fJ bs qs H' d ys
 |.nil,vs,ys,n,h,Z,T=>by
  have e:vs=[]:=by simpa only[fJ] using h
  subst e;obtain rfl:=oW Z;simp only[fJ]
 |.cons d r,vs,ys,n,h,Z,T=>by
  obtain⟨v,W,rfl,h1,h2⟩:=(by simpa only[fJ] using h);obtain⟨y,Y,rfl,a,b⟩:=dN Z;simp only[fJ];exact{y,Y,Z9,eT.alike d v y n h1 (T v aB) a,fJ.alike r W Y n h2 b fun x hx=>T x (aj _ hx)}
end
theorem uM{α:Type}{R Y:V->α->Prop}{T:V->Prop}(f:∀v a Z,R v a->S v Z->T v->Y Z a):∀{xs ys:List V} {as:List α},aN R xs as->aN S xs ys->(∀x∈xs,T x)->aN Y ys as:=by
 intro xs ys as p
 induction p generalizing ys with
 |nil=>
  intro q _
  cases q;exact .nil
 |cons a b W=>
  intro q t
  cases q with
  |cons c d=>exact .cons (f _ _ _ a c (t _ aB)) (W d fun x hx=>t x (aj _ hx))
theorem xq.alike(h:xq bs qs ds hs H v)(T:Tree H n v)(al:Alike H H' n v Y):xq bs qs ds hs H' Y:=by
 obtain⟨t,bl,ql,dl,hl,nm,vb,hv,rfl,h1,h2,h3,h4,h5,h6,h7⟩:=h.ex;obtain⟨m,t',ys,rfl,g1,Z,tr⟩:=j0 h1 T al;obtain⟨y0,W,rfl,a0,Z⟩:=dN Z;obtain⟨y1,W,rfl,a1,Z⟩:=dN Z;obtain⟨y2,W,rfl,a2,Z⟩:=dN Z;obtain⟨y3,W,rfl,a3,Z⟩:=dN Z;obtain⟨y4,W,rfl,a4,Z⟩:=dN Z;obtain rfl:=oW Z;obtain⟨m1,b',U,rfl,c1,d1,t1⟩:=xt h2 (tr _ #[5]) a1;obtain⟨m2,q',dp,rfl,c2,d2,t2⟩:=xt h4 (tr _ #[5]) a2;obtain⟨m3,e',dn,rfl,c3,d3,t3⟩:=xt h5 (tr _ #[5]) a3;obtain⟨m4,f',J,rfl,c4,d4,t4⟩:=xt h6 (tr _ #[5]) a4;rw[jS d2 (by intro x hx;obtain⟨z,_,rfl⟩:=cB.mp hx;exact trivial)]at c2;rw[jS d3 (by intro x hx;obtain⟨z,_,rfl⟩:=cB.mp hx;exact trivial)]at c3;refine{t',b',q',e',f',y0,U,J,Z9,g1,c1,uM (fun v a Y x y z=>?_) h3 d1 t1,c2,c3,c4,uM (fun v a Y x y z=>?_) h7 d4 t4}
 ·obtain⟨p,k,rfl,hp⟩:=x;obtain⟨m',O,ws,rfl,k1,k2,_⟩:=j0 hp z y;obtain⟨w0,wr,rfl,I,k2⟩:=dN k2;obtain⟨D,wr,rfl,g,k2⟩:=dN k2;obtain rfl:=oW k2;rw[fH (v:=.str _) trivial I]at k1;exact⟨O,D,Z9,k1⟩
 ·obtain⟨p,u,rfl,hp,hu⟩:=x;obtain⟨m',O,ws,rfl,k1,k2,M⟩:=j0 hp z y;obtain⟨w0,wr,rfl,I,k2⟩:=dN k2;obtain⟨D,wr,rfl,g,k2⟩:=dN k2;obtain rfl:=oW k2;rw[fH (v:=.str _) trivial I]at k1;exact{O,D,Z9,k1,hu.alike (M _ #[5]) g fun m vs ys a b c=>fJ.alike _ vs ys m a b c}
def OT(K:ag):List V->Hp->VK->Prop:=fun xs H Q=>∃p ys,xs=[.ref p]/\(SqL K H p ys\/SqT K H p ys)/\Q (.int ys.length) H
theorem e9(K:ag)(Z:X.K=K):lE X (.builtin "len") (OT K):=by
 rw[<- Z];exact i0
theorem JV(K:ag)(Z:X.K=K):IxR X (P9 K):=by
 rw[<- Z];exact dD
theorem mB(K:ag)(Z:X.K=K):IxR X (rIxT K):=by
 rw[<- Z];exact cv
theorem M4{X:Cx}{pos:Pos}{es:List cK}{k:Nat}{t:TGs}{n:Nat}(K:ag)(W:X.K=K)(hc:X.calm=true)(h:PGs X es t)
  (Y:(mH es X.env).length=n:=by rfl) (Z:(mH es X.env).findIdx? (·.1)=Z7:=by rfl):PG X (.Tuple es k pos) (gTup K n t):=by
 rw[<- W];exact rY hc h Y Z
theorem yl:1<=aD:=by decide
theorem eZ(h:te σ H D.rt):tRet te D σ H:=h
theorem za{σ:St}(hv:σ[i]?=Z8 (Z8 (.ref m)))(hm:H m=Z8 (.ins C dx fs))(cl:Cls K C)(na:fk K C f)(D:fs.lookup f=Z8 (.ref U))(O:H U=Z8 (.lst ms))(M:ms.length<1000)
  (Z:Nat->List V->Hp->Prop) (h0:Z 0 [] H) (hl:∀i ys H,i<=ms.length->Z i ys H->ys.length<aD)
  (hs:∀i ys H,i<ms.length->Z i ys H->g (.int (0+i)) (cy n Z7++σ) H fun Y H2=>Y.drop n=σ/\tc Y H2 fun b J=>if b=true then te Y J fun y t=>Z (i+1) (ys++[y]) t else Z (i+1) ys J)
  (hd:∀ys H,Z ms.length ys H->∀p,H p=Z7->Q (.ref p) (upd H p (.lst ys))):vh n (HW (oI (tCB (OT K) (oI (P5 K (LC i) f) Cr)) Cr)) g tc te σ H Q:=by
 refine{.ref m,hv,m,C,dx,fs,.ref U,Z9,hm,cl,na,D,U,ms,Z9,.inl (SqL.of O),(ms.length:Int),Z9,by omega,by omega,?_};rw[gL];refine{fun i k ys H=>k=ms.length-i/\i<=ms.length/\Z i ys H,{ms.length,by simp,aW _,h0},?_};rintro i k ys H ⟨rfl,hi,W⟩;refine{hl i ys H hi W,?_}
 by_cases lt:i<ms.length
 ·refine .inr {lt,Z (i+1),fun I H' z=>{ms.length-(i+1),by omega,Z9,lt,z},fun x H' y=>?_};obtain⟨e,y⟩:=y;subst e y;exact hs i ys _ lt W
 ·have e:i=ms.length:=by omega
  subst e;exact .inl {ay _,hd ys H W}
theorem Du{σ:St}(hv:σ[i]?=Z8 (Z8 (.ref a)))(hx:SqL K H a xs)(Z:Nat->List V->Hp->Prop)(h0:Z 0 [] H)(M:∀i ys H,i<=xs.length->Z i ys H->SqL K H a xs/\ys.length<aD)
  (hs:∀i x t ys H,xs[i]?=Z8 x->Z i ys H->H t=Z7->g (.ref t) (cy n Z7++σ) (upd H t (.tup [.int i,x])) fun Y H2=>Y.drop n=σ/\tc Y H2 fun b W=>if b=true then te Y W fun y U=>Z (i+1) (ys++[y]) U else Z (i+1) ys W)
  (O:∀ys H,Z xs.length ys H->∀p,H p=Z7->Q (.ref p) (upd H p (.lst ys))):vh n (OD K (oI (LC i) Cr)) g tc te σ H Q:=
 {.ref a,hv,a,Z9,⟨xs,hx⟩,F4 Z h0 M hs O}
def xu(H:Hp)(v:V)(e:Ev):Prop:=∃t,v=.ref t/\H t=Z8 (.tup [.int e.t,.int e.r,.int e.to,.str e.sg,.int e.a,.int e.b])
theorem xu.same(s:bj H H')(h:xu H v e):xu H' v e:=by
 obtain⟨t,e,h⟩:=h;exact{t,e,s _ _ h}
def atP(e:Ev)(i:Nat):Ev:={e with fr:=-1,c:=i}
section
variable{P:aI}{w:aY}{K:ag}{mg:Str->Option af}{base:cb}{f fP CB:ae}{fd fdP:bY}
inductive JW(vs:List V)(H:Hp)(Q:VK)(_e:XK):Prop where
 |mk(sl:ae)(svs:List V)(es:List Ev)(_:vs=[.ref sl])(_:H sl=Z8 (.lst svs))(_:aN (xu H) svs es)(_:es.length<1000)(_:∀(G:Hp) (l:ae) (ys:List V),bj H G->H l=Z7->G l=Z8 (.lst ys)->ys.length=es.length->(∀i y e,ys[i]?=Z8 y->es[i]?=Z8 e->iW G y (atP e i))->Q (.ref l) G):JW vs H Q _e
def OU:Sp:=fun vs H Q Z=>JW vs H Q Z
theorem scPf:bM ["signs"] ["signs"] (aR hJ):=e7
theorem ndPf:((["place","sign"]:List Str)++(["signs"]:List Str)).Nodup:=by decide +kernel
theorem QQ(D:Df K mg "pending_at_first" hJ ["signs"] f fd)(ME:mg "enumerate"=Z7):bN P w K mg base CX0 1 f fd ["signs"] OU:=by
 refine D.F.ok scPf #[3] (fun bz A outer s H vs Q E hr h=>?_)
 ·obtain⟨sl,V,es,rfl,_⟩:=h;rfl
 obtain⟨sl,V,es,rfl,M,ps,bv,k⟩:=h;refine⟨_,aF (bQ (kZ ["place","sign"] (iG.open (NN:=["signs"]) (N:=["signs"]) (sc:=aR hJ) rfl rfl #[1] rfl #[1] #[1] rfl #[1]) rfl (z7 #[7] ME (av (pv 0) ao))
  (fun _ _ _ _=>M4 (n:=2) K #[7] rfl (iw (iM (i:=0) ndPf rfl (Or.inl rfl)) (iw (iM (i:=1) ndPf rfl (Or.inl rfl)) o8))) (fun _ _ _ _=>jP)
  (fun _ _ _ _=>dX (av (dX (av (bR (mB K #[7]) (pv 1) aA) (av (bR (mB K #[7]) (pv 1) aA) (av (Ej zF aA) (av (pv 0) ao)))))
   (av (bR (mB K #[7]) (pv 1) aA) (av (bR (mB K #[7]) (pv 1) aA) (av (bR (mB K #[7]) (pv 1) aA) (av (bR (mB K #[7]) (pv 1) aA) ao)))))))),?_⟩
 dsimp only[cxA,cxB];have big:=eJ;have bw:=aL ps;refine eZ ?_;refine Du (K:=K) (a:=sl) (xs:=V) rfl (SqL.of M) (fun i ys G=>ys.length=i/\bj H G/\∀j y e,ys[j]?=Z8 y->es[j]?=Z8 e->iW G y (atP e j)) {Z9,bj.refl _,fun j y e h=>by simp at h} ?_ ?_ ?_
 ·rintro i ys G hi ⟨h1,h2,_⟩;exact{SqL.of (h2 _ _ M),by omega}
 ·rintro i x t ys G hi ⟨h1,h2,g⟩ ht;obtain⟨e,z,W,rfl,J⟩:=oV ps hi;have O:=aG ht (.tup [.int i,.ref W]);have hq:=O _ _ (h2 _ _ J);refine{t,_,Z9,SqT.of ak,Z9,_,_,Z9,_,_,Z9,Z9,?_};refine{Z9,?_};unfold tM;refine iU ?_;refine{_,Z9,W,_,_,_,Z9,Z9,SqT.of hq,Z9,_,Z9,W,_,_,_,Z9,Z9,SqT.of hq,Z9,_,Z9,_,Z9,(by show 4<=aD;decide),fun kt I=>?_};have sk:=aG I (.tup [.int e.t,.int e.r,.int (-1),.int i]);have Z:=sk _ _ hq;refine{_,Z9,W,_,_,_,Z9,Z9,SqT.of Z,Z9,_,Z9,W,_,_,_,Z9,Z9,SqT.of Z,Z9,_,Z9,W,_,_,_,Z9,Z9,SqT.of Z,Z9,_,Z9,W,_,_,_,Z9,Z9,SqT.of Z,Z9,(by show 5<=aD;decide),fun et bB=>?_};have se:=aG bB (.tup [.ref kt,.int e.to,.str e.sg,.int e.a,.int e.b]);have sA:=(O.trans sk).trans se;refine{by rw[au,h1];rfl,h2.trans sA,fun j y e' hy Y=>?_}
  rcases jq j ys.length with lt|ge
  ·rw[d8 lt]at hy;exact (g j y e' hy Y).same sA
  ·rw[dh ge]at hy;have ej:j=i:=by
    by_cases c:j-ys.length=0
    ·omega
    ·rw[List.getElem?_cons,if_neg c]at hy;simp at hy
   subst ej;rw[h1,vH]at hy
   cases hy;rw[z]at Y
   cases Y;exact{et,kt,Z9,ak,se _ _ ak}
 ·rintro ys G ⟨h1,h2,g⟩ l hl;have U:=aG hl (.lst ys);exact k _ l ys (h2.trans U) (none_of h2 hl) ak #[2] fun i y e hy z=>(g i y e hy z).same U
inductive QR(vs:List V)(H:Hp)(Q:VK)(_e:XK):Prop where
 |mk(q:ae)(v:V)(_:vs=[.ref q,v])(_:H q=Z8 (.lst []))(_:Q (.int 0) H):QR vs H Q _e
inductive QS(vs:List V)(H:Hp)(Q:VK)(_e:XK):Prop where
 |mk(q:ae)(v:V)(_:vs=[.ref q,v])(_:H q=Z8 (.lst []))(_:Q .non (upd H q (.lst [v]))):QS vs H Q _e
theorem zb:bM ["falling","thing","low","high","middle"] ["falling","thing"] (aR pI):=e7
theorem scPic:bM ["falling","thing"] ["falling","thing"] (aR tQ):=e7
def QT(r e s:V):List (Str×V):=dO "states" s (dO "ending" e (dO "records" r []))
structure BkT(K:ag)(mg:Str->Option af)(CB:ae):Prop where
 cl:Cls K CB
 nR:fk K CB "records"
 nE:fk K CB "ending"
 nS:fk K CB "states"
 m:mg "Book"=Z8 (.ref CB)
inductive OV(CB:ae)(vs:List V)(H:Hp)(Q:VK)(_e:XK):Prop where
 |mk(b dx:ae)(r e s:V)(_:vs=[.ref b,r,e,s])(_:H b=Z8 (.ins CB dx []))(_:∀G,G b=Z8 (.ins CB dx (QT r e s))->But b H G->Q .non G):OV CB vs H Q _e
def spBk(CB:ae):Sp:=fun vs H Q Z=>OV CB vs H Q Z
theorem scBk:bM ["self","records","ending","states"] ["self","records","ending","states"] (aR qL):=e7
theorem ok_bk(F:Fun K "__init__" "Book.__init__" qL f fd)(T:BkT K mg CB):bN P w K mg base CX0 1 f fd ["self","records","ending","states"] (spBk CB):=by
 refine F.ok scBk #[3] (fun Z A outer s H vs Q E W h=>?_)
 ·obtain⟨b,dx,r,e,s',rfl,_⟩:=h;rfl
 obtain⟨b,dx,r,e,s',rfl,hb,k⟩:=h;refine{_,ar (gD (pv 0) (pv 1) rfl) (ar (gD (pv 0) (pv 2) rfl) (aF (gD (pv 0) (pv 3) rfl))),?_};dsimp only[cxA,cxB];have Y:=iP "records" r [];have V:=iP "ending" e (dO "records" r []);simp only[cI]at Y;refine{_,Z9,_,Z9,b,CB,dx,[],Z9,hb,T.cl,T.nR,(by show 0<1000;decide),_,Z9,_,Z9,b,CB,dx,_,Z9,ak,T.cl,T.nE,#[2],_,Z9,_,Z9,b,CB,dx,_,Z9,ak,T.cl,T.nS,#[2],?_};exact k _ ak (((But.upd b H _).trans (But.upd b _ _)).trans (But.upd b _ _))
theorem bk_r(r e s:V):(QT r e s).lookup ("records":Str)=Z8 r:=rfl
def qR(Z:Str):Sp:=fun vs H Q _=>∃a,vs=[a]/\Q (.str Z) H
theorem Gs:bM ["self"] ["self"] (aR oA):=e7
theorem Dv(F:Fun K "word" "Nought.word" oA f fd):qH P w K mg base CX0 1 f fd ["self"] (qR "nought"):=by
 refine F.okH Gs #[3] (fun Z A outer s H vs Q E h=>?_)
 ·obtain⟨a,rfl,_⟩:=h;rfl
 obtain⟨a,rfl,q⟩:=h;exact{_,aF (bQ bX),q}
end
def nmF:Fm->List Str
 |.box x=>[x]
 |.long x=>[x]
 |.two _ f g=>nmF f++nmF g
 |_=>[]
theorem xw:∀(F:Fm) (d:Nat),F.depth<=d+1->(nmF F).length<=2^d
 |.num _,d,_=>aW _
 |.box _,d,_=>JX
 |.long _,d,_=>JX
 |.got _,d,_=>aW _
 |.now,d,_=>aW _
 |.two _ f g,0,h=>by
  have h:max f.depth g.depth+1<=0+1:=h;have:1<=f.depth:=by cases f<;>simp[Fm.depth]
  omega
 |.two _ f g,d+1,h=>by
  have h:max f.depth g.depth+1<=d+1+1:=h;have a:=xw f d #[2];have b:=xw g d #[2];show (nmF f++nmF g).length<=_;rw[au,Nat.pow_succ];omega
theorem uN(h:F.depth<=d+1)(l:d<=2):(nmF F).length<=4:=xw F 2 #[2]
mutual
def Dd.toOk(m:Int):Dd->Prop
 |.put _ f=>(nmF f).length<=4
 |.push _ f=>(nmF f).length<=4
 |.draw _ f=>(nmF f).length<=4
 |.send to _ f _ a b=>(0<=to/\to<m)/\(nmF f).length<=4/\(nmF a).length<=4/\(nmF b).length<=4
 |.pull _ _ o=>o.toOk m
 |.ife f t e=>(t.toOk m/\e.toOk m)/\(nmF f).length<=4
 |.fin=>True
def Ds.toOk(m:Int):Ds->Prop
 |.nil=>True
 |.cons d r=>d.toOk m/\r.toOk m
end
def ddz:Nat->Nat
 |0=>1
 |n+1=>1+3*ddz n
structure MD where
 nm:Str
 bs:List Str
 qs:List Str
 ds:List Int
 hs:List (Str×Ds)
 ps:List (Str×Int)
def Dw(H:Hp)(v:V)(M:MD):Prop:=∃(t bl Z:ae) (O W U:V) (Y:List V),v=.ref t/\H t=Z8 (.tup [O,.ref bl,.ref Z,W,U])/\H bl=Z8 (.lst Y)/\ic H M.ps Y/\H Z=Z8 (.lst (M.qs.map V.str))
structure MoI(m:Int)(H:Hp)(v:V)(M:MD):Prop where
 ma:xq M.bs M.qs M.ds M.hs H v
 fs:Dw H v M
 kb:M.ps.map (·.1)=M.bs
 nb:M.bs.Nodup
 nq:M.qs.Nodup
 lb:M.bs.length<=9
 lq:M.qs.length<=9
 ld:M.ds.length<=100
 lh:M.hs.length<=9
 wb:∀q∈M.ps,Wo q.2
 hk:∀q∈M.hs,q.2.toOk m/\q.2.deep<=4/\q.2.size<=3*ddz 3
theorem Dw.same(s:bj H H')(h:Dw H v M):Dw H' v M:=by
 obtain⟨t,bl,Y,Z,U,I,O,e,h1,h2,W,J⟩:=h;exact{t,bl,Y,Z,U,I,O,e,s _ _ h1,s _ _ h2,W.same s,s _ _ J}
theorem MoI.same(s:bj H H')(h:MoI m H v M):MoI m H' v M:=
 {h.ma.same s,h.fs.same s,h.kb,h.nb,h.nq,h.lb,h.lq,h.ld,h.lh,h.wb,h.hk}
def Gu(m:Int)(H:Hp)(Z:ae)(Ms:List MD):Prop:=∃xs,H Z=Z8 (.lst xs)/\aN (MoI m H) xs Ms
theorem Gu.same(s:bj H H')(h:Gu m H Z Ms):Gu m H' Z Ms:=by
 obtain⟨xs,h1,h2⟩:=h;exact{xs,s _ _ h1,Paired.mono (fun _ _ z=>z.same s) h2}
abbrev qS(zs:List (V×List Int)):Prop:=zs.Pairwise (fun a b=>HT.lexLt b.2 a.2=true)
theorem qS.put(h:qS zs)(h1:∀(j:Nat) z,j<i->zs[j]?=Z8 z->HT.lexLt x.2 z.2=true)(h2:∀(j:Nat) z,i<=j->zs[j]?=Z8 z->HT.lexLt z.2 x.2=true):qS (zs.take i++x::zs.drop i):=by
 have a1:∀a∈zs.take i,HT.lexLt x.2 a.2=true:=fun a ha=>by
  obtain⟨j,Z⟩:=c9 ha;have lt:j<(zs.take i).length:=(aC.mp Z).1;rw[bD]at lt;rw[iN #[2]]at Z;exact h1 j a #[2] Z
 have a2:∀a∈zs.drop i,HT.lexLt a.2 x.2=true:=fun a ha=>by
  obtain⟨j,Z⟩:=c9 ha;rw[HA]at Z;exact h2 (i+j) a #[2] Z
 have U:qS (zs.take i++zs.drop i):=by
  rw[ij];exact h
 obtain⟨Y,p2,W⟩:=fh.mp U;refine fh.mpr {Y,dv.mpr {fun b hb=>a2 b hb,p2},fun a ha b hb=>?_}
 rcases aq.mp hb with z|z
 ·rw[z];exact a1 a ha
 ·exact W a ha b z
theorem qS.at_(h:qS zs){i j:Nat}(lt:i<j)(hi:zs[i]?=Z8 y)(Y:zs[j]?=Z8 z):HT.lexLt z.2 y.2=true:=by
 obtain⟨U,W⟩:=aC.mp hi;obtain⟨Z,O⟩:=aC.mp Y;have:=cT.mp h i j U Z lt;rw[W,O]at this;exact this
section
variable{P:aI}{w:aY}{K:ag}{mg:Str->Option af}{base:cb}{f fP:ae}{fd fdP:bY}
inductive JY(vs:List V)(H:Hp)(Q:VK)(_e:XK):Prop where
 |mk(q b:ae)(zs:List (V×List Int))(n:List Int)(_:vs=[.ref q,.ref b])(_:H q=Z8 (.lst (zs.map (·.1))))(_:(∀z∈zs,Da H z))(_:qS zs)(_:Da H (.ref b,n))(_:n∉zs.map (·.2))(_:zs.length<=10000000)(_:∀i:Nat,i<=zs.length->qS (zs.take i++(V.ref b,n)::zs.drop i)->Q (.int i) H):JY vs H Q _e
def OW:Sp:=fun vs H Q Z=>JY vs H Q Z
theorem QU(D:Df K mg "place_in" pI ["falling","thing"] f fd)(B:Bl mg):bN P w K mg base CX0 1 f fd ["falling","thing"] OW:=by
 refine D.F.ok zb #[3] (fun cn A outer s H vs Q E hr h=>?_)
 ·obtain⟨q,b,zs,n,rfl,_⟩:=h;rfl
 obtain⟨q,b,zs,n,rfl,hq,hz,J,hb,nn,hl,k⟩:=h;have hu:=qD hr;obtain⟨b0,kb,rb,eb,t,I⟩:=hb
 cases eb;refine⟨_,ar (pst 2 zb aA)
  (ar (pst 3 zb (cS i0 #[7] B.len cA (av (pv 0) ao)))
  (ar (A3 cw (bO rK (pv 2) (pv 3))
   (ar (pst 4 zb (cM LI (cM ie (pv 2) (pv 3)) aA))
   (aF (cR (bO (Qs hu) (bR dD (pv 0) (pv 4)) (pv 1))
    (aF (pst 2 zb (cM ie (pv 4) aA)))
    (aF (pst 3 zb (pv 4)))))))
  (aF (bQ (pv 2))))),?_⟩
 dsimp only[cxA,cxB];refine{_,Z9,q,_,Z9,.inl (SqL.of hq),?_};refine A6 (fun σ H2=>∃(lo hi:Nat) (m:Option V),σ=[Z8 (.ref q),Z8 (.ref b),Z8 (.int lo),Z8 (.int hi),m]/\H2=H/\lo<=hi/\hi<=zs.length /\
   (∀(j:Nat) (z:V×List Int),j<lo->zs[j]?=Z8 z->HT.lexLt n z.2=true)/\∀(j:Nat) (z:V×List Int),hi<=j->zs[j]?=Z8 z->HT.lexLt n z.2=false)
  (fun σ _=>match σ with | [_,_,Z8 (.int lo),Z8 (.int hi),_]=>(hi-lo).toNat|_=>0) ?_ ?_ ?_
 ·refine{0,zs.length,Z7,?_,Z9,aW _,ay _,fun j z h=>absurd h (jz _),fun j z h e=>?_}
  ·rw[ah];rfl
  ·rw[dB #[2]]at e
   cases e
 ·rintro σ H2 ⟨lo,hi,m,rfl,rfl,h1,h2,h3,h4⟩;refine{_,Z9,_,Z9,_,_,Z9,Z9,_,Z9,?_};refine gA (fun c=>?_) (fun c=>?_)
  ·have c:lo<hi:=by
    have z:=of_decide_eq_true c;omega
   refine{_,Z9,_,Z9,_,_,Z9,Z9,_,_,Z9,Z9,{by decide,by decide},?_};have em:((lo:Int)+(hi:Int))/2=(((lo+hi)/2:Nat):Int):=by omega
   have lm:(lo+hi)/2<zs.length:=by omega
   obtain⟨z,Z⟩:∃z,zs[(lo+hi)/2]?=Z8 z:={_,aw lm};have mz:=bC Z;obtain⟨az,kz,rz,ez,cp,U⟩:=hz z mz;have ea:(zs.map (·.1))[(lo+hi)/2]?=Z8 (.ref az):=by rw[bT,Z,kd,ez]
   have nz:z.2≠n:=fun y=>nn (by rw[<- y];exact sY mz);refine{_,Z9,_,Z9,q,_,_,_,Z9,Z9,SqL.of hq,(by rw[em];exact iO ea),_,Z9,az,b,kz,kb,z.2,n,rz,rb,Z9,Z9,cp,t,U,I,nz,_,Z9,?_};refine gA (fun g=>?_) (fun g=>?_)
   ·refine{_,Z9,_,_,Z9,Z9,{(lo+hi)/2+1,hi,Z8 (.int (((lo:Int)+(hi:Int))/2)),?_,Z9,by omega,h2,fun j y M e=>?_,h4},?_}
    ·have W:(((lo+hi)/2+1:Nat):Int)=((lo:Int)+(hi:Int))/2+1:=by omega
     rw[W];rfl
    ·by_cases Y:j=(lo+hi)/2
     ·rw[Y,Z]at e
      cases e;exact g
     ·exact HT.lx_trans g (J.at_ (show j<(lo+hi)/2 by omega) e Z)
    ·show ((hi:Int)-(((lo:Int)+(hi:Int))/2+1)).toNat<((hi:Int)-(lo:Int)).toNat;omega
   ·refine{_,Z9,{lo,(lo+hi)/2,Z8 (.int (((lo:Int)+(hi:Int))/2)),?_,Z9,by omega,by omega,h3,fun j y M e=>?_},?_}
    ·rw[<- em];rfl
    ·have g':HT.lexLt n z.2=false:=by
      cases e':HT.lexLt n z.2 with
      |false=>rfl
      |true=>exact absurd e' g
     by_cases Y:j=(lo+hi)/2
     ·rw[Y,Z]at e
      cases e;exact g'
     ·have z1:=J.at_ (show (lo+hi)/2<j by omega) Z e
      cases e':HT.lexLt n y.2 with
      |false=>rfl
      |true=>
       have z2:=HT.lx_trans e' z1;rw[g']at z2
       cases z2
    ·show ((((lo:Int)+(hi:Int))/2)-(lo:Int)).toNat<((hi:Int)-(lo:Int)).toNat;omega
  ·have e:lo=hi:=by
    have z:¬((lo:Int)<(hi:Int)):=fun z=>c (decide_eq_true z);omega
   subst e;refine{_,Z9,k lo h2 (J.put h3 fun j z M e=>?_)};exact HT.lx_of_not (h4 j z M e) fun y=>nn (by
    have y:n=z.2:=y;rw[y];exact sY (bC e))
 ·rintro σ H2 Q1 Q2 O h;obtain⟨a1,e1,a2,W,i,j,e3,e4,b',e5,h⟩:=h;exact{a1,e1,a2,W,i,j,e3,e4,b',e5,O _ _ h}
inductive JZ(vs:List V)(H:Hp)(Q:VK)(_e:XK):Prop where
 |mk(q b:ae)(zs:List (V×List Int))(n:List Int)(_:vs=[.ref q,.ref b])(_:H q=Z8 (.lst (zs.map (·.1))))(_:(∀z∈zs,Da H z))(_:qS zs)(_:Da H (.ref b,n))(_:n∉zs.map (·.2))(_:zs.length<=10000000)(_:∀zs':List (V×List Int),zs'.Perm ((V.ref b,n)::zs)->qS zs'->Q .non (upd H q (.lst (zs'.map (·.1))))):JZ vs H Q _e
def EZ:Sp:=fun vs H Q Z=>JZ vs H Q Z
theorem QV(D:Df K mg "put_in" tQ ["falling","thing"] f fd)(Z:Df K mg "place_in" pI ["falling","thing"] fP fdP)(B:Bl mg):bN P w K mg base CX0 2 f fd ["falling","thing"] EZ:=by
 have W:bN P w K mg base CX0 1 fP fdP ["falling","thing"] OW:=QU Z B;refine D.F.ok scPic #[3] (fun Y A outer s H vs Q E M h=>?_)
 ·obtain⟨q,b,zs,n,rfl,_⟩:=h;rfl
 obtain⟨q,b,zs,n,rfl,hq,hz,O,hb,U,J,k⟩:=h;refine{_,aF (eU (mO bV PySem.F.slot_list_insert PySem.F.type_list_insert FY (pv 0) (av (pcl W M Z (av (pv 0) (av (pv 1) ao))) (av (pv 1) ao)))),?_};dsimp only[cxA,cxB];have sl:10000000<aD:=by decide
 refine{_,Z9,.inl {Z9,_,SqL.of hq},_,Z9,_,Z9,q,b,zs,n,Z9,hq,hz,O,hb,U,J,fun i hi I=>{_,Z9,q,_,i,.ref b,Z9,Z9,hq,by rw[ah];exact hi,by rw[ah];omega,?_}};have z:=k (zs.take i++(V.ref b,n)::zs.drop i) ?_ I
 ·rw[bA,bK,QL,List.map_drop]at z;exact z
 ·refine Lw.trans ?_;rw[ij]
end
structure Sta where
 bx:List (Str×Int)
 qu:List (Str×List Int)
 dr:Nat
 se:Int
def Sta.w(s:Sta):Wk:=w0 s.bx s.qu s.dr s.se
structure Rec where
 h:Ev
 wb:List (Str×Int)
 wq:List (Str×List Int)
 out:List Ev
inductive Stp where
 |fin(h:Ev)
 |flt(e:Flt)(h:Ev)
inductive End where
 |empty
 |cut
 |stp(s:Stp)
structure RS where
 sts:List Sta
 pd:List Ev
 re:Option Ev
 sp:Option Stp
def Ev.key(e:Ev):List Int:=[e.t,e.r,e.fr,e.c]
def xx(x:Ev):List Ev->List Ev
 | []=>[x]
 |y::ys=>if HT.lexLt x.key y.key=true then y::xx x ys else x::y::ys
def sP(xs pd:List Ev):List Ev:=xs.foldl (fun p e=>xx e p) pd
abbrev om(es:List Ev):Prop:=es.Pairwise (fun a b=>HT.lexLt b.key a.key=true)
def oX(r:RS)(left:Int):Option End:=match r.sp with
 |some s=>Z8 (.stp s)
 |none=>if r.pd.isEmpty=true then Z8 .empty else if left<=0 then Z8 .cut else Z7
def iK(Ms:List MD)(r:RS):RS×List Rec:=match r.pd.getLast? with
 |none=>(r,[])
 |some h=>match Ms[h.to.toNat]?,r.sts[h.to.toNat]? with
  |some M,Z8 s=>(match doS h M.ds (j5 M.hs h.sg) s.w with
   |.error e=>({r with pd:=r.pd.dropLast,sp:=Z8 (.flt e h)},[])
   |.ok w=>({r.sts.set h.to.toNat ⟨w.bx,w.qu,w.dr,w.se⟩,sP w.out r.pd.dropLast,Z8 h,if w.en=true then Z8 (.fin h) else Z7},[{h,wrB M.bs w,wrQ M.qs w,w.out}]))
  |_,_=>(r,[])
def itR(Ms:List MD)(r:RS):Nat->RS×List Rec
 |0=>(r,[])
 |n+1=>((iK Ms (itR Ms r n).1).1,(itR Ms r n).2++(iK Ms (itR Ms r n).1).2)
theorem oY(x:Ev):∀ys:List Ev,(xx x ys).Perm (x::ys)
 | []=>kn _
 |y::ys=>by
  unfold xx
  split
  ·exact ((oY x ys).cons y).trans (List.Perm.swap x y ys)
  ·exact kn _
theorem jh:∀(xs pd:List Ev),(sP xs pd).Perm (xs++pd)
 | [],pd=>kn _
 |x::xs,pd=>by
  show (sP xs (xx x pd)).Perm _;refine (jh xs (xx x pd)).trans ?_;refine ((kn xs).append (oY x pd)).trans ?_;exact Lw
theorem uO:∀{ys:List Ev},om ys->(∀y∈ys,x.key≠y.key)->om (xx x ys)
 | [],_,_=>eG _ _
 |y::ys,h,n=>by
  obtain⟨h1,h2⟩:=dv.mp h;unfold xx
  by_cases c:HT.lexLt x.key y.key=true
  ·rw[if_pos c];refine dv.mpr {fun z hz=>?_,uO h2 fun z hz=>n z (aj _ hz)}
   rcases aq.mp ((oY x ys).mem_iff.mp hz) with e|e
   ·rw[e];exact c
   ·exact h1 z e
  ·rw[if_neg c];have lt:HT.lexLt y.key x.key=true:=HT.lx_of_not (by
    cases e:HT.lexLt x.key y.key with
    |false=>rfl
    |true=>exact absurd e c) (n y aB)
   refine dv.mpr {fun z hz=>?_,h}
   rcases aq.mp hz with e|e
   ·rw[e];exact lt
   ·exact HT.lx_trans (h1 z e) lt
theorem zc:∀{xs ys:List Ev},om xs->om ys->xs.Perm ys->xs=ys
 | [],ys,_,_,p=>(List.nil_perm.mp p).symm ▸ rfl
 |x::xs,[],_,_,p=>absurd p (by intro z;have:=z.length_eq;simp at this)
 |x::xs,y::ys,h,k,p=>by
  obtain⟨h1,h2⟩:=dv.mp h;obtain⟨k1,k2⟩:=dv.mp k;have e:x=y:=by
   rcases aq.mp (p.mem_iff.mp (aB (a:=x) (l:=xs))) with z|z
   ·exact z
   ·rcases aq.mp (p.mem_iff.mpr (aB (a:=y) (l:=ys))) with q|q
    ·exact q.symm
    ·have a:=k1 x z;have b:=HT.lx_asym (h1 y q);rw[a]at b
     cases b
  subst e;rw[zc h2 k2 ((List.perm_cons x).mp p)]
structure OX(m:Int)(h:Ev)(se se':Int)(e:Ev):Prop where
 fr:e.fr=h.to
 c0:se<=e.c
 c1:e.c<se'
 t0:h.t<e.t
 t1:e.t<=10^12
 to0:0<=e.to
 to1:e.to<m
structure News(m:Int)(h:Ev)(n:Nat)(w w':Wk):Prop where
 se:w.se<=w'.se
 ex:∃new,w'.out=w.out++new/\new.length<=n/\(∀e∈new,OX m h w.se w'.se e)/\new.Pairwise (fun a b=>a.c<b.c)
theorem News.none(V:Z.se=w.se)(Y:Z.out=w.out):News m h n w Z:=
 {by rw[V];exact Int.le_refl _,[],by rw[Y,cO],aW _,(fun e W=>by cases W),List.Pairwise.nil}
theorem News.trans(a:News m h J w D)(b:News m h t D M):News m h (J+t) w M:=by
 obtain⟨s1,x1,e1,l1,V,p1⟩:=a;obtain⟨s2,x2,g,l2,U,p2⟩:=b;refine{Int.le_trans s1 s2,x1++x2,by rw[g,e1,jM],by rw[au];omega,fun e he=>?_,fh.mpr {p1,p2,fun a ha b hb=>?_}}
 ·rcases cj.mp he with z|z
  ·obtain⟨f,I,O,Z,t1,Y,W⟩:=V e z;exact{f,I,by omega,Z,t1,Y,W}
  ·obtain⟨f,I,O,Z,t1,Y,W⟩:=U e z;exact{f,by omega,O,Z,t1,Y,W}
 ·have:=(V a ha).c1;have:=(U b hb).c0;omega
theorem News.le(a:News m h Z w Y)(l:Z<=W):News m h W w Y:=by
 obtain⟨M,x1,U,J,V,O⟩:=a;exact{M,x1,U,by omega,V,O}
theorem News.from{w0 w Y:Wk}(a:News m h n w Y)(V:w.se=w0.se)(M:w.out=w0.out):News m h n w0 Y:=by
 obtain⟨W,x1,f1,O,Z,U⟩:=a;rw[V]at W Z;exact{W,x1,by rw[f1,M],O,Z,U}
theorem kJ(e:rck h w f k=.ok Z):∃n,k {w with rk:=w.rk++[f]} n=.ok Z:=by
 unfold rck at e
 split at e
 ·exact{_,e}
 ·cases e
 ·cases e
mutual
theorem J0{m:Int}{h:Ev}{ds:List Int}:∀(D:Dd) (w Z:Wk),D.toOk m->doD h ds D w=.ok Z->News m h D.size w Z
 |.put x f,w,Z,_,e=>by
  simp only[doD]at e;obtain⟨n,e⟩:=kJ e
  cases e;exact News.none rfl rfl
 |.push q f,w,Z,_,e=>by
  simp only[doD]at e;obtain⟨n,e⟩:=kJ e;try dsimp only at e
  split at e
  ·cases e
  ·cases e;exact News.none rfl rfl
 |.pull q x o,w,Z,to,e=>by
  simp only[doD]at e;simp only[Dd.toOk]at to
  split at e
  ·exact ((m8 o _ _ to e).le (eD _)).from rfl rfl
  ·cases e;exact News.none rfl rfl
 |.draw x f,w,Z,_,e=>by
  simp only[doD]at e;obtain⟨n,e⟩:=kJ e;try dsimp only at e
  split at e
  ·cases e
  ·split at e
   ·cases e
   ·cases e;exact News.none rfl rfl
 |.send to V sp rk a b,w,Z,Y,e=>by
  simp only[doD]at e;simp only[Dd.toOk]at Y;obtain⟨n,e⟩:=kJ e;try dsimp only at e
  split at e
  ·cases e
  ·rename_i c
   obtain⟨x,e⟩:=kJ e;obtain⟨y,e⟩:=kJ e;try dsimp only at e
   split at e
   ·cases e
   ·rename_i c2
    cases e;refine{?_,[_],Z9,ay _,fun q hq=>?_,eG _ _}
    ·show w.se<=w.se+1;omega
    ·rw[aK.mp hq];exact{Z9,Int.le_refl _,(by show w.se<w.se+1;omega),(by show h.t<h.t+n;omega),(by show h.t+n<=10^12;omega),Y.1.1,Y.1.2}
 |.ife f t W,w,Z,to,e=>by
  simp only[doD]at e;simp only[Dd.toOk]at to;obtain⟨n,e⟩:=kJ e;try dsimp only at e
  simp only[Dd.size]
  split at e
  ·exact ((m8 W _ _ to.1.2 e).le #[2]).from rfl rfl
  ·exact ((m8 t _ _ to.1.1 e).le #[2]).from rfl rfl
 |.fin,w,Z,_,e=>by
  simp only[doD]at e
  cases e;exact News.none rfl rfl
theorem m8{m:Int}{h:Ev}{ds:List Int}:∀(D:Ds) (w Z:Wk),D.toOk m->doS h ds D w=.ok Z->News m h D.size w Z
 |.nil,w,Z,_,e=>by
  simp only[doS]at e
  cases e;exact News.none rfl rfl
 |.cons d r,w,Z,to,e=>by
  simp only[doS]at e;simp only[Ds.toOk]at to;simp only[Ds.size]
  split at e
  ·rename_i w1 e1
   exact (J0 d _ _ to.1 e1).trans (m8 r _ _ to.2 e)
  ·cases e
end
structure Al(m:Nat)(e:Ev):Prop where
 to0:0<=e.to
 to1:e.to<m
 wt:Wo e.t
 wa:Wo e.a
 wb:Wo e.b
structure ROk(m:Nat)(r:RS):Prop where
 len:r.sts.length=m
 fall:om r.pd
 ev:∀e∈r.pd,Al m e
 cn:∀e∈r.pd,e.fr=-1\/∃(i:Nat) (s:Sta),e.fr=(i:Int)/\r.sts[i]?=Z8 s/\e.c<s.se
theorem uP(f:om (pd++[h])):om pd/\∀e∈pd,HT.lexLt h.key e.key=true:=by
 obtain⟨f1,_,Z⟩:=fh.mp f;exact{f1,fun e Y=>Z e Y h (aK.mpr rfl)}
theorem xy{h:Ev}(e:pd.getLast?=Z8 h):pd=pd.dropLast++[h]:=by
 obtain⟨ys,rfl⟩:=List.getLast?_eq_some_iff.mp e;rw[E1]
theorem xA{a b:Ev}(h:a.fr≠b.fr\/a.c≠b.c):a.key≠b.key:=fun z=>by
 unfold Ev.key at z;simp only[List.cons.injEq]at z
 rcases h with h|h
 ·exact h z.2.2.1
 ·exact h z.2.2.2.1
theorem rn:∀{xs pd:List Ev},om pd->(∀x∈xs,∀y∈pd,x.key≠y.key)->xs.Pairwise (fun a b=>a.key≠b.key)->om (sP xs pd)
 | [],_,h,_,_=>h
 |x::xs,pd,h,n,p=>by
  obtain⟨Z,p2⟩:=dv.mp p;refine rn (xs:=xs) (uO h fun y hy=>n x aB y hy) (fun z hz y hy=>?_) p2
  rcases aq.mp ((oY x pd).mem_iff.mp hy) with e|e
  ·rw[e];exact fun q=>Z z hz q.symm
  ·exact n z (aj _ hz) y e
structure Did(Ms:List MD)(r:RS)(h:Ev)(M:MD)(s:Sta):Prop where
 pd:r.pd=r.pd.dropLast++[h]
 hM:Ms[h.to.toNat]?=Z8 M
 hs:r.sts[h.to.toNat]?=Z8 s
theorem tY(d:Did Ms r h M s)(q:doS h M.ds (j5 M.hs h.sg) s.w=.error e):iK Ms r=({r with pd:=r.pd.dropLast,sp:=Z8 (.flt e h)},[]):=by
 have l:r.pd.getLast?=Z8 h:=by
  rw[d.pd,E2]
 unfold iK;rw[l];dsimp only;rw[d.hM,d.hs];dsimp only;rw[q]
theorem wA(d:Did Ms r h M s)(q:doS h M.ds (j5 M.hs h.sg) s.w=.ok w):iK Ms r=({r.sts.set h.to.toNat ⟨w.bx,w.qu,w.dr,w.se⟩,sP w.out r.pd.dropLast,Z8 h,if w.en=true then Z8 (.fin h) else Z7},[{h,wrB M.bs w,wrQ M.qs w,w.out}]):=by
 have l:r.pd.getLast?=Z8 h:=by
  rw[d.pd,E2]
 unfold iK;rw[l];dsimp only;rw[d.hM,d.hs];dsimp only;rw[q]
theorem BC(k:ROk m r)(d:Did Ms r h M s)(N:News m h n s.w w):(∀x∈w.out,∀y∈r.pd.dropLast,x.key≠y.key)/\w.out.Pairwise (fun a b=>a.key≠b.key)/\(∀x∈w.out,OX m h s.se w.se x):=by
 obtain⟨D,new,e,O,W,hp⟩:=N;have e:w.out=new:=e;rw[e];have Y:h∈r.pd:=by
  rw[d.pd];exact bL _ (aK.mpr rfl)
 have h0:=(k.ev h Y).to0;refine{fun x hx y hy=>?_,hp.imp fun z=>xA (.inr #[2]),W};have o:=W x hx;have Z:y∈r.pd:=jY _ hy
 rcases k.cn y Z with z|⟨i,s',I,U,t⟩
 ·refine xA (.inl ?_);rw[o.fr,z];omega
 ·by_cases c:y.fr=h.to
  ·refine xA (.inr ?_);have V:h.to.toNat=i:=by omega
   have:=d.hs;rw[V,U]at this
   cases this;have J:s.se<=x.c:=o.c0;omega
  ·refine xA (.inl ?_);rw[o.fr];exact fun q=>c q.symm
theorem J1(k:ROk m r)(d:Did Ms r h M s)(q:doS h M.ds (j5 M.hs h.sg) s.w=.ok w)(N:News m h n s.w w)(J:∀e∈w.out,Wo e.a/\Wo e.b):ROk m (iK Ms r).1:=by
 rw[wA d q];obtain⟨I,t,U⟩:=BC k d N;have f:=k.fall;rw[d.pd]at f;obtain⟨f1,f2⟩:=uP f;refine{by rw[xW];exact k.len,rn f1 I t,fun e Y=>?_,fun e Y=>?_}
 ·rcases cj.mp ((jh _ _).mem_iff.mp Y) with z|z
  ·obtain⟨a,b,c,d',g,D,g'⟩:=U e z;have Z:h∈r.pd:=by
    rw[d.pd];exact bL _ (aK.mpr rfl)
   have ht:=(k.ev h Z).wt;have w1:(10:Int)^15=1000000000000000:=by decide
   have w2:(10:Int)^12=1000000000000:=by decide
   refine{D,g',?_,(J e z).1,(J e z).2};unfold Wo at ht |-;omega
  ·exact k.ev e (jY _ z)
 ·have lt:h.to.toNat<r.sts.length:=(aC.mp d.hs).1;have Z:h∈r.pd:=by
   rw[d.pd];exact bL _ (aK.mpr rfl)
  have h0:=(k.ev h Z).to0
  rcases cj.mp ((jh _ _).mem_iff.mp Y) with z|z
  ·obtain⟨a,b,c,_⟩:=U e z;refine .inr {h.to.toNat,_,by omega,eP lt,c}
  ·rcases k.cn e (jY _ z) with y|⟨i,s',V,O,W⟩
   ·exact .inl y
   ·by_cases c:h.to.toNat=i
    ·subst c;have es:s=s':=cF (d.hs.symm.trans O);rw[<- es]at W;refine .inr {_,_,V,eP lt,?_};have s1:s.se<=w.se:=N.se;show e.c<w.se;omega
    ·exact .inr {i,s',V,by rw[iJ c];exact O,W}
theorem Gv(k:ROk m r)(d:Did Ms r h M s)(q:doS h M.ds (j5 M.hs h.sg) s.w=.error e):ROk m (iK Ms r).1:=by
 rw[tY d q];have f:=k.fall;rw[d.pd]at f;exact{k.len,(uP f).1,fun e Z=>k.ev e (jY _ Z),fun e Z=>k.cn e (jY _ Z)}
structure Ex where
 l:List ae
 b:Hp
def Ex.In(ex:Ex)(a:ae):Prop:=a∈ex.l\/∃o,ex.b a=Z8 o/\∀xs,o≠.tup xs
instance:Membership Addr Ex:={fun ex a=>ex.In a}
def Ex.add(ex:Ex)(a:ae):Ex:={a::ex.l,ex.b}
theorem Ex.here{ex:Ex}:a∈ex.add a:=.inl aB
theorem Ex.more{ex:Ex}{a b:ae}(h:b∈ex):b∈ex.add a:=h.elim (fun z=>.inl (aj _ z)) .inr
theorem Ex.or{ex:Ex}{a b:ae}(h:b∈ex.add a):b=a\/b∈ex:=h.elim (fun z=>(aq.mp z).elim .inl fun y=>.inr (.inl y)) fun z=>.inr (.inr z)
open Classical in
noncomputable def Hid(ex:Ex)(G:Hp):Hp:=fun a=>if a∈ex then Z7 else G a
section
variable{ex:Ex}{G G':Hp}{a:ae}{o:HO}
theorem pP(e:Hid ex G a=Z8 o):a∉ex:=fun m=>by
 unfold Hid at e;rw[if_pos m]at e
 cases e
theorem gp(n:a∉ex):Hid ex G a=G a:=if_neg n
theorem gF:bj (Hid ex G) G:=fun b o e=>by
 rw[gp (pP e)]at e;exact e
theorem jv(m:a∈ex):Hid ex (upd G a o)=Hid ex G:=by
 funext b
 unfold Hid
 by_cases c:b∈ex
 ·rw[if_pos c,if_pos c]
 ·rw[if_neg c,if_neg c,aQ fun z=>c (by rw[z];exact m)]
theorem fK(s:bj G G'):bj (Hid ex G) (Hid ex G'):=fun b o e=>by
 rw[gp (pP e)];exact s _ _ (gF _ _ e)
theorem J2(s:∀b o,G b=Z8 o->b∉ex->G' b=Z8 o):bj (Hid ex G) (Hid ex G'):=fun b o e=>by
 rw[gp (pP e)];exact s _ _ (gF _ _ e) (pP e)
theorem jw(Z:∀a∈ex,∃o,G a=Z8 o/\∀xs,o≠.tup xs)(h:G a=Z8 (.tup xs)):Hid ex G a=Z8 (.tup xs):=by
 rw[gp fun m=>by
  obtain⟨o,e,n⟩:=Z a m;rw[e]at h
  cases h;exact n _ rfl]
 exact h
theorem qT(n:G a=Z7):Hid (ex.add a) (upd G a o)=Hid ex G:=by
 funext b
 unfold Hid
 by_cases c:b=a
 ·rw[c,if_pos Ex.here]
  by_cases d:a∈ex
  ·rw[if_pos d]
  ·rw[if_neg d,n]
 ·by_cases d:b∈ex
  ·rw[if_pos d,if_pos (Ex.more d)]
  ·rw[if_neg d,if_neg (fun z=>(Ex.or z).elim c d),aQ c]
theorem BD:bj (Hid (ex.add a) G) (Hid ex G):=fun b o e=>by
 rw[gp fun m=>pP e (Ex.more m)];exact gF _ _ e
end
abbrev J3(h:Ev):HO:=.tup [.int h.t,.int h.r,.int h.fr,.int h.c]
def RcIn(F:Hp)(v:V)(q:Rec):Prop:=∃(W k O od:ae) (Y Z vs:List V) (U:List (Str×ae)),v=.ref W/\F W=Z8 (.tup [.ref k,.int q.h.to,.str q.h.sg,.int q.h.a,.int q.h.b,.ref O,.ref od])/\F k=Z8 (J3 q.h) /\
 F O=Z8 (.lst (Y++Z))/\aN (tX F) Y q.wb/\aN (BB F) Z U/\gE F U q.wq/\F od=Z8 (.lst vs)/\aN (iW F) vs q.out
theorem RcIn.same(s:bj F W)(h:RcIn F v q):RcIn W v q:=by
 obtain⟨M,k,t,od,Y,Z,vs,I,e,h1,h2,O,J,g,D,U,h8⟩:=h;exact{M,k,t,od,Y,Z,vs,I,e,s _ _ h1,s _ _ h2,s _ _ O,Paired.mono (fun _ _ z=>z.keep fun a xs e=>s _ _ e) J,Paired.mono (fun _ _ z=>z.keep fun a xs e=>s _ _ e) g,D.same s,s _ _ U,Paired.mono (fun _ _ z=>z.same s) h8}
def rQ:Flt->Str
 |.nought=>"nought"
 |.great=>"great"
 |.full=>"full"
 |.dry=>"dry"
 |.span=>"span"
 |.late=>"late"
def M5(F:Hp)(v:V):Option Ev->Prop
 |none=>v=.non
 |some h=>∃k,v=.ref k/\F k=Z8 (J3 h)
def xB(F:Hp)(v:V):Stp->Prop
 |.fin h=>∃t k,v=.ref t/\F t=Z8 (.tup [.str "end",.ref k])/\F k=Z8 (J3 h)
 |.flt e h=>∃t k,v=.ref t/\F t=Z8 (.tup [.str "fault",.str (rQ e),.ref k])/\F k=Z8 (J3 h)
def Na(F:Hp)(v:V):Option Stp->Prop
 |none=>v=.non
 |some s=>xB F v s
def ym(F:Hp)(v:V):End->Prop
 |.empty=>∃t,v=.ref t/\F t=Z8 (.tup [.str "empty"])
 |.cut=>∃t,v=.ref t/\F t=Z8 (.tup [.str "cut"])
 |.stp s=>xB F v s
theorem M5.same(s:bj F Z):∀{q:Option Ev},M5 F v q->M5 Z v q
 |none,h=>h
 |some _,⟨k,e,h⟩=>{k,e,s _ _ h}
theorem xB.same(s:bj F Z):∀{q:Stp},xB F v q->xB Z v q
 |.fin _,⟨t,k,e,h1,h2⟩=>{t,k,e,s _ _ h1,s _ _ h2}
 |.flt _ _,⟨t,k,e,h1,h2⟩=>{t,k,e,s _ _ h1,s _ _ h2}
theorem Na.same(s:bj F Z):∀{q:Option Stp},Na F v q->Na Z v q
 |none,h=>h
 |some _,h=>xB.same s h
theorem ym.same(s:bj F Z):∀{q:End},ym F v q->ym Z v q
 |.empty,⟨t,e,h⟩=>{t,e,s _ _ h}
 |.cut,⟨t,e,h⟩=>{t,e,s _ _ h}
 |.stp _,h=>xB.same s h
def kR(m s p r e:V):List (Str×V):=[("model",m),("states",s),("pending",p),("reached",r),("stopped",e)]
structure CoT(K:ag)(mg:Str->Option af)(CC:ae):Prop where
 cl:Cls K CC
 nM:fk K CC "model"
 nS:fk K CC "states"
 nP:fk K CC "pending"
 nR:fk K CC "reached"
 nE:fk K CC "stopped"
 m:mg "Course"=Z8 (.ref CC)
theorem co_m(m s p r e:V):(kR m s p r e).lookup ("model":Str)=Z8 m:=rfl
theorem QW(m s p r e:V):(kR m s p r e).lookup ("states":Str)=Z8 s:=rfl
theorem QX(m s p r e:V):(kR m s p r e).lookup ("pending":Str)=Z8 p:=rfl
theorem QY(m s p r e:V):(kR m s p r e).lookup ("stopped":Str)=Z8 e:=rfl
theorem Dx(m s p r e:V):(kR m s p r e).length<1000:=by show 5<1000;decide
theorem QZ(m s p r e:V):dO "stopped" e (dO "reached" r (dO "pending" p (dO "states" s (dO "model" m []))))=kR m s p r e:=rfl
theorem Nb(m s p r e Z:V):dO "reached" Z (kR m s p r e)=kR m s p Z e:=rfl
theorem E3(m s p r e Z:V):dO "stopped" Z (kR m s p r e)=kR m s p r Z:=rfl
theorem OY(m s p r e:V)(hx:(["model","states","pending","reached","stopped"]:List Str).contains x=false):(kR m s p r e).lookup x=Z7:=by
 have z:∀k∈(["model","states","pending","reached","stopped"]:List Str),(x==k)=false:=fun k hk=>beq_eq_false_iff_ne.mpr fun e=>by
  rw[e,rj.mpr hk]at hx
  cases hx
 unfold kR;rw[eA (z _ #[5]),eA (z _ #[5]),eA (z _ #[5]),eA (z _ #[5]),eA (z _ #[5])];rfl
def qU(CM:ae)(Ms:List MD)(H:Hp)(m:ae):Prop:=∃(dx Z:ae) (fs:List (Str×V)),H m=Z8 (.ins CM dx fs)/\fs.lookup ("machines":Str)=Z8 (.ref Z)/\Gu (Ms.length:Int) H Z Ms
theorem qU.same(s:bj H H')(h:qU CM Ms H m):qU CM Ms H' m:=by
 obtain⟨dx,Y,fs,h1,h2,Z⟩:=h;exact{dx,Y,fs,s _ _ h1,h2,Z.same s}
abbrev StA(CS:ae)(F:Hp):ae->Sta->Prop:=fun a s=>jT CS F a s.bx s.qu s.dr s.se
structure nV(CC CS:ae)(Ms:List MD)(Hb:Hp)(ex:Ex)(G:Hp)(co m sl pl:ae)(r:RS):Prop where
 ok:ROk Ms.length r
 sm:∀b o,Hb b=Z8 o->b≠co/\b≠sl/\b≠pl/\G b=Z8 o
 i1:co∈ex
 i2:sl∈ex
 i3:pl∈ex
 n1:co≠sl
 n2:co≠pl
 n3:sl≠pl
 hc:∃dx rv sv,G co=Z8 (.ins CC dx (kR (.ref m) (.ref sl) (.ref pl) rv sv))/\M5 (Hid ex G) rv r.re/\Na (Hid ex G) sv r.sp
 hs:∃ss:List ae,G sl=Z8 (.lst (ss.map V.ref))/\aN (StA CS (Hid ex G)) ss r.sts
 hp:∃ps,G pl=Z8 (.lst ps)/\aN (iW (Hid ex G)) ps r.pd
 wk:∀(i:Nat) (M:MD) (s:Sta),Ms[i]?=Z8 M->r.sts[i]?=Z8 s->qO M.bs M.qs s.w
 nt:∀a∈ex,∃o,G a=Z8 o/\∀xs,o≠.tup xs
theorem jT.same'(s:bj H H')(h:jT CS H st bx qu dr se):jT CS H' st bx qu dr se:=by
 obtain⟨dx,V,Y,U,h1,h2,Z,W⟩:=h;exact{dx,V,Y,U,s _ _ h1,s _ _ h2,s _ _ Z,W.same s}
section
variable{CC CS:ae}{Ms:List MD}{Hb G G':Hp}{ex:Ex}{co m sl pl:ae}{r:RS}
theorem nV.same(c:nV CC CS Ms Hb ex G co m sl pl r)(s:bj G G'):nV CC CS Ms Hb ex G' co m sl pl r:=by
 obtain⟨dx,W,M,h1,h2,Y⟩:=c.hc;obtain⟨V,U,J⟩:=c.hs;obtain⟨ps,O,Z⟩:=c.hp;have f:=fK (ex:=ex) s;exact⟨c.ok,fun b o e=>(c.sm b o e).imp id (zd id (zd id (s _ _))),c.i1,c.i2,c.i3,c.n1,c.n2,c.n3,{dx,W,M,s _ _ h1,h2.same f,Y.same f},{V,s _ _ U,Paired.mono (fun _ _ z=>jT.same' f z) J},{ps,s _ _ O,Paired.mono (fun _ _ z=>z.same f) Z},c.wk,fun a ha=>by
  obtain⟨o,e,n⟩:=c.nt a ha;exact{o,s _ _ e,n}⟩
theorem nV.more(c:nV CC CS Ms Hb ex G co m sl pl r)(n:G a=Z7)(J:∀xs,o≠.tup xs):nV CC CS Ms Hb (ex.add a) (upd G a o) co m sl pl r:=by
 obtain⟨dx,U,I,h1,h2,V⟩:=c.hc;obtain⟨O,Z,D⟩:=c.hs;obtain⟨ps,Y,W⟩:=c.hp;refine{c.ok,?_,Ex.more c.i1,Ex.more c.i2,Ex.more c.i3,c.n1,c.n2,c.n3,{dx,U,I,bh h1 (aJ h1 n),?_,?_},{O,bh Z (aJ Z n),?_},{ps,bh Y (aJ Y n),?_},c.wk,fun b hb=>?_}
 ·exact fun b o e=>(c.sm b o e).imp id (zd id (zd id fun z=>bh z (aJ z n)))
 ·rw[qT n];exact h2
 ·rw[qT n];exact V
 ·rw[qT n];exact D
 ·rw[qT n];exact W
 ·rcases Ex.or hb with z|z
  ·rw[z];exact⟨o,ak,J⟩
  ·obtain⟨o',e,M⟩:=c.nt b z;exact{o',bh e (aJ e n),M}
theorem nV.less(c:nV CC CS Ms Hb (ex.add a) G co m sl pl r)(a1:co≠a)(a2:sl≠a)(a3:pl≠a):nV CC CS Ms Hb ex G co m sl pl r:=by
 obtain⟨dx,W,M,h1,h2,Y⟩:=c.hc;obtain⟨V,U,J⟩:=c.hs;obtain⟨ps,O,Z⟩:=c.hp;have f:bj (Hid (ex.add a) G) (Hid ex G):=BD;have out:∀{b:ae},b∈ex.add a->b≠a->b∈ex:=fun m n=>(Ex.or m).elim (fun z=>absurd z n) id;exact{c.ok,c.sm,out c.i1 a1,out c.i2 a2,out c.i3 a3,c.n1,c.n2,c.n3,{dx,W,M,h1,h2.same f,Y.same f},{V,U,Paired.mono (fun _ _ z=>jT.same' f z) J},{ps,O,Paired.mono (fun _ _ z=>z.same f) Z},c.wk,fun b hb=>c.nt b (Ex.more hb)}
theorem nV.upd(c:nV CC CS Ms Hb ex G co m sl pl r)(ha:a∈ex)(ab:Hb a=Z7)(a1:co≠a)(a2:sl≠a)(a3:pl≠a)(J:∀xs,o≠.tup xs):nV CC CS Ms Hb ex (L2.upd G a o) co m sl pl r:=by
 obtain⟨dx,W,I,h1,h2,Y⟩:=c.hc;obtain⟨V,U,D⟩:=c.hs;obtain⟨ps,O,Z⟩:=c.hp;refine{c.ok,?_,c.i1,c.i2,c.i3,c.n1,c.n2,c.n3,{dx,W,I,bh h1 a1,?_,?_},{V,bh U a2,?_},{ps,bh O a3,?_},c.wk,fun b hb=>?_}
 ·exact fun b o e=>(c.sm b o e).imp id (zd id (zd id fun z=>bh z (aJ e ab)))
 ·rw[jv ha];exact h2
 ·rw[jv ha];exact Y
 ·rw[jv ha];exact D
 ·rw[jv ha];exact Z
 ·by_cases z:b=a
  ·rw[z];exact⟨o,ak,J⟩
  ·obtain⟨o',e,M⟩:=c.nt b hb;exact{o',bh e z,M}
end
theorem Paired.snoc_inv{α Y:Type}{R:α->Y->Prop}:∀{ys:List Y} {xs:List α} {y:Y},aN R xs (ys++[y])->∃Z x,xs=Z++[x]/\aN R Z ys/\R x y
 | [],xs,y,p=>by
  cases p with
  |cons a b=>
   cases b;exact{[],_,Z9,.nil,a}
 |z::ys,xs,y,p=>by
  cases p with
  |cons a b=>
   obtain⟨Z,x,e,W,r⟩:=Paired.snoc_inv (ys:=ys) b;exact{_::Z,x,by rw[e];rfl,.cons a W,r}
theorem gC{α Z:Type}{R:α->Z->Prop}:∀{xs:List α} {ys:List Z} {i:Nat} {y:Z},aN R xs ys->ys[i]?=Z8 y->∃x,xs[i]?=Z8 x/\R x y
 |_,_,i,y,.nil,h=>by simp at h
 |_,_,0,y,.cons a b,h=>by
  simp at h;subst h;exact{_,Z9,a}
 |_,_,i+1,y,.cons a b,h=>by
  obtain⟨x,h1,h2⟩:=gC (i:=i) (y:=y) b (by simpa using h);exact{x,by simpa using h1,h2}
theorem Paired.set{α Z:Type}{R:α->Z->Prop}:∀{xs:List α} {ys:List Z},aN R xs ys->∀(i:Nat) {x:α} {y:Z},R x y->aN R (xs.set i x) (ys.set i y)
 |_,_,.nil,i,x,y,h=>.nil
 |_,_,.cons a b,0,x,y,h=>.cons h b
 |_,_,.cons a b,i+1,x,y,h=>.cons a (Paired.set b i h)
theorem Gw{α O:Type}{f:α->O}{xs ys:List O}(p:xs.Perm ys):∀us:List α,us.map f=ys->∃Z:List α,Z.Perm us/\Z.map f=xs:=by
 induction p with
 |nil=>
  intro us e;have:us=[]:=List.map_eq_nil_iff.mp e;subst this;exact{[],kn _,Z9}
 |cons x _ D=>
  intro us e
  cases us with
  |nil=>cases e
  |cons u us=>
   rw[bK]at e;obtain⟨Y,U⟩:=rp e;obtain⟨Z,I,M⟩:=D us U;exact{u::Z,I.cons u,by rw[bK,M,Y]}
 |swap x y l=>
  intro us e
  match us,e with
  |a::b::r,e=>
   rw[bK,bK]at e;obtain⟨Y,e⟩:=rp e;obtain⟨U,e3⟩:=rp e;exact{b::a::r,List.Perm.swap _ _ _,by rw[bK,bK,Y,U,e3]}
 |trans _ _ W V=>
  intro us e;obtain⟨u1,J,z⟩:=V us e;obtain⟨u2,p2,t⟩:=W u1 z;exact{u2,p2.trans J,t}
theorem vp{α Z:Type}{R:α->Z->Prop}:∀{us:List (α×Z)},(∀u∈us,R u.1 u.2)->aN R (us.map (·.1)) (us.map (·.2))
 | [],_=>.nil
 |u::us,h=>.cons (h u aB) (vp fun v hv=>h v (aj _ hv))
theorem xC{α Z:Type}{R:α->Z->Prop}{xs:List α}{ys:List Z}(p:aN R xs ys):(xs.zip ys).map (·.1)=xs/\(xs.zip ys).map (·.2)=ys/\∀u∈xs.zip ys,R u.1 u.2:=by
 induction p with
 |nil=>exact{Z9,Z9,fun u hu=>by cases hu}
 |cons a _ W=>
  obtain⟨h1,h2,Y⟩:=W;refine{by rw[gf,bK,h1],by rw[gf,bK,h2],fun u hu=>?_};rw[gf]at hu
  rcases aq.mp hu with z|z
  ·rw[z];exact a
  ·exact Y u z
theorem Dy(h:iW G v e):Da G (v,e.key):=by
 obtain⟨t,k,Z,h1,h2⟩:=h;exact{t,k,_,Z,h1,h2}
theorem ze{us:List (V×Ev)}(hu:∀u∈us,iW F u.1 u.2)(p:zs.Perm (us.map fun u=>(u.1,u.2.key)))(f:qS zs)(q:(us.map (·.2)).Perm es)(J:om es):∃ps,zs.map (·.1)=ps/\aN (iW F) ps es:=by
 obtain⟨Z,O,U⟩:=Gw p us rfl;have h:=vp (R:=iW F) (us:=Z) fun u Y=>hu u (O.mem_iff.mp Y);have W:om (Z.map (·.2)):=by
  rw[<- U]at f;have M:=kW.mp f;exact kW.mpr M
 rw[zc W J ((O.map _).trans q)]at h;refine{Z.map (·.1),?_,h};rw[<- U,dC];rfl
theorem Nc(s:bj F G)(hp:G pl=Z8 (.lst ps))(I:aN (iW F) ps pd)(D:om pd)(hv:iW F v e)(nw:∀y∈pd,e.key≠y.key)(len:pd.length<=10000000)
  (k:∀Z,aN (iW F) Z (xx e pd)->Q .non (upd G pl (.lst Z))):EZ [.ref pl,v] G Q E:=by
 obtain⟨z1,O,g⟩:=xC I;have ln:=aL I;obtain⟨t,kk,rfl,h1,h2⟩:=id hv;refine{pl,t,(ps.zip pd).map fun u=>(u.1,u.2.key),e.key,Z9,?_,fun z hz=>?_,?_,(Dy hv).imp fun a ⟨k,W,Y,M,e3⟩=>{k,W,Y,s _ _ M,s _ _ e3},?_,?_,fun bq p f=>?_}
 ·rw[dC];have:((fun x:V×List Int=>x.1) ∘ fun u:V×Ev=>(u.1,u.2.key))=(fun u:V×Ev=>u.1):=rfl;rw[this,z1];exact hp
 ·obtain⟨u,hu,rfl⟩:=cB.mp hz;obtain⟨a,k,W,Y,M,e3⟩:=Dy (g u hu);exact{a,k,W,Y,s _ _ M,s _ _ e3}
 ·refine kW.mpr ?_;have J:=D;rw[<- O]at J;exact kW.mp J
 ·intro m;obtain⟨x,hx,ex⟩:=cB.mp m;obtain⟨u,hu,rfl⟩:=cB.mp hx;refine nw u.2 ?_ ex.symm;rw[<- O];exact sY hu
 ·rw[ah,qN];omega
 ·have hA:∀u∈(V.ref t,e)::ps.zip pd,iW F u.1 u.2:=fun u hu=>by
   rcases aq.mp hu with z|z
   ·rw[z];exact hv
   ·exact g u z
  have hB:(((V.ref t,e)::ps.zip pd).map (·.2)).Perm (xx e pd):=by
   rw[bK,O];exact (oY e pd).symm
  obtain⟨Z,e',U⟩:=ze hA p f hB (uO D nw);rw[e'];exact k Z U
section
variable{P:aI}{w:aY}{K:ag}{mg:Str->Option af}{base:cb}{f:ae}{fd:bY}
theorem J4:bM ["self"] ["self"] (aR pC):=e7
theorem Gz(F:Fun K "word" "Great.word" pC f fd):qH P w K mg base CX0 1 f fd ["self"] (qR "great"):=by
 refine F.okH J4 #[3] (fun Z A outer s H vs Q E h=>?_)
 ·obtain⟨a,rfl,_⟩:=h;rfl
 obtain⟨a,rfl,q⟩:=h;exact{_,aF (bQ bX),q}
theorem Nd:bM ["self"] ["self"] (aR qI):=e7
theorem J6(F:Fun K "word" "Full.word" qI f fd):qH P w K mg base CX0 1 f fd ["self"] (qR "full"):=by
 refine F.okH Nd #[3] (fun Z A outer s H vs Q E h=>?_)
 ·obtain⟨a,rfl,_⟩:=h;rfl
 obtain⟨a,rfl,q⟩:=h;exact{_,aF (bQ bX),q}
theorem Q3:bM ["self"] ["self"] (aR sO):=e7
theorem Nf(F:Fun K "word" "Dry.word" sO f fd):qH P w K mg base CX0 1 f fd ["self"] (qR "dry"):=by
 refine F.okH Q3 #[3] (fun Z A outer s H vs Q E h=>?_)
 ·obtain⟨a,rfl,_⟩:=h;rfl
 obtain⟨a,rfl,q⟩:=h;exact{_,aF (bQ bX),q}
theorem Ng:bM ["self"] ["self"] (aR qJ):=e7
theorem Ka(F:Fun K "word" "Span.word" qJ f fd):qH P w K mg base CX0 1 f fd ["self"] (qR "span"):=by
 refine F.okH Ng #[3] (fun Z A outer s H vs Q E h=>?_)
 ·obtain⟨a,rfl,_⟩:=h;rfl
 obtain⟨a,rfl,q⟩:=h;exact{_,aF (bQ bX),q}
theorem Nh:bM ["self"] ["self"] (aR qK):=e7
theorem Kb(F:Fun K "word" "Late.word" qK f fd):qH P w K mg base CX0 1 f fd ["self"] (qR "late"):=by
 refine F.okH Nh #[3] (fun Z A outer s H vs Q E h=>?_)
 ·obtain⟨a,rfl,_⟩:=h;rfl
 obtain⟨a,rfl,q⟩:=h;exact{_,aF (bQ bX),q}
end
def E4{α:Type}(a b c d e f:α):Flt->α
 |.nought=>a
 |.great=>b
 |.full=>c
 |.dry=>d
 |.span=>e
 |.late=>f
theorem gE.hid(n:∀a∈Z.map (·.2),a∉ex)(q:gE G Z qu):gE (Hid ex G) Z qu:=
 gE.keep (L:={0,0,0,0,0,0,0,0,0,0,.non,.non,Z}) (fun a u e m=>by rw[gp (n a m)];exact e) (fun _ h=>h) q
theorem iW.hid(Z:∀a∈ex,∃o,G a=Z8 o/\∀xs,o≠.tup xs)(h:iW G v e):iW (Hid ex G) v e:=by
 obtain⟨t,k,Y,h1,h2⟩:=h;exact{t,k,Y,jw Z h1,jw Z h2}
theorem Dg.sta(g:Dg CD CS bs qs H0 G L h ds w)(n:∀a∈L.all,a∉ex):jT CS (Hid ex G) L.st w.bx w.qu w.dr w.se:=
 {L.dxs,L.bd,L.qd,L.qa,by rw[gp (n _ OM)];exact g.hst,by rw[gp (n _ ON)];exact g.hb,by rw[gp (n _ in_qd)];exact g.hq,g.hl.hid fun a m=>n a (in_l m)}
theorem JR.told(d:JR CD CS bs qs H G L h ds w t M wl O U D)(I:∀a∈ex,∃o,H a=Z8 o/\∀xs,o≠.tup xs) :
  ∃vs,G L.od=Z8 (.lst vs)/\L.od∉ex/\aN (iW (Hid ex G)) vs w.out/\RcIn (Hid ex G) (.ref M) {h,wrB bs w,wrQ qs w,w.out}:=by
 have Z:∀a∈ex,∃o,G a=Z8 o/\∀xs,o≠.tup xs:=fun a ha=>by
  obtain⟨o,e,n⟩:=I a ha;exact{o,d.sm _ _ e,n}
 have nx:∀{a},H a=Z7->a∉ex:=fun {a} z m=>by
  obtain⟨o,e,_⟩:=I a m;rw[z]at e
  cases e
 obtain⟨H0,s0,g⟩:=d.dg;obtain⟨vs,J,o2⟩:=g.ho;obtain⟨k,h1,h2⟩:=d.hrc;have Y:L.od∉ex:=nx (none_of s0 (g.fr _ JA));have W:=Paired.mono (fun _ _ z=>iW.hid Z z) o2;refine{vs,J,Y,W,M,k,wl,L.od,O,U,vs,D,Z9,jw Z h1,jw Z (d.sm _ _ h2),?_,Paired.mono (fun _ _ z=>z.keep fun a xs e=>jw Z e) d.wr.b,Paired.mono (fun _ _ z=>z.keep fun a xs e=>jw Z e) d.wr.q,d.wr.l.hid fun a m=>nx (d.wr.fr a (aj _ m)),?_,W}
 ·rw[gp (nx (d.wr.fr _ aB))];exact d.wr.hl
 ·rw[gp Y];exact J
theorem qO.clean(k:qO bs qs w):qO bs qs (w0 w.bx w.qu w.dr w.se):=
 {k.kb,k.kq,k.nb,k.nq,k.wb,k.wq,iY,(fun x hx=>by cases hx),iY,(fun x hx=>by cases hx),(fun x hx=>by cases hx),k.fw}
theorem wB{P:Ds->Prop}(h:∀q∈hs,P q.2)(n:P .nil)(Z:Str):P (j5 hs Z):=by
 unfold j5
 cases e:hs.lookup Z with
 |none=>exact n
 |some d=>exact h _ (qP e)
def ToldR(F:Hp)(v:V):List Rec->Prop
 | []=>v=.non
 |q::_=>RcIn F v q
def Oth(ex:Ex)(co sl pl:ae)(H G:Hp):Prop:=∀a,a≠co->a≠sl->a≠pl->∀o,H a=Z8 o->G a=Z8 o
theorem Dz{Hb H G:Hp}(s:∀b o,Hb b=Z8 o->b≠co/\b≠sl/\b≠pl/\H b=Z8 o)(V:∀a,a≠co->a≠sl->a≠pl->∀o,H a=Z8 o->G a=Z8 o):∀b o,Hb b=Z8 o->b≠co/\b≠sl/\b≠pl/\G b=Z8 o:=fun b o e=>by
 obtain⟨Z,W,Y,z⟩:=s b o e;exact{Z,W,Y,V b Z W Y o z}
theorem bN.some{ι:Type}{sp:ι->Sp}(F:∀i,bN P w K mg base CX k f fd ps (sp i)) :
  bN P w K mg base CX k f fd ps (fun vs H Q E=>∃i,sp i vs H Q E):=
 {fun vs H Q E ⟨i,q⟩=>(F i).len vs H Q E q,fun A outer s H args us vs Q E Z Y hb hv ⟨i,hs⟩=>(F i).run A outer s H args us vs Q E Z Y hb hv hs}
theorem Ni(K:ag)(Z:X.K=K)(ha:PE X o ta)(hv:PE X value tv)(hs:mE value (Z8 (.Attribute o f pos')) pos.line X.env=pure false):PS X (.Assign [.Attribute o f pos'] value pos) (sFld K ta tv f):=by
 rw[<- Z];exact gD ha hv hs
theorem Kc(h:Q [] H):Cr σ H Q:=h
theorem DG(h:D.nx σ H):lV D σ H:=h
theorem GG(xs:List Ev)(x:Ev)(pd:List Ev):sP (xs++[x]) pd=xx x (sP xs pd):=by
 unfold sP;rw[jL];rfl
section
variable{P:aI}{w:aY}{K:ag}{mg:Str->Option af}{base:cb}{f fPu fDn CC CM CS CD CF:ae}{fd fdPu fdDn:bY}{cf fW:Flt->ae}{fdW:Flt->bY}
seal PS PSs PE PA PT PW PI PG PGs PC
inductive OZ(CC CS:ae)(vs:List V)(H:Hp)(Q:VK)(_e:XK):Prop where
 |mk(Ms:List MD)(Hb:Hp)(ex:Ex)(co m sl pl:ae)(r:RS)(left:Int)(_:vs=[.ref co,.int left])(_:nV CC CS Ms Hb ex H co m sl pl r)(_:∀v G,bj H G->((oX r left=Z7/\v=.non)\/∃e,oX r left=Z8 e/\ym (Hid ex G) v e)->Q v G):OZ CC CS vs H Q _e
def spEd(CC CS:ae):Sp:=fun vs H Q Z=>OZ CC CS vs H Q Z
theorem scEd:bM ["self","left"] ["self","left"] (aR gH):=e7
theorem ok_ed(M:Mt K CC "ending_due" "Course.ending_due" gH ["self","left"] f fd)(T:CoT K mg CC):bN P w K mg base CX0 1 f fd ["self","left"] (spEd CC CS):=by
 refine M.F.ok scEd #[3] (fun D A outer s H vs Q E hr h=>?_)
 ·obtain⟨Ms,Hb,ex,co,m,sl,pl,r,left,rfl,_⟩:=h;rfl
 obtain⟨Ms,Hb,ex,co,m,sl,pl,r,left,rfl,c,q⟩:=h;refine⟨_,ar (cR (qq (Ei (cX (pv 0) rfl))) (aF (bQ (cX (pv 0) rfl))) b9)
  (ar (cR (HK (wV (cX (pv 0) rfl) (fun _=>rfl))) (aF (bQ (dX (av bX ao)))) b9)
  (ar (cR (bO op_le (pv 1) aA) (aF (bQ (dX (av bX ao)))) b9)
  (aF (bQ wM)))),?_⟩
 dsimp only[cxA,cxB];obtain⟨dx,rv,J,h1,h2,Z⟩:=c.hc;obtain⟨ps,g,I⟩:=c.hp;have O:=aL I;have W:∀{G:Hp},bj H G->∀a∈ex,∃o,G a=Z8 o/\∀xs,o≠.tup xs:=fun s a ha=>by
  obtain⟨o,e,n⟩:=c.nt a ha;exact{o,s _ _ e,n}
 cases hsp:r.sp with
 |some st=>
  rw[hsp]at Z;have U:oX r left=Z8 (.stp st):=by
   unfold oX;rw[hsp]
  obtain⟨t,rfl⟩:∃t,J=.ref t:=by
   cases st with
   |fin h=>
    obtain⟨t,_,e,_⟩:=Z;exact⟨t,e⟩
   |flt e h=>
    obtain⟨t,_,e,_⟩:=Z;exact⟨t,e⟩
  refine{_,Z9,co,CC,dx,_,_,Z9,h1,T.cl,T.nE,QY _ _ _ _ _,_,Z9,iU ?_};exact{_,Z9,co,CC,dx,_,_,Z9,h1,T.cl,T.nE,QY _ _ _ _ _,q _ _ (bj.refl _) (.inr {_,U,Z})}
 |none=>
  rw[hsp]at Z;have Z:J=.non:=Z;subst Z;refine{_,Z9,co,CC,dx,_,_,Z9,h1,T.cl,T.nE,QY _ _ _ _ _,_,Z9,gz ?_};refine{_,Z9,co,CC,dx,_,_,Z9,h1,T.cl,T.nP,QX _ _ _ _ _,_,.inl {_,SqL.of g,Z9},?_}
  cases ps with
  |nil=>
   have V:r.pd=[]:=List.eq_nil_of_length_eq_zero O.symm;refine iU {yl,fun t ht=>q _ _ (aG ht _) (.inr {.empty,?_,t,Z9,jw (W (aG ht _)) ak})};unfold oX;rw[hsp,V];rfl
  |cons x xs=>
   have V:r.pd.isEmpty=false:=by
    cases z:r.pd with
    |nil=>
     rw[z]at O
     cases O
    |cons _ _=>rfl
   refine gz ?_;refine{_,Z9,_,_,Z9,Z9,_,Z9,gA (fun Y=>?_) (fun Y=>?_)}
   ·have Y:=of_decide_eq_true Y;refine{yl,fun t ht=>q _ _ (aG ht _) (.inr {.cut,?_,t,Z9,jw (W (aG ht _)) ak})};unfold oX;rw[hsp];dsimp only;rw[V,if_neg (by decide),if_pos Y]
   ·have Y:¬left<=0:=fun z=>Y (decide_eq_true z);refine q _ _ (bj.refl _) (.inl {?_,Z9});unfold oX;rw[hsp];dsimp only;rw[V,if_neg (by decide),if_neg Y]
inductive Kd(CC CM CS:ae)(vs:List V)(H:Hp)(Q:VK)(_e:XK):Prop where
 |mk(Ms:List MD)(Hb:Hp)(ex:Ex)(co m sl pl:ae)(r:RS)(_:vs=[.ref co])(_:qU CM Ms Hb m)(_:nV CC CS Ms Hb ex H co m sl pl r)(_:r.sp=Z7)(_:r.pd≠[])(_:r.pd.length<=9000000)(_:∀v G,nV CC CS Ms Hb ex G co m sl pl (iK Ms r).1->bj (Hid ex H) (Hid ex G)->Oth ex co sl pl H G->ToldR (Hid ex G) v (iK Ms r).2->Q v G):Kd CC CM CS vs H Q _e
def O0(CC CM CS:ae):Sp:=fun vs H Q Z=>Kd CC CM CS vs H Q Z
abbrev nD1:List Str:=["self","happening","at","told","fault","sent"]
theorem GH:bM nD1 ["self"] (aR jd):=e7
theorem Ke(h:j<n):ixN n (j:Int)=Z8 j:=by
 unfold ixN;rw[if_pos #[2],if_pos #[2]];simp
theorem Q4(M:Mt K CC "do_one" "Course.do_one" jd ["self"] f fd)(ge:Df K mg "put_in" tQ ["falling","thing"] fPu fdPu)(gv:bN P w K mg base CX0 2 fPu fdPu ["falling","thing"] EZ)
  (jp:Df K mg "done" z9 ["model","state","happening"] fDn fdDn) (ho:∀bq:List Str×List Str,bN P w K mg base (CXo P w) 37 fDn fdDn ["model","state","happening"] (JS cf CM CD CS bq.1 bq.2 5))
  (mW:∀e,zG K (cf e) "word" (fW e)) (bW:∀e,Binds K (fdW e) ["self"] []) (GW:∀e,qH P w K mg base CX0 1 (fW e) (fdW e) ["self"] (qR (rQ e))) (XN:∀e,yh K (cf e)) (mF:mg "Fault"=Z8 (.ref CF)) (hx:∀e,dE K (.ref (cf e)) (.ref CF)=Z8 true) (T:CoT K mg CC) (TM:MdT K mg CM CS) :
  bN P w K mg base CX0 38 f fd ["self"] (O0 CC CM CS):=by
 have GD:=bN.some ho;refine M.F.ok GH #[3] (fun ez A outer s H vs Q E hr h=>?_)
 ·obtain⟨Ms,Hb,ex,co,m,sl,pl,r,rfl,_⟩:=h;rfl
 obtain⟨Ms,Hb,ex,co,m,sl,pl,r,rfl,hM,c,gh,hd,eL,k⟩:=h;have r1:dJ 1 _:=hr.mono (by decide);have r2:dJ 2 _:=hr.mono (by decide);obtain⟨dx,rv,sv,hL,fq,kc⟩:=c.hc;obtain⟨ss,fZ,jb⟩:=c.hs;obtain⟨ps,hE,hq⟩:=c.hp
 -- the last one
 obtain⟨h,hl⟩:∃h,r.pd.getLast?=Z8 h:=by
  cases e:r.pd.getLast? with
  |none=>exact absurd (Am.mp e) hd
  |some h=>exact⟨h,Z9⟩
 have ky:=xy hl;have fw:h∈r.pd:=by
  rw[ky];exact bL _ (aK.mpr rfl)
 have eo:=c.ok.ev h fw;obtain⟨j,hj⟩:∃j:Nat,h.to=(j:Int):={h.to.toNat,by have:=eo.to0;omega};have jl:j<Ms.length:=by have:=eo.to1;omega
 have ej:h.to.toNat=j:=by omega
 have js:j<r.sts.length:=by rw[c.ok.len];exact jl
 obtain⟨Mm,kw⟩:∃M,Ms[j]?=Z8 M:={_,aw jl};obtain⟨st0,lh⟩:∃s,r.sts[j]?=Z8 s:={_,aw js};have d:Did Ms r h Mm st0:={ky,by rw[ej];exact kw,by rw[ej];exact lh};obtain⟨Z,v,hX,kq,hv⟩:∃Z v,ps=Z++[v]/\aN (iW (Hid ex H)) Z r.pd.dropLast/\iW (Hid ex H) v h:=by
  rw[ky]at hq;exact Paired.snoc_inv hq
 obtain⟨th,Y,rfl,gn,hO⟩:=id hv
 -- the aS and the machine
 obtain⟨hb,ml,fs,hm,fG,xs,ga,fy⟩:=id hM;obtain⟨mv,hh,ih⟩:=gC fy kw;obtain⟨sta,kb,gS⟩:=gC jb lh;have dk:=wB (P:=fun D=>D.toOk (Ms.length:Int)/\D.deep<=4/\D.size<=3*ddz 3) ih.hk {by simp only[Ds.toOk],by simp only[Ds.deep];omega,by simp only[Ds.size];omega} h.sg;have dz:3*ddz 3<=5000:=by decide
 refine⟨_,ar (pst 1 GH (Qd bV AV AW Qe (cX (pv 0) rfl)))
  (ar (pst 2 GH (bR cv (pv 1) aA))
  (ar (Mo (fun C σ G=>∃(e:Flt) (u3 u4 u5:Option V),C=cf e/\σ=[Z8 (.ref co),Z8 (.ref th),Z8 (.int h.to),u3,u4,u5]/\doS h Mm.ds (j5 Mm.hs h.sg) st0.w=.error e/\bj (upd H pl (.lst Z)) G)
    (fun pins=>aF (pst 3 GH (IG GD hr #[7] jp.m jp.F.kp jp.b CQ (av (iC K #[7] (pv 0) #[7]) (av (bR (JV K #[7]) (iC K #[7] (pv 0) #[7]) (pv 2)) (av (pv 1) ao))))))
    (Qo 4 #[7] mF GH.nd rfl rfl (fun ea=>ar (Ni K #[7] (pv 0) (dX (av bX (av (Gf (ι:=Flt) (C:=cf) (fm:=fW) (fd:=fdW) (sp:=fun e=>qR (rQ e)) (pv 4) XN mW GW ⟨Z9,r1.dp,r1.un⟩ bW jV) (av (bR (mB K #[7]) (pv 1) aA) ao)))) rfl) (aF (bQ wM))) L7)
    b9)
  (ar (rZ (bR cv (pv 3) aA) (wR (cX (pv 0) rfl) (pv 2) qC))
  (ar (gD (pv 0) (bR cv (pv 1) aA) rfl)
  (ar (iE cw rfl (hV (bR cv (bR cv (pv 3) aA) aA)) (pgn 5 GH) (aF (eU (pcl gv r2 ge (av (cX (pv 0) rfl) (av (pv 5) ao))))))
  (ar (cR (wN (bR cv (pv 3) aA)) (aF (gD (pv 0) (dX (av bX (av (bR cv (pv 1) aA) ao))) rfl)) b9)
  (aF (bQ (bR cv (pv 3) aA))))))))),?_⟩
 dsimp only[cxA,cxB];subst hX
 -- it is taken out
 refine cJ (cV ?_);refine{_,Z9,co,CC,dx,_,_,Z9,hL,T.cl,T.nP,QX _ _ _ _ _,.inl {Z9,_,SqL.of hE},pl,_,.ref th,Z9,Z9,hE,?_,?_}
 ·rw[au];show (Z++[V.ref th])[Z.length+1-1]?=_;rw[IQ,dh (ay _),vH];rfl
 rw[E1];refine bU ?_;dsimp only;have F1:Hid ex (upd H pl (.lst Z))=Hid ex H:=jv c.i3;have li:upd H pl (.lst Z) co=Z8 (.ins CC dx (kR (.ref m) (.ref sl) (.ref pl) rv sv)):=bh hL c.n2;have la:upd H pl (.lst Z) sl=Z8 (.lst (ss.map V.ref)):=bh fZ c.n3;have kv:upd H pl (.lst Z) pl=Z8 (.lst Z):=ak;have lk:∀a∈ex,∃o,upd H pl (.lst Z) a=Z8 o/\∀xs,o≠.tup xs:=fun a ha=>by
  by_cases z:a=pl
  ·rw[z];exact{_,ak,fun xs z=>by cases z}
  ·obtain⟨o,e,n⟩:=c.nt a ha;exact{o,bh e z,n}
 have lj:Oth ex co sl pl H (upd H pl (.lst Z)):=fun a _ _ z o e=>bh e z;revert F1 li la kv lk lj;generalize upd H pl (.lst Z)=G1;intro F1 li la kv lk lj;have ja:bj (Hid ex H) G1:=by
  rw[<- F1];exact gF
 have ix:bj Hb G1:=fun b o e=>by
  obtain⟨t,n2,n3,z⟩:=c.sm b o e;exact lj b t n2 n3 o z
 have lm:=ja _ _ gn;refine cJ (cV ?_);refine{_,Z9,th,_,_,_,Z9,Z9,SqT.of lm,Z9,?_};refine bU ?_;dsimp only;refine cJ ?_;refine{?_,fun C eH W hl ht=>?_}
 ·refine cV ?_;have gg:atI (ss.map V.ref) h.to=Z8 (.ref sta):=by
   rw[hj];exact iO (by rw[bT,kb];rfl)
  refine{_,Z9,co,CC,dx,_,_,Z9,li,T.cl,T.nM,co_m _ _ _ _ _,_,Z9,co,CC,dx,_,_,Z9,li,T.cl,T.nS,QW _ _ _ _ _,_,Z9,sl,_,_,_,Z9,Z9,SqL.of la,gg,_,Z9,?_};refine{(Mm.bs,Mm.qs),m,hb,ml,sta,fs,xs,.ref th,mv,h,Mm.ds,Mm.hs,st0.bx,st0.qu,st0.dr,st0.se,Z9,ix _ _ hm,fG,ix _ _ ga,hv.same ja,by rw[hj];exact iO hh,(ih.same ix).ma,jT.same' ja gS,c.wk j Mm st0 kw lh,eo.wt,eo.wa,eo.wb,by omega,by omega,?_}
  cases ew:doS h Mm.ds (j5 Mm.hs h.sg) (w0 st0.bx st0.qu st0.dr st0.se) with
  |error e=>
   exact fun W s6=>{_,Z9,e,_,_,_,Z9,Z9,ew,s6}
  |ok I=>
   intro W L t6 rc wl eu ey qa Dn;have ku:doS h Mm.ds (j5 Mm.hs h.sg) st0.w=.ok I:=ew;rw[wA d ku]at k;have N:=m8 (m:=(Ms.length:Int)) _ _ _ dk.1 ku;obtain⟨hT,hS,em⟩:=BC c.ok d N;obtain⟨H0,s0,g⟩:=Dn.dg;have ln:=J1 c.ok d ku N g.ok.wo;rw[wA d ku]at ln;obtain⟨vs,fe,hA,hI,ki⟩:=Dn.told lk;have lp:=Dn.sm;obtain⟨kk,fa,_⟩:=Dn.hrc;have nx:∀a∈L.all,a∉ex:=fun a ha z=>by
    obtain⟨o,e,_⟩:=lk a z;have:=g.fr a ha;rw[s0 _ _ e]at this
    cases this
   have hg:=g.sta nx;have f6:bj (Hid ex H) (Hid ex W):=by
    rw[<- F1];exact fK lp
   have et:bj (Hid ex W) W:=gF;have hu:=lp _ _ li;have hR:=lp _ _ la;have fz:=lp _ _ kv;have gd:Oth ex co sl pl H W:=fun a t n2 n3 o e=>lp _ _ (lj a t n2 n3 o e);have kB:∀a∈ex,∃o,W a=Z8 o/\∀xs,o≠.tup xs:=fun a ha=>by
    obtain⟨o,e,n⟩:=lk a ha;exact{o,lp _ _ e,n}
   refine bU ?_;refine DG ?_;dsimp only;refine DG ?_;dsimp only
   -- the new state
   have gr:j<(ss.map V.ref).length:=(aC.mp (show (ss.map V.ref)[j]?=Z8 (.ref sta) by rw[bT,kb];rfl)).1;refine cJ (cV ?_);refine{_,Z9,t6,_,_,_,Z9,Z9,SqT.of Dn.ht,Z9,?_};refine{_,Z9,co,CC,dx,_,_,Z9,hu,T.cl,T.nS,QW _ _ _ _ _,_,Z9,sl,_,_,j,Z9,Z9,hR,by rw[hj];exact Ke gr,?_}
   -- its key is reached
   have hD:upd W sl (.lst ((ss.map V.ref).set j (.ref L.st))) th=Z8 (.tup [.ref Y,.int h.to,.str h.sg,.int h.a,.int h.b]):=bh (lp _ _ lm) (kg (lp _ _ lm) hR (by intro z;cases z));have gw:upd W sl (.lst ((ss.map V.ref).set j (.ref L.st))) co=Z8 (.ins CC dx (kR (.ref m) (.ref sl) (.ref pl) rv sv)):=bh hu c.n1;refine cJ ?_;refine{_,Z9,th,_,_,_,Z9,Z9,SqT.of hD,Z9,_,Z9,co,CC,dx,_,Z9,gw,T.cl,T.nR,Dx _ _ _ _ _,?_};rw[Nb];have F8:Hid ex (upd (upd W sl (.lst ((ss.map V.ref).set j (.ref L.st)))) co (.ins CC dx (kR (.ref m) (.ref sl) (.ref pl) (.ref Y) sv)))=Hid ex W:=by
    rw[jv c.i1,jv c.i2]
   have kI:upd (upd W sl (.lst ((ss.map V.ref).set j (.ref L.st)))) co (.ins CC dx (kR (.ref m) (.ref sl) (.ref pl) (.ref Y) sv)) co=Z8 (.ins CC dx (kR (.ref m) (.ref sl) (.ref pl) (.ref Y) sv)):=ak;have kt:upd (upd W sl (.lst ((ss.map V.ref).set j (.ref L.st)))) co (.ins CC dx (kR (.ref m) (.ref sl) (.ref pl) (.ref Y) sv)) sl=Z8 (.lst ((ss.map V.ref).set j (.ref L.st))):=bh ak c.n1.symm;have im:upd (upd W sl (.lst ((ss.map V.ref).set j (.ref L.st)))) co (.ins CC dx (kR (.ref m) (.ref sl) (.ref pl) (.ref Y) sv)) pl=Z8 (.lst Z):=bh (bh fz c.n3.symm) c.n2.symm;have io:Oth ex co sl pl H (upd (upd W sl (.lst ((ss.map V.ref).set j (.ref L.st)))) co (.ins CC dx (kR (.ref m) (.ref sl) (.ref pl) (.ref Y) sv))):=fun a t n2 n3 o e=>bh (bh (gd a t n2 n3 o e) n2) t;have ii:∀a∈ex,∃o,upd (upd W sl (.lst ((ss.map V.ref).set j (.ref L.st)))) co (.ins CC dx (kR (.ref m) (.ref sl) (.ref pl) (.ref Y) sv)) a=Z8 o/\∀xs,o≠.tup xs:=fun a ha=>by
    by_cases z:a=co
    ·rw[z];exact{_,ak,fun xs z=>by cases z}
    ·by_cases y:a=sl
     ·rw[y];exact{_,kt,fun xs z=>by cases z}
     ·obtain⟨o,e,n⟩:=kB a ha;exact{o,bh (bh e y) z,n}
   revert F8 kI kt im io ii;generalize upd (upd W sl (.lst ((ss.map V.ref).set j (.ref L.st)))) co (.ins CC dx (kR (.ref m) (.ref sl) (.ref pl) (.ref Y) sv))=G8;intro F8 kI kt im io ii;have lc:bj (Hid ex W) G8:=by
    rw[<- F8];exact gF
   have kG:Hid ex W t6=Z8 (.tup [.ref L.st,.ref rc,.bl I.en]):=jw kB Dn.ht;have hF:Hid ex W rc=_:=jw kB fa;have ke:Hid ex W L.od=Z8 (.lst vs):=by
    rw[gp hA];exact fe
   have hB:Hid ex W th=_:=jw kB (lp _ _ lm);have ld:Hid ex W Y=Z8 (J3 h):=f6 _ _ hO
   -- what was sent is put in
   have hf:om r.pd.dropLast:=by
    have z:=c.ok.fall;rw[ky]at z;exact (uP z).1
   have hK:L.od≠pl:=fun z=>hA (by rw[z];exact c.i3);refine cJ ?_;refine⟨_,Z9,t6,_,_,_,Z9,Z9,SqT.of (lc _ _ kG),Z9,rc,_,_,_,Z9,Z9,SqT.of (lc _ _ hF),Z9,L.od,Z9,{_,SqL.of (lc _ _ ke)},kx (K:=K) (a:=L.od) (xs:=vs) (fun i σ G'=>∃(u4 u:Option V) (ps:List V),σ=[Z8 (.ref co),Z8 (.ref th),Z8 (.int h.to),Z8 (.ref t6),u4,u]/\G' pl=Z8 (.lst ps)/\aN (iW (Hid ex W)) ps (sP (I.out.take i) r.pd.dropLast)/\But pl G8 G')
    {_,_,Z,Z9,im,by rw[jW];exact Paired.mono (fun _ _ z=>z.same f6) kq,But.refl _ _} ?_ ?_ ?_⟩
   ·rintro i σ G' _ ⟨_,_,_,rfl,_,_,b⟩;exact SqL.of (b _ _ (lc _ _ ke) hK)
   ·rintro i x σ G' hi ⟨u4,u,ps,rfl,g1,g2,b⟩;obtain⟨e,he,fx⟩:=oV hI hi;have gt:bj (Hid ex W) G':=fun a o z=>b _ _ (lc _ _ z) fun y=>pP z (by rw[y];exact c.i3);have mem:e∈I.out:=bC he;have tk:I.out.take (i+1)=I.out.take i++[e]:=by
     rw[cm,he];rfl
    have fo:∀x∈I.out.take i,x.key≠e.key:=fun x hx=>by
     have pw:=hS;rw[<- ij (i+1) I.out,tk]at pw;exact (fh.mp (fh.mp pw).1).2.2 x hx e (aK.mpr rfl)
    have hC:om (sP (I.out.take i) r.pd.dropLast):=rn hf (fun x hx=>hT x (rR hx)) (hS.sublist (uZ _ _));refine{_,Z9,co,CC,dx,_,_,Z9,b _ _ kI c.n2,T.cl,T.nP,QX _ _ _ _ _,_,Z9,?_};refine Kc ?_;show EZ [V.ref pl,x] G' _ _;refine Nc (F:=Hid ex W) gt g1 g2 hC fx (fun y hy=>?_) ?_ fun gM hG=>?_
    ·rcases cj.mp ((jh _ _).mem_iff.mp hy) with z|z
     ·exact fun q=>fo y z q.symm
     ·exact hT e mem y z
    ·rw[(jh _ _).length_eq,au,lX,bD];obtain⟨new,e1,e2,_⟩:=N.ex;have e1:I.out=new:=e1;have:=dk.2.2;rw[e1];omega
    ·refine{_,_,gM,Z9,ak,?_,b.trans (But.upd pl _ _)};rw[tk,GG];exact hG
   rintro σ G9 ⟨u4,u,er,rfl,g1,g2,b⟩;have gl:vs.length=I.out.length:=aL hI;rw[gl,cu]at g2;have F9:bj (Hid ex W) (Hid ex G9):=by
    rw[<- F8];exact J2 fun a o e n=>b _ _ e fun y=>n (by rw[y];exact c.i3)
   have ka:bj (Hid ex W) G9:=F9.trans gF;have hP:=b _ _ kI c.n2;have il:=b _ _ kt c.n3;have kz:Oth ex co sl pl H G9:=fun a t n2 n3 o e=>b _ _ (io a t n2 n3 o e) n3;have hN:∀a∈ex,∃o,G9 a=Z8 o/\∀xs,o≠.tup xs:=fun a ha=>by
    by_cases z:a=pl
    ·rw[z];exact{_,g1,fun xs z=>by cases z}
    ·obtain⟨o,e,n⟩:=ii a ha;exact{o,b _ _ e z,n}
   have hY:∀(i:Nat) (M:MD) (s:Sta),Ms[i]?=Z8 M->(r.sts.set h.to.toNat ⟨I.bx,I.qu,I.dr,I.se⟩)[i]?=Z8 s->qO M.bs M.qs s.w:=fun i M s hi hs=>by
    rw[ej]at hs
    by_cases z:i=j
    ·rw[z,eP js]at hs;rw[z,kw]at hi
     cases hs
     cases hi;exact g.ok.clean
    ·rw[iJ (fun y=>z y.symm)]at hs;exact c.wk i M s hi hs
   have hH:∀{F:Hp},bj (Hid ex W) F->aN (StA CS F) (ss.set j L.st) (r.sts.set h.to.toNat ⟨I.bx,I.qu,I.dr,I.se⟩):=fun {F} s=>by
    rw[ej];exact Paired.set (Paired.mono (fun _ _ z=>jT.same' (f6.trans s) z) jb) j (jT.same' s hg)
   have ft:(ss.map V.ref).set j (.ref L.st)=(ss.set j L.st).map V.ref:=R1.symm;rw[ft]at il;refine cJ ?_;refine{_,Z9,t6,_,_,_,Z9,Z9,SqT.of (ka _ _ kG),Z9,I.en,Z9,?_}
   cases een:I.en with
   |true=>
    rw[een]at k ln;refine iU ?_;refine{_,Z9,th,_,_,_,Z9,Z9,SqT.of (ka _ _ hB),Z9,lt2,fun J lg=>?_};have sz:=aG lg (.tup [.str "end",.ref Y]);refine{_,Z9,co,CC,dx,_,Z9,sz _ _ hP,T.cl,T.nE,Dx _ _ _ _ _,?_};rw[E3];have U:Hid ex (upd (upd G9 J (.tup [.str "end",.ref Y])) co (.ins CC dx (kR (.ref m) (.ref sl) (.ref pl) (.ref Y) (.ref J))))=Hid ex (upd G9 J (.tup [.str "end",.ref Y])):=jv c.i1;have lb:∀a∈ex,∃o,upd G9 J (.tup [.str "end",.ref Y]) a=Z8 o/\∀xs,o≠.tup xs:=fun a ha=>by
     obtain⟨o,e,n⟩:=hN a ha;exact{o,sz _ _ e,n}
    have O:bj (Hid ex W) (Hid ex (upd G9 J (.tup [.str "end",.ref Y]))):=F9.trans (fK sz);have ll:Hid ex (upd G9 J (.tup [.str "end",.ref Y])) J=Z8 (.tup [.str "end",.ref Y]):=jw lb ak;have lf:∀{a:ae} {o:HO},a≠co->upd G9 J (.tup [.str "end",.ref Y]) a=Z8 o->upd (upd G9 J (.tup [.str "end",.ref Y])) co (.ins CC dx (kR (.ref m) (.ref sl) (.ref pl) (.ref Y) (.ref J))) a=Z8 o:=fun n e=>bh e n;have hQ:bj (Hid ex W) (upd (upd G9 J (.tup [.str "end",.ref Y])) co (.ins CC dx (kR (.ref m) (.ref sl) (.ref pl) (.ref Y) (.ref J)))):=by
     refine bj.trans O ?_;rw[<- U];exact gF
    refine{_,Z9,t6,_,_,_,Z9,Z9,SqT.of (hQ _ _ kG),Z9,?_};refine k _ _ {ln,?_,c.i1,c.i2,c.i3,c.n1,c.n2,c.n3,{dx,_,_,ak,?_,?_},{_,lf c.n1.symm (sz _ _ il),?_},{_,lf c.n2.symm (sz _ _ g1),?_},hY,fun a ha=>?_} ?_ ?_ ?_
    ·exact Dz c.sm fun a t n2 n3 o e=>lf t (sz _ _ (kz a t n2 n3 o e))
    ·rw[U];exact{Y,Z9,O _ _ ld}
    ·rw[U];exact{J,Y,Z9,ll,O _ _ ld}
    ·rw[U];exact hH O
    ·rw[U];exact Paired.mono (fun _ _ z=>z.same O) g2
    ·by_cases z:a=co
     ·rw[z];exact{_,ak,fun xs z=>by cases z}
     ·obtain⟨o,e,n⟩:=lb a ha;exact{o,lf z e,n}
    ·rw[U];exact f6.trans O
    ·exact fun a t n2 n3 o e=>lf t (sz _ _ (kz a t n2 n3 o e))
    ·rw[U];exact ki.same O
   |false=>
    rw[een]at k ln;refine gz ?_;have hn:sv=.non:=by
     rw[gh]at kc;exact kc
    refine{_,Z9,t6,_,_,_,Z9,Z9,SqT.of (ka _ _ kG),Z9,?_};exact k _ _ {ln,Dz c.sm kz,c.i1,c.i2,c.i3,c.n1,c.n2,c.n3,{dx,_,_,hP,{Y,Z9,F9 _ _ ld},hn},{_,il,hH F9},{_,g1,Paired.mono (fun _ _ z=>z.same F9) g2},hY,hN} (f6.trans F9) kz (ki.same F9)
 ·-- a fault
  obtain⟨e,u3,u4,u5,rfl,rfl,ew,s6⟩:=ht;rw[tY d ew]at k;have ln:=Gv c.ok d ew;rw[tY d ew]at ln;refine .inl {hx e,fun ea gq=>?_};have sx:=aG gq (XO ea (cf e));have s7:=s6.trans sx;have f7:bj (Hid ex H) (Hid ex (upd W ea (XO ea (cf e)))):=by
   rw[<- F1];exact fK s7
  refine cJ ?_;refine{_,Z9,ea,e,Z9,ak,_,Z9,_,Z9,th,_,_,_,Z9,Z9,SqT.of (s7 _ _ lm),Z9,(by show 3<=aD;decide),fun J lg=>?_};have sz:=aG lg (.tup [.str "fault",.str (rQ e),.ref Y]);have s8:=s7.trans sz;refine{_,Z9,co,CC,dx,_,Z9,s8 _ _ li,T.cl,T.nE,Dx _ _ _ _ _,?_};rw[E3];revert lg sz s8;generalize upd W ea (XO ea (cf e))=G7 at f7 |-;intro lg sz s8;have U:Hid ex (upd (upd G7 J (.tup [.str "fault",.str (rQ e),.ref Y])) co (.ins CC dx (kR (.ref m) (.ref sl) (.ref pl) rv (.ref J))))=Hid ex (upd G7 J (.tup [.str "fault",.str (rQ e),.ref Y])):=jv c.i1;have lb:∀a∈ex,∃o,upd G7 J (.tup [.str "fault",.str (rQ e),.ref Y]) a=Z8 o/\∀xs,o≠.tup xs:=fun a ha=>by
   obtain⟨o,e,n⟩:=lk a ha;exact{o,s8 _ _ e,n}
  have O:bj (Hid ex H) (Hid ex (upd G7 J (.tup [.str "fault",.str (rQ e),.ref Y]))):=f7.trans (fK sz);have ll:Hid ex (upd G7 J (.tup [.str "fault",.str (rQ e),.ref Y])) J=Z8 (.tup [.str "fault",.str (rQ e),.ref Y]):=jw lb ak;refine k _ _ {ln,?_,c.i1,c.i2,c.i3,c.n1,c.n2,c.n3,{dx,_,_,ak,?_,?_},{ss,bh (s8 _ _ la) c.n1.symm,?_},{Z,bh (s8 _ _ kv) c.n2.symm,?_},c.wk,fun a ha=>?_} ?_ ?_ rfl
  ·exact Dz c.sm fun a t n2 n3 o e=>bh (s8 _ _ (lj a t n2 n3 o e)) t
  ·rw[U];exact fq.same O
  ·rw[U];exact{J,Y,Z9,ll,O _ _ hO}
  ·rw[U];exact Paired.mono (fun _ _ z=>jT.same' O z) jb
  ·rw[U];exact Paired.mono (fun _ _ z=>z.same O) kq
  ·by_cases z:a=co
   ·rw[z];exact{_,ak,fun xs z=>by cases z}
   ·obtain⟨o,e,n⟩:=lb a ha;exact{o,bh e z,n}
  ·rw[U];exact O
  ·exact fun a t n2 n3 o e=>bh (s8 _ _ (lj a t n2 n3 o e)) t
end
def DH(Ms:List MD):Prop:=∀M∈Ms,∀q∈M.hs,q.2.toOk (Ms.length:Int)/\q.2.deep<=4/\q.2.size<=3*ddz 3
theorem qU.ok(h:qU CM Ms H m):DH Ms:=by
 obtain⟨dx,W,fs,_,_,xs,_,p⟩:=h;intro M Z;obtain⟨j,Y⟩:=c9 Z;obtain⟨x,_,z⟩:=gC p Y;exact z.hk
theorem Q5(k:ROk Ms.length r)(n:r.pd≠[]):∃h M s,Did Ms r h M s:=by
 obtain⟨h,O⟩:∃h,r.pd.getLast?=Z8 h:=by
  cases e:r.pd.getLast? with
  |none=>exact absurd (Am.mp e) n
  |some h=>exact⟨h,Z9⟩
 have Z:=xy O;have Y:h∈r.pd:=by
  rw[Z];exact bL _ (aK.mpr rfl)
 have W:=k.ev h Y;have V:h.to.toNat<Ms.length:=by have:=W.to1;have:=W.to0;omega
 have U:h.to.toNat<r.sts.length:=by rw[k.len];exact V
 exact{h,_,_,Z,aw V,aw U}
inductive Kf(Ms:List MD)(r:RS):Prop
 |err(h:Ev)(M:MD)(s:Sta)(e:Flt)(d:Did Ms r h M s)(q:doS h M.ds (j5 M.hs h.sg) s.w=.error e)(eq:iK Ms r=({r with pd:=r.pd.dropLast,sp:=Z8 (.flt e h)},[]))
 |ok(h:Ev)(M:MD)(s:Sta)(w:Wk)(d:Did Ms r h M s)(q:doS h M.ds (j5 M.hs h.sg) s.w=.ok w)(N:News (Ms.length:Int) h (3*ddz 3) s.w w)
   (eq:iK Ms r=(⟨r.sts.set h.to.toNat ⟨w.bx,w.qu,w.dr,w.se⟩,sP w.out r.pd.dropLast,Z8 h,if w.en=true then Z8 (.fin h) else Z7⟩,[⟨h,wrB M.bs w,wrQ M.qs w,w.out⟩]))
theorem wC(Y:DH Ms)(k:ROk Ms.length r)(n:r.pd≠[]):Kf Ms r:=by
 obtain⟨h,M,s,d⟩:=Q5 k n;have Z:=wB (P:=fun D=>D.toOk (Ms.length:Int)/\D.deep<=4/\D.size<=3*ddz 3) (Y M (bC d.hM)) ⟨by simp only[Ds.toOk],by simp only[Ds.deep];omega,by simp only[Ds.size];omega⟩ h.sg
 cases q:doS h M.ds (j5 M.hs h.sg) s.w with
 |error e=>exact .err h M s e d q (tY d q)
 |ok w=>exact .ok h M s w d q ((m8 _ _ _ Z.1 q).le Z.2.2) (wA d q)
theorem oZ(h:oX r left=Z7):r.sp=Z7/\r.pd≠[]/\0<left:=by
 unfold oX at h
 split at h
 ·cases h
 ·rename_i e
  split at h
  ·cases h
  ·rename_i c
   split at h
   ·cases h
   ·refine{e,fun z=>?_,by omega};rw[z]at c;exact c rfl
theorem Q6(h:r.sp=Z8 s):oX r left=Z8 (.stp s):=by
 unfold oX;rw[h]
theorem xE(h:Kf Ms r):(iK Ms r).1.pd.length<=r.pd.length+5000*(iK Ms r).2.length/\((∃q,(iK Ms r).2=[q])\/((iK Ms r).2=[]/\∃s,(iK Ms r).1.sp=Z8 s)):=by
 cases h with
 |err h M s e d q eq=>
  rw[eq];refine{?_,.inr {Z9,_,Z9}};show r.pd.dropLast.length<=_;rw[lX];omega
 |ok h M s w d q N eq=>
  rw[eq];refine{?_,.inl {_,Z9}};show (sP w.out r.pd.dropLast).length<=r.pd.length+5000*1;rw[(jh _ _).length_eq,au,lX];obtain⟨new,Z,W,_⟩:=N.ex;have Z:w.out=new:=Z;have Y:3*ddz 3<=5000:=by decide
  rw[Z];omega
def E5(Ms:List MD)(r:RS)(Z:Int)(i:Nat)(e:End):Prop:=(∀j,j<i->ROk Ms.length (itR Ms r j).1/\oX (itR Ms r j).1 (Z-(itR Ms r j).2.length)=Z7)/\oX (itR Ms r i).1 (Z-(itR Ms r i).2.length)=Z8 e/\ROk Ms.length (itR Ms r i).1
def rMu(σ:St)(G:Hp):Nat:=match (σ[3]?:Option (Option V)),(σ[2]?:Option (Option V)) with
 |some (Z8 .non),Z8 (Z8 (.ref Z))=>(match G Z with|some (.lst rs)=>1+(2000-rs.length)|_=>0)
 |_,_=>0
theorem E6(W:σ[3]?=Z8 (Z8 .non))(U:σ[2]?=Z8 (Z8 (.ref Z)))(Y:G Z=Z8 (.lst rs)):rMu σ G=1+(2000-rs.length):=by
 unfold rMu;rw[W,U];dsimp only;rw[Y]
theorem E7(Z:σ[3]?=Z8 (Z8 (.ref t))):rMu σ G=0:=by
 unfold rMu;rw[Z]
theorem ym.ref:∀{e:End},ym F v e->∃t,v=.ref t
 |.empty,⟨t,e,_⟩=>⟨t,e⟩
 |.cut,⟨t,e,_⟩=>⟨t,e⟩
 |.stp (.fin _),⟨t,_,e,_⟩=>⟨t,e⟩
 |.stp (.flt _ _),⟨t,_,e,_⟩=>⟨t,e⟩
section
variable{P:aI}{w:aY}{K:ag}{mg:Str->Option af}{base:cb}{f fE fO CC CM CS:ae}{fd fdE fdO:bY}
seal PS PSs PE PA PT PW PI PG PGs PC
structure Ran(CC CS:ae)(Ms:List MD)(Hb:Hp)(ex:Ex)(co m sl pl:ae)(r:RS)(most:Int)(H G:Hp)(t:ae)(i:Nat)(e:End):Prop where
 st:E5 Ms r most i e
 cc:nV CC CS Ms Hb ex G co m sl pl (itR Ms r i).1
 sm:bj (Hid ex H) (Hid ex G)
 ot:Oth ex co sl pl H G
 rs:∃rl en rvs,Hid ex G t=Z8 (.tup [.ref rl,en])/\Hid ex G rl=Z8 (.lst rvs)/\H rl=Z7/\aN (RcIn (Hid ex G)) rvs (itR Ms r i).2/\ym (Hid ex G) en e
inductive Kg(CC CM CS:ae)(vs:List V)(H:Hp)(Q:VK)(_e:XK):Prop where
 |mk(Ms:List MD)(Hb:Hp)(ex:Ex)(co m sl pl:ae)(r:RS)(most:Int)(_:vs=[.ref co,.int most])(_:qU CM Ms Hb m)(_:nV CC CS Ms Hb ex H co m sl pl r)(_:most<=1000)(_:r.pd.length<=1000000)(_:∀G t i e,Ran CC CS Ms Hb ex co m sl pl r most H G t i e->Q (.ref t) G):Kg CC CM CS vs H Q _e
def O3(CC CM CS:ae):Sp:=fun vs H Q Z=>Kg CC CM CS vs H Q Z
abbrev nRn:List Str:=["course","most","records","ending","record"]
theorem Kh:bM nRn ["course","most"] (aR tR):=e7
theorem Q7(D:Df K mg "run_on" tR ["course","most"] f fd)(ME:Mt K CC "ending_due" "Course.ending_due" gH ["self","left"] fE fdE)(GE:bN P w K mg base CX0 1 fE fdE ["self","left"] (spEd CC CS))
  (MO:Mt K CC "do_one" "Course.do_one" jd ["self"] fO fdO) (GO:bN P w K mg base CX0 38 fO fdO ["self"] (O0 CC CM CS)) (T:CoT K mg CC) (B:Bl mg) :
  bN P w K mg base CX0 39 f fd ["course","most"] (O3 CC CM CS):=by
 refine D.F.ok Kh #[3] (fun dV A outer s H vs Q E hr h=>?_)
 ·obtain⟨Ms,Hb,ex,co,m,sl,pl,r,Y,rfl,_⟩:=h;rfl
 obtain⟨Ms,Hb,ex,co,m,sl,pl,r,Y,rfl,hM,c,eb,ea,k⟩:=h;have r1:dJ 1 _:=hr.mono (by decide);refine⟨_,ar (pst 2 Kh (eO ao))
  (ar (pst 3 Kh (jt (pv 0) T.cl ME.m GE r1 ME.b .nil jV (av (pv 1) ao)))
  (ar (A3 cw (qq (HI (pv 3)))
   (ar (pst 4 Kh (tE (pv 0) T.cl MO.m GO hr MO.b .nil jV))
   (ar (cR (qq (Ei (pv 4))) (aF (eU (mO bV cD cE ip (pv 2) (av (pv 4) ao)))) b9)
   (aF (pst 3 Kh (jt (pv 0) T.cl ME.m GE r1 ME.b .nil jV (av (cM lP (pv 1) (cS (e9 K #[7]) #[7] B.len cA (av (pv 2) ao))) ao)))))))
  (aF (bQ (dX (av (pv 2) (av (pv 3) ao))))))),?_⟩
 dsimp only[cxA,cxB];have fe:∀{G:Hp} {r':RS} {ex':Ex},nV CC CS Ms Hb ex' G co m sl pl r'->∃dx fs,G co=Z8 (.ins CC dx fs)/\fs.lookup ("ending_due":Str)=Z7/\fs.lookup ("do_one":Str)=Z7:=fun c'=>by
  obtain⟨dx,rv,sv,h1,_⟩:=c'.hc;exact{dx,_,h1,OY _ _ _ _ _ #[1],OY _ _ _ _ _ #[1]}
 have mo:=hM.ok
 -- no records
 refine cJ (cV ?_);refine{aW _,fun Z O=>?_};refine bU ?_;dsimp only;have c0:=c.more (o:=.lst []) O (fun xs z=>by cases z);have er:upd H Z (.lst []) Z=Z8 (.lst []):=ak;have f0:bj (Hid ex H) (Hid (ex.add Z) (upd H Z (.lst []))):=by
  rw[qT O];exact bj.refl _
 have eu:Oth ex co sl pl H (upd H Z (.lst [])):=fun a _ _ _ o e=>bh e (aJ e O);have n1:co≠Z:=by
  obtain⟨dx,rv,sv,h1,_⟩:=c.hc;exact aJ h1 O
 have n2:sl≠Z:=by
  obtain⟨ss,h1,_⟩:=c.hs;exact aJ h1 O
 have n3:pl≠Z:=by
  obtain⟨ss,h1,_⟩:=c.hp;exact aJ h1 O
 have el:Hb Z=Z7:=by
  cases z:Hb Z with
  |none=>rfl
  |some o=>
   have y:=(c.sm _ _ z).2.2.2;rw[O]at y
   cases y
 revert c0 er f0 eu;generalize upd H Z (.lst [])=G0;intro c0 er f0 eu;refine cJ (cV ?_);obtain⟨dx,fs,I,fx,fa⟩:=fe c0;refine{_,Z9,co,dx,fs,Z9,I,fx,_,Z9,Ms,Hb,ex.add Z,co,m,sl,pl,r,Y,Z9,c0,fun en G1 s1 fq=>?_};refine bU ?_;dsimp only;refine cJ ?_;refine A6 (fun σ G=>∃(i:Nat) (en:V) (u4:Option V) (W:List V),σ=[Z8 (.ref co),Z8 (.int Y),Z8 (.ref Z),Z8 en,u4]/\(∀j,j<i->ROk Ms.length (itR Ms r j).1/\oX (itR Ms r j).1 (Y-(itR Ms r j).2.length)=Z7)/\nV CC CS Ms Hb (ex.add Z) G co m sl pl (itR Ms r i).1 /\
   G Z=Z8 (.lst W)/\aN (RcIn (Hid (ex.add Z) G)) W (itR Ms r i).2/\bj (Hid ex H) (Hid (ex.add Z) G)/\Oth ex co sl pl H G/\(itR Ms r i).1.pd.length<=1000000+5000*(itR Ms r i).2.length /\
   ((oX (itR Ms r i).1 (Y-(itR Ms r i).2.length)=Z7/\en=.non)\/∃e,oX (itR Ms r i).1 (Y-(itR Ms r i).2.length)=Z8 e/\ym (Hid (ex.add Z) G) en e)) rMu ?_ ?_ ?_
 ·refine{0,en,_,[],Z9,fun j hj=>absurd hj (jz _),c0.same s1,s1 _ _ er,.nil,f0.trans (fK s1),fun a q1 q2 q3 o e=>s1 _ _ (eu a q1 q2 q3 o e),by show r.pd.length<=_;omega,?_};have e0:Y-(((itR Ms r 0).2.length:Nat):Int)=Y:=by
   show Y-((0:Nat):Int)=Y;omega
  rw[e0];exact fq
 ·clear fq;rintro σ G ⟨i,en,u4,W,rfl,hj,c1,ft,fo,f1,em,dG,hd⟩;have dz:=aL fo
  rcases hd with⟨hd,rfl⟩|⟨e,hd,fq⟩
  ·obtain⟨d1,d2,d3⟩:=oZ hd;have si:=wC mo c1.ok d2;obtain⟨eL,eh⟩:=xE si;refine{_,Z9,_,Z9,iU ?_};refine cJ (cV ?_);obtain⟨dx,fs,I,fx,fa⟩:=fe c1;refine{_,Z9,co,dx,fs,Z9,I,fa,Ms,Hb,ex.add Z,co,m,sl,pl,_,Z9,hM,c1,d1,d2,by omega,fun v G2 c2 f2 ej tl=>?_};refine bU ?_;dsimp only;have fz:G2 Z=Z8 (.lst W):=ej Z n1.symm n2.symm n3.symm _ ft;have ey:Oth ex co sl pl H G2:=fun a q1 q2 q3 o e=>ej a q1 q2 q3 o (em a q1 q2 q3 o e);have ek:rMu [Z8 (.ref co),Z8 (.int Y),Z8 (.ref Z),Z8 .non,u4] G=1+(2000-W.length):=E6 rfl rfl ft;have big:2000<aD:=by decide
   have ez:itR Ms r (i+1)=((iK Ms (itR Ms r i).1).1,(itR Ms r i).2++(iK Ms (itR Ms r i).1).2):=rfl;have ei:∀j,j<i+1->ROk Ms.length (itR Ms r j).1/\oX (itR Ms r j).1 (Y-(itR Ms r j).2.length)=Z7:=fun j dL=>by
    rcases jq j i with z|z
    ·exact hj j z
    ·have:j=i:=by omega
     rw[this];exact⟨c1.ok,hd⟩
   rcases eh with⟨q,eq⟩|⟨eq,sp,ee⟩
   ·rw[eq]at tl eL;obtain⟨g,eg⟩:∃g,v=.ref g:=by
     obtain⟨g,_,_,_,_,_,_,_,e,_⟩:=tl;exact⟨g,e⟩
    subst eg;refine cJ ?_;refine{_,Z9,_,Z9,iU ?_};refine{_,Z9,.inl {Z9,_,SqL.of fz},_,Z9,Z,W,.ref g,Z9,Z9,fz,by omega,?_};have c3:=c2.upd (a:=Z) (o:=.lst (W++[.ref g])) Ex.here el n1 n2 n3 (fun xs z=>by cases z);have J:upd G2 Z (.lst (W++[.ref g])) Z=Z8 (.lst (W++[.ref g])):=ak;have f3:Hid (ex.add Z) (upd G2 Z (.lst (W++[.ref g])))=Hid (ex.add Z) G2:=jv Ex.here;have et:Oth ex co sl pl H (upd G2 Z (.lst (W++[.ref g]))):=fun a q1 q2 q3 o e=>bh (ey a q1 q2 q3 o e) (aJ e O);have U:aN (RcIn (Hid (ex.add Z) (upd G2 Z (.lst (W++[.ref g]))))) (W++[.ref g]) (itR Ms r (i+1)).2:=by
     rw[f3,ez,eq];exact dy (Paired.mono (fun _ _ z=>z.same f2) fo) tl
    have eo:bj (Hid ex H) (Hid (ex.add Z) (upd G2 Z (.lst (W++[.ref g])))):=by
     rw[f3];exact f1.trans f2
    have M:nV CC CS Ms Hb (ex.add Z) (upd G2 Z (.lst (W++[.ref g]))) co m sl pl (itR Ms r (i+1)).1:=c3;revert M J et U eo;clear c3 f3;generalize upd G2 Z (.lst (W++[.ref g]))=G3;intro J et U eo M;have l3:=aL U;dsimp only;refine cV ?_;obtain⟨dx,fs,I,fx,fa⟩:=fe M;refine{_,Z9,co,dx,fs,Z9,I,fx,_,Z9,_,Z9,Z,_,Z9,.inl (SqL.of J),_,_,Z9,Z9,Ms,Hb,ex.add Z,co,m,sl,pl,_,_,Z9,M,fun eH G4 s4 fy=>?_};refine bU ?_;dsimp only;refine{{i+1,eH,_,_,Z9,ei,M.same s4,s4 _ _ J,Paired.mono (fun _ _ z=>z.same (fK s4)) U,eo.trans (fK s4),fun a q1 q2 q3 o e=>s4 _ _ (et a q1 q2 q3 o e),?_,?_},?_}
    ·rw[ez,eq,au];show (iK Ms (itR Ms r i).1).1.pd.length<=_;show _<=1000000+5000*((itR Ms r i).2.length+1);simp only[aX,cI]at eL;omega
    ·rw[<- l3];exact fy
    ·rw[ek]
     rcases fy with⟨_,rfl⟩|⟨e,_,he⟩
     ·rw[E6 rfl rfl (s4 _ _ J),au];simp only[aX,cI];omega
     ·obtain⟨t,rfl⟩:=he.ref;rw[E7 rfl];omega
   ·rw[eq]at tl eL;have tl:v=.non:=tl;subst tl;refine cJ ?_;refine{_,Z9,_,Z9,gz (DG ?_)};dsimp only;have M:nV CC CS Ms Hb (ex.add Z) G2 co m sl pl (itR Ms r (i+1)).1:=c2;have U:aN (RcIn (Hid (ex.add Z) G2)) W (itR Ms r (i+1)).2:=by
     rw[ez,eq,cO];exact Paired.mono (fun _ _ z=>z.same f2) fo
    have l3:=aL U;refine cV ?_;obtain⟨dx,fs,I,fx,fa⟩:=fe M;refine{_,Z9,co,dx,fs,Z9,I,fx,_,Z9,_,Z9,Z,_,Z9,.inl (SqL.of fz),_,_,Z9,Z9,Ms,Hb,ex.add Z,co,m,sl,pl,_,_,Z9,M,fun eH G4 s4 fy=>?_};refine bU ?_;dsimp only;have ew:∃e,oX (itR Ms r (i+1)).1 (Y-(W.length:Int))=Z8 e/\ym (Hid (ex.add Z) G4) eH e:=by
     rcases fy with⟨z,_⟩|z
     ·have y:oX (itR Ms r (i+1)).1 (Y-(W.length:Int))=Z8 (.stp sp):=Q6 ee;rw[y]at z
      cases z
     ·exact z
    refine{{i+1,eH,_,_,Z9,ei,M.same s4,s4 _ _ fz,Paired.mono (fun _ _ z=>z.same (fK s4)) U,(f1.trans f2).trans (fK s4),fun a q1 q2 q3 o e=>s4 _ _ (ey a q1 q2 q3 o e),?_,?_},?_}
    ·rw[ez,eq,cO];show (iK Ms (itR Ms r i).1).1.pd.length<=1000000+5000*(itR Ms r i).2.length;simp only[cI]at eL;omega
    ·rw[<- l3];exact .inr ew
    ·rw[ek];obtain⟨e,_,he⟩:=ew;obtain⟨t,rfl⟩:=he.ref;rw[E7 rfl];omega
  ·obtain⟨t0,rfl⟩:=fq.ref;refine{_,Z9,_,Z9,gz ?_};dsimp only;refine eZ ?_;refine{_,Z9,_,Z9,lt2,fun t ht=>?_};have fw:=aG ht (.tup [.ref Z,.ref t0]);have f5:bj (Hid (ex.add Z) G) (Hid ex (upd G t (.tup [.ref Z,.ref t0]))):=(fK fw).trans BD;have ef:Z∉ex:=fun z=>by
    obtain⟨o,e,_⟩:=c.nt Z z;rw[O]at e
    cases e
   have ed:∀a∈ex,∃o,upd G t (.tup [.ref Z,.ref t0]) a=Z8 o/\∀xs,o≠.tup xs:=fun a ha=>by
    obtain⟨o,e,n⟩:=c1.nt a (Ex.more ha);exact{o,fw _ _ e,n}
   exact k _ t i e {⟨hj,hd,c1.ok⟩,(c1.same fw).less n1 n2 n3,f1.trans f5,fun a q1 q2 q3 o e=>fw _ _ (em a q1 q2 q3 o e),Z,_,W,jw ed ak,by rw[gp ef];exact fw _ _ ft,O,Paired.mono (fun _ _ z=>z.same f5) fo,fq.same f5}
 ·rintro σ G4 Q1 Q2 hq ⟨x,hx,c,ec,z⟩;exact{x,hx,c,ec,hq _ _ z}
end
def st0(M:MD):Sta:={M.ps,M.qs.map fun q=>(q,[]),0,0}
def uQ(es:List Ev):List Ev:=es.mapIdx fun i e=>atP e i
def vI(Ms:List MD)(es:List Ev):RS:={Ms.map st0,sP (uQ es) [],Z7,Z7}
theorem oE{α Z:Type}{R:α->Z->Prop}:∀{xs:List α} {ys:List Z},xs.length=ys.length->(∀(i:Nat) x y,xs[i]?=Z8 x->ys[i]?=Z8 y->R x y)->aN R xs ys
 | [],[],_,_=>.nil
 | [],_::_,l,_=>by cases l
 |_::_,[],l,_=>by cases l
 |x::xs,y::ys,l,h=>.cons (h 0 x y rfl rfl) (oE (by simpa using l) fun i a b ha hb=>h (i+1) a b (by simpa using ha) (by simpa using hb))
theorem xH(es:List Ev):(uQ es).length=es.length:=List.length_mapIdx
theorem tZ(h:(uQ es)[i]?=Z8 x):∃e,es[i]?=Z8 e/\x=atP e i:=by
 unfold uQ at h;rw[List.getElem?_mapIdx]at h
 cases z:es[i]? with
 |none=>
  rw[z]at h
  cases h
 |some e=>
  rw[z]at h
  cases h;exact⟨e,Z9,Z9⟩
theorem E8(es:List Ev):(uQ es).Pairwise (fun a b=>a.key≠b.key):=by
 refine cT.mpr fun i j hi Z lt=>?_;obtain⟨e,_,h1⟩:=tZ (es:=es) (i:=i) (x:=(uQ es)[i]) (aw hi);obtain⟨Y,_,h2⟩:=tZ (es:=es) (i:=j) (x:=(uQ es)[j]) (aw Z);rw[h1,h2];refine xA (.inr ?_);show (i:Int)≠(j:Int);omega
theorem E9(h:∀e∈es,Al Ms.length e):ROk Ms.length (vI Ms es):=by
 refine{ah _,rn List.Pairwise.nil (fun x _ y hy=>by cases hy) (E8 es),fun e Z=>?_,fun e Z=>?_}
 ·rcases cj.mp ((jh _ _).mem_iff.mp Z) with z|z
  ·obtain⟨i,hi⟩:=c9 z;obtain⟨Y,h',rfl⟩:=tZ hi;obtain⟨a,b,c,d,f⟩:=h Y (bC h');exact⟨a,b,c,d,f⟩
  ·cases z
 ·rcases cj.mp ((jh _ _).mem_iff.mp Z) with z|z
  ·obtain⟨i,hi⟩:=c9 z;obtain⟨Y,h',rfl⟩:=tZ hi;exact .inl rfl
  ·cases z
theorem New.sta(N:New H H' CS st M.ps M.qs dx W Y Z)(U:(M.ps.map (·.1)).Nodup)(J:M.qs.Nodup):StA CS H' st (st0 M):=by
 have inj:∀xs:List Str,xs.Nodup->(xs.map (Sum.inr:Str->Key)).Nodup:=fun xs h=>List.Pairwise.map _ (fun a b z y=>z (iu y)) h;refine{dx,W,Y,M.qs.zip Z,N.hst,?_,?_,?_}
 ·have z:H' W=Z8 (.dK (rP (boK M.ps) [])):=N.hbd;have e:rP (boK M.ps) []=boK M.ps:=by
   rw[Dh]
   ·exact qV _
   ·rw[qV];unfold boK;rw[dC];have:=inj _ U;rw[dC]at this;exact this
  rw[e]at z;exact z
 ·have z:H' Y=Z8 (.dK (rP (quK (M.qs.zip Z)) [])):=N.hqd;have e:rP (quK (M.qs.zip Z)) []=quK (M.qs.zip Z):=by
   rw[Dh]
   ·exact qV _
   ·rw[qV];unfold quK;rw[dC];have O:(M.qs.zip Z).map ((fun x:Key×V=>x.1) ∘ fun p:Str×ae=>((Sum.inr p.1:Key),V.ref p.2))=((M.qs.zip Z).map (·.1)).map (Sum.inr:Str->Key):=by
     rw[dC];rfl
    rw[O,List.map_fst_zip (by rw[N.len];exact ay _)];exact inj _ J
  rw[e]at z;exact z
 ·refine oE ?_ fun i x y hx hy=>?_
  ·show _=((M.qs.map fun q=>(q,([]:List Int)))).length;rw[qN,ah,N.len,qW]
  ·have hx:=zY.mp hx;have hy:(M.qs.map fun q=>(q,([]:List Int)))[i]?=Z8 y:=hy;rw[bT,hx.1]at hy
   cases hy;exact{Z9,(N.li _ (bC hx.2)).2}
theorem oo(n:H a=Z7):a∉({[],H}:Ex):=fun z=>z.elim (fun y=>by cases y) fun⟨o,e,_⟩=>by
 have e:H a=Z8 o:=e;rw[n]at e
 cases e
theorem New.hid{V:List ae}(s:bj H0 H)(N:New H H' CS st ps qs dx W Y V):New (fun _=>Z7) (Hid {[],H0} H') CS st ps qs dx W Y V:=
 {by rw[gp (oo (none_of s N.ost))];exact N.hst,by rw[gp (oo (none_of s N.obd))];exact N.hbd,by rw[gp (oo (none_of s N.oqd))];exact N.hqd,N.len,N.nd,fun l Z=>{Z9,by rw[gp (oo (none_of s (N.li l Z).1))];exact (N.li l Z).2},Z9,Z9,Z9,N.ne,fun a o e=>by cases e}
theorem Ki(s:bj G G'):bj (Hid ⟨l,H⟩ G) (Hid {[],H} G'):=fun a o e=>by
 have Z:a∉({[],H}:Ex):=fun z=>pP e (z.elim (fun y=>by cases y) .inr);rw[gp Z];exact s _ _ (gF _ _ e)
theorem DI(s:bj G G')(n:∀a∈l,G a=Z7):bj (Hid {[],H} G) (Hid ⟨l,H⟩ G'):=fun a o e=>by
 have Z:=gF _ _ e;have Y:a∉(⟨l,H⟩:Ex):=fun z=>z.elim (fun y=>by rw[n a y]at Z;cases Z) fun y=>pP e (.inr y);rw[gp Y];exact s _ _ Z
theorem MoI.wk0(h:MoI m H v M):qO M.bs M.qs (st0 M).w:=by
 have Y:(10:Int)^15=1000000000000000:=by decide
 refine{h.kb,?_,h.nb,h.nq,fun p hp=>?_,fun p hp=>?_,iY,(fun x hx=>by cases hx),iY,(fun x hx=>by cases hx),(fun x hx=>by cases hx),?_}
 ·show (M.qs.map fun q=>(q,([]:List Int))).map (·.1)=_;rw[dC];exact List.map_id _
 ·exact h.wb p hp
 ·obtain⟨q,_,rfl⟩:=cB.mp hp;exact{aW _,fun n Z=>by cases Z}
 ·rw[au];have:=h.lb;have:=h.lq;omega
section
variable{P:aI}{w:aY}{K:ag}{mg:Str->Option af}{base:cb}{f fI fF fPf fA fR fBk CC CM CS CB:ae}{fd fdI fdF fdPf fdA fdR fdBk:bY}
seal PS PSs PE PA PT PW PI PG PGs PC
inductive O4(CC:ae)(vs:List V)(H:Hp)(Q:VK)(_e:XK):Prop where
 |mk(b dx:ae)(m s p:V)(_:vs=[.ref b,m,s,p])(_:H b=Z8 (.ins CC dx []))(_:∀G,G b=Z8 (.ins CC dx (kR m s p .non .non))->But b H G->Q .non G):O4 CC vs H Q _e
def spCI(CC:ae):Sp:=fun vs H Q Z=>O4 CC vs H Q Z
theorem scCI:bM ["self","model","states","pending"] ["self","model","states","pending"] (aR oB):=e7
theorem ok_ci(F:Fun K "__init__" "Course.__init__" oB f fd)(T:CoT K mg CC):bN P w K mg base CX0 1 f fd ["self","model","states","pending"] (spCI CC):=by
 refine F.ok scCI #[3] (fun Z A outer s H vs Q E U h=>?_)
 ·obtain⟨b,dx,m,s',p,rfl,_⟩:=h;rfl
 obtain⟨b,dx,m,s',p,rfl,hb,k⟩:=h;refine{_,ar (gD (pv 0) (pv 1) rfl) (ar (gD (pv 0) (pv 2) rfl) (ar (gD (pv 0) (pv 3) rfl) (ar (gD (pv 0) wM rfl) (aF (gD (pv 0) wM rfl))))),?_};dsimp only[cxA,cxB];have Y:=iP "model" m [];have O:=iP "states" s' (dO "model" m []);have W:=iP "pending" p (dO "states" s' (dO "model" m []));have V:=iP "reached" .non (dO "pending" p (dO "states" s' (dO "model" m [])));simp only[cI]at Y;refine{_,Z9,_,Z9,b,CC,dx,[],Z9,hb,T.cl,T.nM,(by show 0<1000;decide),_,Z9,_,Z9,b,CC,dx,_,Z9,ak,T.cl,T.nS,#[2],_,Z9,_,Z9,b,CC,dx,_,Z9,ak,T.cl,T.nP,#[2],?_};refine{_,Z9,b,CC,dx,_,Z9,ak,T.cl,T.nR,#[2],_,Z9,b,CC,dx,_,Z9,ak,T.cl,T.nE,#[2],?_};rw[QZ];exact k _ ak (((((But.upd b H _).trans (But.upd b _ _)).trans (But.upd b _ _)).trans (But.upd b _ _)).trans (But.upd b _ _))
inductive Kj(CC CM CS:ae)(vs:List V)(H:Hp)(Q:VK)(_e:XK):Prop where
 |mk(Ms:List MD)(m sgl:ae)(svs:List V)(es:List Ev)(_:vs=[.ref m,.ref sgl])(_:qU CM Ms H m)(_:Ms.length<1000)(_:H sgl=Z8 (.lst svs))(_:aN (xu H) svs es)(_:es.length<64)(_:(∀e∈es,Al Ms.length e))(_:∀(G:Hp) (co sl pl:ae),nV CC CS Ms H ⟨[co,sl,pl],H⟩ G co m sl pl (vI Ms es)->Q (.ref co) G):Kj CC CM CS vs H Q _e
def O5(CC CM CS:ae):Sp:=fun vs H Q Z=>Kj CC CM CS vs H Q Z
abbrev nCa:List Str:=["model","signs","states"]
theorem scCa:bM nCa ["model","signs"] (aR iB):=e7
theorem ndCa:((["at"]:List Str)++nCa).Nodup:=by decide +kernel
theorem Q8(D:Df K mg "course_at_first" iB ["model","signs"] f fd)(DF:Df K mg "first_state" j4 ["model","at"] fF fdF)(GF:bN P w K mg base CX0 3 fF fdF ["model","at"] (xl CM CS))(ej:Df K mg "pending_at_first" hJ ["signs"] fPf fdPf)(eH:bN P w K mg base CX0 1 fPf fdPf ["signs"] OU)
  (MC:Mk K CC fI) (bI:Binds K fdI ["self","model","states","pending"] []) (GI:bN P w K mg base CX0 1 fI fdI ["self","model","states","pending"] (spCI CC)) (T:CoT K mg CC) (TM:MdT K mg CM CS) (B:Bl mg) (BS:mg "sorted"=Z7) :
  bN P w K mg base CX0 4 f fd ["model","signs"] (O5 CC CM CS):=by
 refine D.F.ok scCa #[3] (fun dL A outer s H vs Q E hr h=>?_)
 ·obtain⟨Ms,m,eL,fe,es,rfl,_⟩:=h;rfl
 obtain⟨Ms,m,eL,fe,es,rfl,hM,ea,ee,ei,dV,fx,k⟩:=h;have hu:=qD hr;have eu:=IS hr;have h5:=jm (tI (by decide:5<=50) _) eu;have r1:dJ 1 _:=hr.mono (by decide);have r2:dJ 2 _:=hr.mono (by decide);have r3:dJ 3 _:=hr.mono (by decide);refine⟨_,ar (vW (i:=2) ["at"] (iG.open (NN:=nCa) (N:=nCa) (sc:=aR iB) rfl rfl #[1] rfl #[1] #[1] rfl #[1]) rfl scCa.nd rfl (Or.inl rfl) (je #[7] B.range (av (cS (e9 K #[7]) #[7] B.len cA (av (iC K #[7] (pv 0) #[7]) ao)) ao)) (fun _ _ _ _=>iM (i:=0) ndCa rfl (Or.inl rfl)) (fun _ _ _ _=>jP)
   (fun _ _ _ _=>pcl GF r3 DF (av (pv 1) (av (pv 0) ao))))
  (aF (bQ (q8 MC GI r2 #[7] T.m bI .nil jV (av (pv 0) (av (pv 2) (av (Jd h5 #[7] BS (av (pcl eH r1 ej (av (pv 1) ao)) ao) oG) ao)))))),?_⟩
 obtain⟨et,ml,fs,hm,fo,xs,ft,fZ⟩:=id hM;have eg:xs.length=Ms.length:=aL fZ;have big:=eJ;refine cJ (cV ?_);refine za (K:=K) (ms:=xs) rfl hm TM.clM TM.nM fo ft #[2] (fun i ys G=>∃g:List ae,ys=g.map V.ref/\bj H G/\aN (StA CS (Hid {[],H} G)) g ((Ms.take i).map st0)) {[],Z9,bj.refl _,by rw[jW];exact .nil} ?_ ?_ ?_
 ·rintro i ys G hi ⟨g,rfl,Z,p1⟩;have:=aL p1;rw[ah,bD]at this;rw[ah];omega
 ·rintro i ys G hi ⟨g,rfl,Z,p1⟩;obtain⟨Mi,fa⟩:∃M,Ms[i]?=Z8 M:={_,aw #[2]};obtain⟨x,hx,mo⟩:=gC fZ fa;obtain⟨t,bl,ql,n0,x3,x4,vb,rfl,g1,g2,g3,g4⟩:=mo.fs;refine{Z9,?_};unfold tM;refine iU ?_;have lb:Mi.ps.length<=100:=by
   have e:=congrArg i5 mo.kb;rw[ah]at e;have:=mo.lb;omega
  have lq:Mi.qs.length<=100:=by
   have:=mo.lq;omega
  refine{_,Z9,_,Z9,m,et,ml,t,bl,ql,fs,n0,x3,x4,i,xs,vb,Mi.ps,Mi.qs,by rw[vJ];rfl,Z _ _ hm,fo,Z _ _ ft,hx,Z _ _ g1,Z _ _ g2,g3.same Z,lb,Z _ _ g4,lq,fun st dx bd qd ls G' N=>?_};refine{g++[st],by rw[bA];rfl,Z.trans N.same,?_};rw[cm,fa,bA];exact dy (Paired.mono (fun _ _ z=>jT.same' (fK N.same) z) p1) ((N.hid Z).sta (by rw[mo.kb];exact mo.nb) mo.nq)
 rintro ys G ⟨g,rfl,Z,p1⟩;rw[eg,cu]at p1;intro sl ga;have Y:=aG ga (.lst (g.map V.ref));refine bU ?_;dsimp only;refine eZ (Dt ?_);have ey:=none_of Z ga;refine{_,Z9,_,Z9,_,Z9,eL,fe,es,Z9,Y _ _ (Z _ _ ee),Paired.mono (fun _ _ z=>(z.same Z).same Y) ei,by omega,fun G1 l0 ys U dG ek ly hy=>?_};have el:aN (iW G1) ys (uQ es):=oE (by rw[xH];exact ly) fun i y e eo he=>by
  obtain⟨e',h',rfl⟩:=tZ he;exact hy i y e' eo h'
 obtain⟨z1,z2,z3⟩:=xC el;refine{l0,(ys.zip (uQ es)).map fun u=>(u.1,u.2.key),Z9,?_,fun z hz=>?_,?_,?_,fun pl ec ge pm fz=>?_}
 ·rw[dC];have:((fun x:V×List Int=>x.1) ∘ fun u:V×Ev=>(u.1,u.2.key))=(fun u:V×Ev=>u.1):=rfl;rw[this,z1];exact ek
 ·obtain⟨u,hu,rfl⟩:=cB.mp hz;exact Dy (z3 u hu)
 ·rw[dC];have:((fun x:V×List Int=>x.2) ∘ fun u:V×Ev=>(u.1,u.2.key))=Ev.key ∘ (fun u:V×Ev=>u.2):=rfl;rw[this,<- dC,z2];exact kW.mpr (E8 es)
 ·rw[ah,qN,xH];omega
 obtain⟨ps,ed,er⟩:=ze (F:=G1) (us:=ys.zip (uQ es)) (es:=sP (uQ es) []) (zs:=ec) z3 pm fz (by
  rw[z2];have:=jh (uQ es) [];rw[cO]at this;exact this.symm) (E9 fx).fall
 rw[ed];have J:=aG ge (.lst ps);have gd:=U _ _ (ak:upd G sl (.lst (g.map V.ref)) sl=_);have ez:sl≠pl:=aJ gd ge;intro co fy W ew dz;have I:=J _ _ gd;have O:upd G1 pl (.lst ps) pl=Z8 (.lst ps):=ak;have em:sl≠co:=aJ I W;have eb:pl≠co:=aJ O W;have sA:bj H (upd G1 pl (.lst ps)):=(Z.trans (Y.trans U)).trans J;refine{co,fy,_,_,_,Z9,ak,fun G' fq but=>{Z9,?_}};have sB:bj (upd G1 pl (.lst ps)) G':=fun a o e=>but _ _ (bh (bh e (aJ e ew)) (aJ e W)) (aJ e W);have ef:H co=Z7:=none_of sA W;have eh:H pl=Z7:=none_of (Z.trans (Y.trans U)) ge;have fG:∀a∈[co,sl,pl],G a=Z7:=fun a ha=>by
  simp only[aq,aV,or_false]at ha
  rcases ha with rfl|rfl|rfl
  ·exact none_of ((Y.trans U).trans J) W
  ·exact ga
  ·exact none_of (Y.trans U) ge
 have sG:bj (Hid {[],H} G) (Hid {[co,sl,pl],H} G'):=DI (((Y.trans U).trans J).trans sB) fG;have fw:∀a∈({[co,sl,pl],H}:Ex),∃o,G' a=Z8 o/\∀xs,o≠.tup xs:=fun a ha=>by
  rcases ha with ha|⟨o,e,n⟩
  case inr=>exact{o,(sA.trans sB) _ _ e,n}
  have ha:a∈[co,sl,pl]:=ha;simp only[aq,aV,or_false]at ha
  rcases ha with rfl|rfl|rfl
  ·exact{_,fq,fun xs z=>by cases z}
  ·exact{_,sB _ _ I,fun xs z=>by cases z}
  ·exact{_,sB _ _ O,fun xs z=>by cases z}
 refine k G' co sl pl {E9 fx,fun b o e=>{aJ e ef,aJ e ey,aJ e eh,(sA.trans sB) _ _ e},.inl #[5],.inl #[5],.inl #[5],em.symm,eb.symm,ez,{fy,_,_,fq,Z9,Z9},{g,sB _ _ I,Paired.mono (fun _ _ z=>jT.same' sG z) p1},{ps,sB _ _ O,Paired.mono (fun _ _ z=>iW.hid fw (z.same (J.trans sB))) er},fun i M s hi hs=>?_,fw};have hs:(Ms.map st0)[i]?=Z8 s:=hs;rw[bT,hi]at hs
 cases hs;obtain⟨x,_,mo⟩:=gC fZ hi;exact mo.wk0
structure Q9(CB CS:ae)(G:Hp)(b:ae)(q:RS×List Rec)(e:End):Prop where
 ex:∃(dx rl sl:ae) (en:V) (rvs:List V) (ss:List ae),G b=Z8 (.ins CB dx (QT (.ref rl) en (.ref sl)))/\G rl=Z8 (.lst rvs)/\aN (RcIn G) rvs q.2/\ym G en e/\G sl=Z8 (.lst (ss.map V.ref))/\aN (StA CS G) ss q.1.sts
inductive Kk(CM CS CB:ae)(vs:List V)(H:Hp)(Q:VK)(_e:XK):Prop where
 |mk(Ms:List MD)(m sgl:ae)(svs:List V)(es:List Ev)(most:Int)(_:vs=[.ref m,.ref sgl,.int most])(_:qU CM Ms H m)(_:Ms.length<1000)(_:H sgl=Z8 (.lst svs))(_:aN (xu H) svs es)(_:es.length<64)(_:(∀e∈es,Al Ms.length e))(_:most<=1000)(_:∀(G:Hp) (b:ae) (i:Nat) (e:End),bj H G->E5 Ms (vI Ms es) most i e->Q9 CB CS (Hid ⟨[],H⟩ G) b (itR Ms (vI Ms es) i) e->Q (.ref b) G):Kk CM CS CB vs H Q _e
def O6(CM CS CB:ae):Sp:=fun vs H Q Z=>Kk CM CS CB vs H Q Z
theorem Ra:bM ["model","signs","most","course","told"] ["model","signs","most"] (aR wy):=e7
theorem Rb(D:Df K mg "plain" wy ["model","signs","most"] f fd)(DA:Df K mg "course_at_first" iB ["model","signs"] fA fdA)(GA:bN P w K mg base CX0 4 fA fdA ["model","signs"] (O5 CC CM CS))(DR:Df K mg "run_on" tR ["course","most"] fR fdR)(GR:bN P w K mg base CX0 39 fR fdR ["course","most"] (O3 CC CM CS))
  (MB:Mk K CB fBk) (bB:Binds K fdBk ["self","records","ending","states"] []) (GB:bN P w K mg base CX0 1 fBk fdBk ["self","records","ending","states"] (spBk CB)) (TB:BkT K mg CB) (T:CoT K mg CC) :
  bN P w K mg base CX0 40 f fd ["model","signs","most"] (O6 CM CS CB):=by
 refine D.F.ok Ra #[3] (fun cn A outer s H vs Q E hr h=>?_)
 ·obtain⟨Ms,m,J,U,es,Y,rfl,_⟩:=h;rfl
 obtain⟨Ms,m,J,U,es,Y,rfl,hM,I,db,da,dc,de,V,k⟩:=h;have r2:dJ 2 _:=hr.mono (by decide);have r4:dJ 4 _:=hr.mono (by decide);refine⟨_,ar (pst 3 Ra (pcl GA r4 DA (av (pv 0) (av (pv 1) ao))))
  (ar (pst 4 Ra (pcl GR hr DR (av (pv 3) (av (pv 2) ao))))
  (aF (bQ (q8 MB GB r2 #[7] TB.m bB .nil jV (av (bR cv (pv 4) aA) (av (bR cv (pv 4) aA) (av (cX (pv 3) rfl) ao))))))),?_⟩
 dsimp only[cxA,cxB];refine cJ (cV ?_);refine{_,Z9,_,Z9,Ms,m,J,U,es,Z9,hM,I,db,da,dc,de,fun G co sl pl c=>?_};refine bU ?_;dsimp only;refine cJ (cV ?_);refine{_,Z9,_,Z9,Ms,H,{[co,sl,pl],H},co,m,sl,pl,_,Y,Z9,hM,c,V,?_,fun g t i e R=>?_}
 ·show (sP (uQ es) []).length<=1000000;rw[(jh _ _).length_eq,cO,xH];omega
 refine bU ?_;dsimp only;obtain⟨rl,en,cx,h1,h2,_,h3,h4⟩:=R.rs;obtain⟨dx,rv,sv,h5,_⟩:=R.cc.hc;obtain⟨ss,h6,h7⟩:=R.cc.hs;have hl:bj (Hid {[co,sl,pl],H} g) g:=gF;have O:bj H g:=fun a o e=>(R.cc.sm a o e).2.2.2;have cr:H sl=Z7:=by
  cases z:H sl with
  |none=>rfl
  |some o=>exact absurd rfl (R.cc.sm _ _ z).2.1
 refine eZ (Dt ?_);refine{_,Z9,t,_,_,_,Z9,Z9,SqT.of (hl _ _ h1),Z9,_,Z9,t,_,_,_,Z9,Z9,SqT.of (hl _ _ h1),Z9,_,Z9,co,CC,dx,_,_,Z9,h5,T.cl,T.nS,QW _ _ _ _ _,fun b M hb cs nb=>{b,M,_,_,_,Z9,ak,fun G' cp but=>{Z9,?_}}};have W:bj g G':=fun a o e=>but _ _ (bh (bh e (aJ e cs)) (aJ e hb)) (aJ e hb);have Z:bj (Hid {[co,sl,pl],H} g) (Hid {[],H} G'):=Ki W;exact k G' b i e (O.trans W) R.st {M,rl,sl,en,cx,ss,by rw[gp (oo (none_of O hb))];exact cp,Z _ _ h2,Paired.mono (fun _ _ z=>z.same Z) h3,h4.same Z,by rw[gp (oo cr)];exact W _ _ h6,Paired.mono (fun _ _ z=>jT.same' Z z) h7}
end
section
variable{P:aI}{w:aY}{K:ag}{mg:Str->Option af}{base:cb}{f fM fD:ae}{fd fdM fdD:bY}
def Fb:Sp:=fun vs H Q _=>∃c k:Int,vs=[.int c,.int k]/\fg c<=1048576/\∀r:Int,Q (.int r) H
theorem GJ(x:Int):-(2^64)<x%2147483629/\x%2147483629<2^64:=by
 have h1:=m7 x (show (2147483629:Int)≠0 by decide);have h2:=kH x (show (0:Int)<2147483629 by decide);omega
theorem scM:bM ["_law_cell","_law_k","_law_number"] ["_law_cell","_law_k"] (aR og):=e7
theorem Kl(D:Df K mg "_law_mixed" og ["_law_cell","_law_k"] f fd):bN P w K mg base CX0 1 f fd ["_law_cell","_law_k"] Fb:=by
 refine D.F.ok scM #[3] (fun Z A outer s H vs Q E Y h=>?_)
 ·obtain⟨c,k,rfl,_⟩:=h;rfl
 obtain⟨c,k,rfl,hc,q⟩:=h;refine⟨_,ar (pst 2 scM (cM sh (cM r9 (cM ie (cM ie (cM ie (cM Mb (pv 0) (pv 0)) (cM r9 aA (pv 0))) (cM r9 aA (pv 1))) aA) aA) aA))
  (aF (bQ (cM sh (cM ie (cM r9 (pv 2) (pv 2)) aA) aA))),?_⟩
 refine{_,Z9,_,Z9,_,_,Z9,Z9,.of_bits hc hc,_,Z9,_,_,Z9,Z9,.inl {by decide,by decide},_,_,Z9,Z9,_,Z9,_,_,Z9,Z9,.inl {by decide,by decide},_,_,Z9,Z9,_,_,Z9,Z9,_,_,Z9,Z9,.inr {by decide,by decide},_,_,Z9,Z9,(by show (0:Int)<2147483629;decide),?_};refine{_,Z9,_,Z9,_,_,Z9,Z9,.inl (GJ _),_,_,Z9,Z9,_,_,Z9,Z9,(by show (0:Int)<2147483587;decide),?_};exact q _
def d7(H:Hp)(p:ae):Prop:=∃x y:Int,H p=Z8 (.lst [.int x,.int y])
theorem d7.same(a:d7 H p)(b:bj H H'):d7 H' p:=by
 obtain⟨x,y,e⟩:=a;exact{x,y,b _ _ e}
inductive Fc(vs:List V)(H:Hp)(Q:VK)(_e:XK):Prop where
 |mk(p:ae)(n:Int)(_:vs=[.ref p,.int n])(_:d7 H p)(_:0<n)(_:n<2^64)(_:∀(r:Int) (H':Hp),0<=r->r<n->d7 H' p->But p H H'->Q (.int r) H'):Fc vs H Q _e
def kY:Sp:=fun vs H Q Z=>Fc vs H Q Z
theorem scD:bM ["_law_purse_here","_law_out_of","_law_drawn"] ["_law_purse_here","_law_out_of"] (aR eS):=e7
theorem lA(D:Df K mg "_law_draw" eS ["_law_purse_here","_law_out_of"] f fd):bN P w K mg base CX0 1 f fd ["_law_purse_here","_law_out_of"] kY:=by
 refine D.F.ok scD #[3] (fun V A outer s H vs Q E U h=>?_)
 ·obtain⟨p,n,rfl,_⟩:=h;rfl
 obtain⟨p,n,rfl,⟨x,y,hp⟩,Y,W,q⟩:=h;refine⟨_,ar (cR (bO ff (bR dD (pv 0) aA) aA) (aF (rZ (bR dD (pv 0) aA) (wR (pv 0) aA qC))) b9)
  (ar (pst 2 scD (cM sh (bR dD (pv 0) aA) (pv 1)))
  (ar (rZ (cM xf (bR dD (pv 0) aA) (pv 1)) (wR (pv 0) aA qC))
  (aF (bQ (pv 2))))),?_⟩
 dsimp only[cxA,cxB];refine{_,Z9,p,_,_,_,Z9,Z9,SqL.of hp,Z9,Z9,_,Z9,?_};refine gA (fun c=>?_) (fun c=>?_)
 ·refine{_,Z9,p,_,_,_,Z9,Z9,SqL.of hp,Z9,_,Z9,p,_,_,_,Z9,Z9,hp,Z9,?_};have Z:upd H p (.lst [.int y,.int y]) p=Z8 (.lst [.int y,.int y]):=ak;refine{_,Z9,p,_,_,_,Z9,Z9,SqL.of Z,Z9,_,Z9,_,_,Z9,Z9,Y,?_};refine{_,Z9,p,_,_,_,Z9,Z9,SqL.of Z,Z9,_,Z9,_,_,Z9,Z9,⟨Y,W⟩,_,Z9,p,_,_,_,Z9,Z9,Z,Z9,?_};refine{_,Z9,?_};exact q _ _ (m7 _ #[2]) (kH _ Y) {_,_,ak} ((But.upd p H _).trans (But.upd p _ _))
 ·refine{_,Z9,p,_,_,_,Z9,Z9,SqL.of hp,Z9,_,Z9,_,_,Z9,Z9,Y,?_};refine{_,Z9,p,_,_,_,Z9,Z9,SqL.of hp,Z9,_,Z9,_,_,Z9,Z9,⟨Y,W⟩,_,Z9,p,_,_,_,Z9,Z9,hp,Z9,?_};refine{_,Z9,?_};exact q _ _ (m7 _ #[2]) (kH _ Y) {_,_,ak} (But.upd p H _)
inductive BE(K:ag)(vs:List V)(H:Hp)(Q:VK)(_e:XK):Prop where
 |mk(a:ae)(ns:List Int)(_:vs=[.ref a])(_:SqL K H a (ns.map V.int))(_:ns.length<=63)(_:(∀x∈ns,fg x<=1048576))(_:∀(p:ae) (H':Hp),H p=Z7->d7 H' p->bj H H'->Q (.ref p) H'):BE K vs H Q _e
def Fd(K:ag):Sp:=fun vs H Q Z=>BE K vs H Q Z
theorem scP:bM ["_law_script","_law_cells","_law_number","_law_k"] ["_law_script"] (aR oh):=e7
theorem Nj(h:v∈me xs lo hi):v∈xs:=by
 unfold me at h;exact List.mem_of_mem_drop (rR h)
theorem Rc{xs:List V}(h:xs≠[])(z:Int):∃v,atI xs (z%(xs.length:Int))=Z8 v/\v∈xs:=by
 have W:0<xs.length:=GK.mpr h;have h0:=m7 z (show (xs.length:Int)≠0 by omega);have h1:=kH z (show (0:Int)<(xs.length:Int) by omega);obtain⟨j,Y⟩:∃j:Nat,z%(xs.length:Int)=(j:Int):={(z%(xs.length:Int)).toNat,by omega};rw[Y]at h1 |-;have Z:j<xs.length:=by omega
 exact{xs[j],iO (aw Z),lO Z}
theorem Km(D:Df K mg "_law_purse" oh ["_law_script"] f fd)(DM:Df K mg "_law_mixed" og ["_law_cell","_law_k"] fM fdM)(B:Bl mg):bN P w K mg base CX0 2 f fd ["_law_script"] (Fd K):=by
 have GM:bN P w K mg base CX0 1 fM fdM ["_law_cell","_law_k"] Fb:=Kl DM;refine D.F.ok scP #[3] (fun bt A outer s H vs Q E hr h=>?_)
 ·obtain⟨a,ns,rfl,_⟩:=h;rfl
 obtain⟨a,ns,rfl,hS,J,O,q⟩:=h;refine⟨_,ar (pst 1 scP (cM sJ (jG mh (pv 0) kC (kD aA)) (eO (av aA ao))))
  (ar (pst 2 scP aA)
  (ar (iE cw rfl (je rfl B.range (av aA ao)) (pgn 3 scP)
   (aF (pst 2 scP (cM ie (cM r9 (pv 2) aA) (pcl GM hr DM (av (bR dD (pv 1) (cM sh (pv 3) (cS i0 #[7] B.len cA (av (pv 1) ao)))) (av (pv 3) ao)))))))
  (ar (cR (bO ff (cM sh (bR dD (pv 1) aA) aA) aA)
   (aF (bQ (eO (av (cS (yB rfl) #[7] B.max boot_max (av (cM xf (bR dD (pv 1) aA) aA) (av (cM lP (Ej zF aA) (cM xf (bR dD (pv 1) aA) aA)) ao))) (av (pv 2) ao))))) b9)
  (aF (bQ (eO (av (pv 2) (av (pv 2) ao)))))))),?_⟩
 dsimp only[cxA,cxB]
 -- Z = script[:63] + [0]
 refine{_,Z9,_,Z9,a,_,Z9,hS,fun l hl=>{(by show 1<=aD;decide),fun m hm=>?_}};have bw:l≠m:=aJ (ak:upd H l (.lst (me (ns.map V.int) Z7 (Z8 63))) l=_) hm;have cl:(me (ns.map V.int) Z7 (Z8 63)).length<=63:=cZ (qB _ _ _) (by rw[ah];exact J);have bu:(me (ns.map V.int) Z7 (Z8 63)).length+[V.int 0].length<=aD:=by
  have z:64<=aD:=by decide
  rw[CJ];omega
 refine{l,m,_,_,Z9,Z9,(by rw[aQ bw];exact ak),ak,bu,fun c hc=>?_};generalize hcs:me (ns.map V.int) Z7 (Z8 63)++[V.int 0]=U at hc |-;have sc:bj H (upd (upd (upd H l (.lst (me (ns.map V.int) Z7 (Z8 63)))) m (.lst [.int 0])) c (.lst U)):=(aG hl _).trans ((aG hm _).trans (aG hc _));generalize hH:upd (upd (upd H l (.lst (me (ns.map V.int) Z7 (Z8 63)))) m (.lst [.int 0])) c (.lst U)=H1 at sc |-;have W:H1 c=Z8 (.lst U):=by rw[<- hH];exact ak
 have Y:U≠[]:=by rw[<- hcs];simp
 have Z:∀v∈U,∃z:Int,v=.int z/\fg z<=1048576:=fun v hv=>by
  rw[<- hcs]at hv
  rcases cj.mp hv with z|z
  ·obtain⟨n,hn,rfl⟩:=cB.mp (Nj z);exact{n,Z9,O n hn}
  ·rw[aK.mp z];exact{0,Z9,by decide}
 -- number = 1; for k in range(150)
 refine{150,Z9,by decide,by decide,qZ (n:=150) (fun i σ H2=>∃(z:Int) (v:Option V),σ=[Z8 (.ref a),Z8 (.ref c),Z8 (.int z),v]/\H2=H1) {1,Z7,Z9,Z9} ?_ ?_}
 ·rintro i σ H2 hi ⟨z,v,rfl,rfl⟩;obtain⟨u,hu,bv⟩:=Rc Y (0+(i:Int));obtain⟨y,rfl,hy⟩:=Z u bv;have t:(0:Int)<(U.length:Int):=by
   have:=GK.mpr Y;omega
  refine{_,Z9,_,_,Z9,Z9,.inr {by decide,by decide},_,Z9,_,Z9,_,Z9,c,_,Z9,.inl (SqL.of W),_,_,Z9,Z9,t,c,_,_,_,Z9,Z9,SqL.of W,hu,_,Z9,y,_,Z9,hy,fun r=>?_};exact{_,_,Z9,Z9,_,_,Z9,Z9}
 ·rintro σ H2 ⟨z,v,rfl,rfl⟩;obtain⟨I,M⟩:∃I,U[0]?=Z8 I:=by
   cases U with
   |nil=>exact absurd rfl Y
   |cons I r=>exact⟨I,Z9⟩
  obtain⟨y,rfl,hy⟩:=Z I (bC M);have g:atI U 0=Z8 (.int y):=iO (j:=0) M;refine{_,Z9,c,_,_,_,Z9,Z9,SqL.of W,g,_,_,Z9,Z9,(by show (0:Int)<2;decide),Z9,_,Z9,?_};have two:Oy y 2:={by decide,by decide};refine gA (fun _=>?_) (fun _=>?_)
  ·refine{_,Z9,c,_,_,_,Z9,Z9,SqL.of W,g,_,_,Z9,Z9,two,_,Z9,_,Z9,c,_,_,_,Z9,Z9,SqL.of W,g,_,_,Z9,Z9,two,_,_,Z9,Z9,_,_,Z9,_,Z9,lt2,fun p hp=>?_};exact q p _ (sc.free hp) {_,_,ak} (sc.trans (aG hp _))
  ·refine{_,Z9,_,Z9,lt2,fun p hp=>?_};exact q p _ (sc.free hp) {_,_,ak} (sc.trans (aG hp _))
end
section
variable{X:Cx}{es:List cK}{te:TE}{t:TA}
theorem t7:cz (.Tuple Z k p::es) env=(false,fY (.Tuple Z k p) env)::cz es env:=by rfl
theorem sQ(ha:PE X (.Tuple Z k p) te)(Y:PA X es t):PA X (.Tuple Z k p::es) (oI te t):=av ha Y #[7]
theorem Re(ha:PE X (.List Z p) te)(Y:PA X es t):PA X (.List Z p::es) (oI te t):=av ha Y #[7]
theorem dR(ha:PE X (.Constant c k p) te)(Z:PA X es t):PA X (.Constant c k p::es) (oI te t):=av ha Z #[7]
theorem bE(ha:PE X (.Name x p) te)(Z:PA X es t):PA X (.Name x p::es) (oI te t):=av ha Z #[7]
theorem jA(ha:PE X (.Call g as ks p) te)(Z:PA X es t):PA X (.Call g as ks p::es) (oI te t):=av ha Z #[7]
theorem m9(ha:PE X (.Subscript a b p) te)(Z:PA X es t):PA X (.Subscript a b p::es) (oI te t):=av ha Z #[7]
theorem sR(ha:PE X (.BinOp a o b p) te)(Z:PA X es t):PA X (.BinOp a o b p::es) (oI te t):=av ha Z #[7]
end
theorem gs(h:t σ H fun c H1=>if c=true then a D σ H1 else b D σ H1):tIfS t a b D σ H:=h
theorem eT.ref(h:eT bs qs H d v):∃t,v=.ref t:=by
 cases d<;>simp only[eT]at h
 ·obtain⟨t,_,e,_⟩:=h;exact⟨t,e⟩
 ·obtain⟨t,_,e,_⟩:=h;exact⟨t,e⟩
 ·obtain⟨t,_,e,_⟩:=h;exact⟨t,e⟩
 ·obtain⟨t,_,e,_⟩:=h;exact⟨t,e⟩
 ·obtain⟨t,_,_,_,e,_⟩:=h;exact⟨t,e⟩
 ·obtain⟨t,_,_,_,e,_⟩:=h;exact⟨t,e⟩
 ·obtain⟨t,e,_⟩:=h;exact⟨t,e⟩
theorem Tree.scal(h:De v):∀n,Tree H n v
 |0=>h
 |_+1=>.inl h
theorem Tree.atup(h:H a=Z8 (.tup xs))(l:xs.length<1000)(k:∀x∈xs,Tree H n x):Tree H (n+1) (.ref a):=.inr {a,xs,Z9,.inr h,l,k}
theorem Tree.alst(h:H a=Z8 (.lst xs))(l:xs.length<1000)(k:∀x∈xs,Tree H n x):Tree H (n+1) (.ref a):=.inr {a,xs,Z9,.inl h,l,k}
theorem kf.tree(h:kf bs qs H v f):∀n,f.depth<=n->Tree H n v:=by
 induction h with
 |num h1 _=>exact fun n Z=>match n,Z with
  |n+1,_=>Tree.atup h1 (by show 2<1000;decide) fun x hx=>by
   simp only[aq,aV,or_false]at hx
   rcases hx with rfl|rfl<;>exact Tree.scal (by exact trivial) _
  |0,Z=>absurd Z (by unfold Fm.depth;decide)
 |box h1 _=>exact fun n Z=>match n,Z with
  |n+1,_=>Tree.atup h1 (by show 2<1000;decide) fun x hx=>by
   simp only[aq,aV,or_false]at hx
   rcases hx with rfl|rfl<;>exact Tree.scal (by exact trivial) _
  |0,Z=>absurd Z (by unfold Fm.depth;decide)
 |long h1 _=>exact fun n Z=>match n,Z with
  |n+1,_=>Tree.atup h1 (by show 2<1000;decide) fun x hx=>by
   simp only[aq,aV,or_false]at hx
   rcases hx with rfl|rfl<;>exact Tree.scal (by exact trivial) _
  |0,Z=>absurd Z (by unfold Fm.depth;decide)
 |got h1=>exact fun n Z=>match n,Z with
  |n+1,_=>Tree.atup h1 (by show 2<1000;decide) fun x hx=>by
   simp only[aq,aV,or_false]at hx
   rcases hx with rfl|rfl<;>exact Tree.scal (by exact trivial) _
  |0,Z=>absurd Z (by unfold Fm.depth;decide)
 |now h1=>exact fun n Z=>match n,Z with
  |n+1,_=>Tree.atup h1 (by show 1<1000;decide) fun x hx=>by
   simp only[aq,aV,or_false]at hx
   rcases hx with rfl
   exact Tree.scal (by exact trivial) _
  |0,Z=>absurd Z (by unfold Fm.depth;decide)
 |two h1 _ _ _ Y W=>exact fun n Z=>match n,Z with
  |n+1,Z=>Tree.atup h1 (by show 3<1000;decide) fun x hx=>by
   unfold Fm.depth at Z;simp only[aq,aV,or_false]at hx
   rcases hx with rfl|rfl|rfl
   ·exact Tree.scal (by exact trivial) _
   ·exact Y n #[2]
   ·exact W n #[2]
  |0,Z=>absurd Z (by unfold Fm.depth;omega)
mutual
theorem eT.tree{bs qs:List Str}{H:Hp}:∀(d:Dd) (v:V) (n:Nat),eT bs qs H d v->2*d.deep+16<=n->Tree H n v
 |_,_,0,_,Y=>absurd Y #[2]
 |.put x f,v,n+1,h,Y=>by
  obtain⟨t,u,rfl,h1,h2,Z⟩:=(by simpa only[eT] using h);refine Tree.atup h1 (by show 3<1000;decide) fun y hy=>?_;simp only[aq,aV,or_false]at hy
  rcases hy with rfl|rfl|rfl
  ·exact Tree.scal (by exact trivial) _
  ·exact Tree.scal (by exact trivial) _
  ·exact Z.1.tree n (by have:=Z.2;omega)
 |.push q f,v,n+1,h,Y=>by
  obtain⟨t,u,rfl,h1,h2,Z⟩:=(by simpa only[eT] using h);refine Tree.atup h1 (by show 3<1000;decide) fun y hy=>?_;simp only[aq,aV,or_false]at hy
  rcases hy with rfl|rfl|rfl
  ·exact Tree.scal (by exact trivial) _
  ·exact Tree.scal (by exact trivial) _
  ·exact Z.1.tree n (by have:=Z.2;omega)
 |.pull q x o,v,n+1,h,Y=>by
  obtain⟨t,u,rfl,h1,h2,Z,l,vs,rfl,W,D,J⟩:=(by simpa only[eT] using h);unfold Dd.deep at Y;refine Tree.atup h1 (by show 4<1000;decide) fun y hy=>?_;simp only[aq,aV,or_false]at hy
  rcases hy with rfl|rfl|rfl|rfl
  ·exact Tree.scal (by exact trivial) _
  ·exact Tree.scal (by exact trivial) _
  ·exact Tree.scal (by exact trivial) _
  ·obtain⟨m,rfl⟩:∃m,n=m+1:={n-1,by omega};exact Tree.alst W D (fJ.tree o vs m J #[2])
 |.draw x f,v,n+1,h,Y=>by
  obtain⟨t,u,rfl,h1,h2,Z⟩:=(by simpa only[eT] using h);refine Tree.atup h1 (by show 3<1000;decide) fun y hy=>?_;simp only[aq,aV,or_false]at hy
  rcases hy with rfl|rfl|rfl
  ·exact Tree.scal (by exact trivial) _
  ·exact Tree.scal (by exact trivial) _
  ·exact Z.1.tree n (by have:=Z.2;omega)
 |.send to sg sp rk a b,v,n+1,h,Y=>by
  obtain⟨t,u,u1,u2,rfl,h1,h2,Z,W⟩:=(by simpa only[eT] using h);refine Tree.atup h1 (by show 7<1000;decide) fun y hy=>?_;simp only[aq,aV,or_false]at hy
  rcases hy with rfl|rfl|rfl|rfl|rfl|rfl|rfl
  ·exact Tree.scal (by exact trivial) _
  ·exact Tree.scal (by exact trivial) _
  ·exact Tree.scal (by exact trivial) _
  ·exact h2.1.tree n (by have:=h2.2;omega)
  ·exact Tree.scal (by exact trivial) _
  ·exact Z.1.tree n (by have:=Z.2;omega)
  ·exact W.1.tree n (by have:=W.2;omega)
 |.ife f x y,v,n+1,h,Y=>by
  obtain⟨t,u,u1,u2,rfl,h1,h2,⟨l,vs,rfl,O,I,M⟩,g,U,rfl,k1,k2,k3⟩:=(by simpa only[eT] using h);unfold Dd.deep at Y;refine Tree.atup h1 (by show 4<1000;decide) fun z hz=>?_;simp only[aq,aV,or_false]at hz;obtain⟨m,rfl⟩:∃m,n=m+1:={n-1,by omega}
  rcases hz with rfl|rfl|rfl|rfl
  ·exact Tree.scal (by exact trivial) _
  ·exact h2.1.tree _ (by have:=h2.2;omega)
  ·exact Tree.alst O I (fJ.tree x vs m M #[2])
  ·exact Tree.alst k1 k2 (fJ.tree y U m k3 #[2])
 |.fin,v,n+1,h,Y=>by
  obtain⟨t,rfl,h1⟩:=(by simpa only[eT] using h);refine Tree.atup h1 (by show 1<1000;decide) fun y hy=>?_;simp only[aq,aV,or_false]at hy;rw[hy];exact Tree.scal (by exact trivial) _
theorem fJ.tree{bs qs:List Str}{H:Hp}:∀(d:Ds) (vs:List V) (n:Nat),fJ bs qs H d vs->2*d.deep+16<=n->∀x∈vs,Tree H n x
 |.nil,vs,n,h,Z=>by
  have e:vs=[]:=by simpa only[fJ] using h
  subst e;intro x hx
  cases hx
 |.cons d r,vs,n,h,Z=>by
  obtain⟨v,Y,rfl,h1,h2⟩:=(by simpa only[fJ] using h);unfold Ds.deep at Z;intro x hx
  rcases aq.mp hx with rfl|hx
  ·exact eT.tree d _ n h1 #[2]
  ·exact fJ.tree r Y n h2 #[2] x hx
end
def BF(o:HO):Prop:=(∃xs,o=.tup xs)\/∃xs,o=.lst xs/\∀(i:Int) (r:List V),xs≠.int i::r
def dW(H H':Hp):Prop:=∀a o,H a=Z8 o->BF o->H' a=Z8 o
theorem dW.same(s:bj H H'):dW H H':=fun a o e _=>s _ _ e
theorem dW.trans(a:dW H H1)(b:dW H1 H2):dW H H2:=fun c o e n=>b _ _ (a _ _ e n) n
def Kp(own:List ae)(H G:Hp):Prop:=∀b o,H b=Z8 o->b∉own->G b=Z8 o
theorem Kp.refl(own:List ae)(H:Hp):Kp own H H:=fun _ _ e _=>e
theorem Kp.trans(a:Kp own H G)(b:Kp own G G'):Kp own H G':=fun c o e n=>b c o (a c o e n) n
theorem Kp.same(s:bj H G):Kp own H G:=fun c o e _=>s _ _ e
theorem Kp.but(s:But p H G)(m:p∈own):Kp own H G:=fun c o e n=>s _ _ e fun z=>n (by rw[z];exact m)
theorem Kp.upd{own:List ae}{H:Hp}{a:ae}{o:HO}(m:a∈own):Kp own H (upd H a o):=fun c u e n=>by
 rw[aQ fun z=>n (by rw[z];exact m)];exact e
theorem Kp.keepI(k:Kp own H G)(h:∀a∈own,∃(i:Int) (r:List V),H a=Z8 (.lst (.int i::r))):dW H G:=fun a o e n=>k a o e fun m=>by
 obtain⟨i,r,q⟩:=h a m;rw[q]at e
 cases e
 rcases n with⟨xs,n⟩|⟨xs,n,y⟩
 ·cases n
 ·cases n;exact y i r rfl
theorem dW.but(Z:d7 H p)(b:But p H H'):dW H H':=Kp.keepI (own:=[p]) (Kp.but b aB) fun a m=>by
 obtain⟨x,y,h⟩:=Z;rw[aK.mp m];exact{x,_,h}
theorem lU(xs:List V):BF (.tup xs):=.inl ⟨xs,Z9⟩
theorem Fe(Z:List Str):BF (.lst (Z.map V.str)):=.inr ⟨_,Z9,fun i r z=>by
 cases Z with
 |nil=>cases z
 |cons x xs=>cases z⟩
theorem FmI.keepI(k:dW H H')(h:FmI bs qs H v f):FmI bs qs H' v f:={h.1.mono fun t xs e=>k _ _ e (lU xs),h.2}
theorem fJ.ni(h:fJ bs qs H d vs):BF (.lst vs):=.inr ⟨vs,Z9,fun i r z=>by
 subst z
 cases d with
 |nil=>
  simp only[fJ]at h
  cases h
 |cons d r=>
  obtain⟨v,Z,e,h1,_⟩:=(by simpa only[fJ] using h)
  cases e;obtain⟨t,e⟩:=h1.ref
  cases e⟩
def Tk(H H':Hp):Prop:=∀(t:ae) (xs:List V),H t=Z8 (.tup xs)->H' t=Z8 (.tup xs)
def Nk(H H' H2:Hp):Prop:=∀(l:ae) (xs:List V),H l=Z7->BF (.lst xs)->H' l=Z8 (.lst xs)->H2 l=Z8 (.lst xs)
def OwD(bs qs:List Str)(H H':Hp)(d:Dd)(v:V):Prop:=∀H2,Tk H' H2->Nk H H' H2->eT bs qs H2 d v
def OwS(bs qs:List Str)(H H':Hp)(d:Ds)(vs:List V):Prop:=∀H2,Tk H' H2->Nk H H' H2->fJ bs qs H2 d vs
theorem Tk.refl(H:Hp):Tk H H:=fun _ _ e=>e
theorem Nk.refl(H H':Hp):Nk H H' H':=fun _ _ _ _ e=>e
theorem OwS.now(h:OwS bs qs H H' d v):fJ bs qs H' d v:=h H' (Tk.refl _) (Nk.refl _ _)
theorem dW.tk(k:dW H H'):Tk H H':=fun t xs e=>k _ _ e (lU xs)
theorem dW.nk(k:dW H' H1)(n:Nk H H1 H2):Nk H H' H2:=fun l xs h i e=>n l xs h i (k _ _ e i)
theorem OwS.keepI(h:OwS bs qs H H' d v)(k:dW H' H1):OwS bs qs H H1 d v:=fun H2 t n=>h H2 (fun a xs e=>t a xs (k.tk a xs e)) (k.nk n)
def Dm(H G:Hp):Prop:=∀a,G a=Z7->H a=Z7
theorem Dm.same(s:bj H G):Dm H G:=fun a n=>none_of s n
theorem Dm.trans(a:Dm H G)(b:Dm G G'):Dm H G':=fun x n=>a x (b x n)
theorem OwD.base(h:OwD bs qs H H' d v)(s:Dm H0 H):OwD bs qs H0 H' d v:=fun H2 t n=>h H2 t fun l xs Z i e=>n l xs (s l Z) i e
theorem OwS.base(h:OwS bs qs H H' d v)(s:Dm H0 H):OwS bs qs H0 H' d v:=fun H2 t n=>h H2 t fun l xs Z i e=>n l xs (s l Z) i e
theorem OwD.old(h:OwD bs qs H H' d v)(Y:H a≠Z7)(W:∀xs,H' a≠Z8 (.tup xs)):OwD bs qs H (upd H' a o) d v:=fun H2 t n=>h H2 (fun b xs e=>t b xs (by rw[aQ (fun z=>W xs (by rw[<- z];exact e))];exact e)) fun l xs Z i e=>n l xs Z i (by rw[aQ (fun z=>Y (by rw[<- z];exact Z))];exact e)
theorem OwS.old(h:OwS bs qs H H' d v)(Y:H a≠Z7)(W:∀xs,H' a≠Z8 (.tup xs)):OwS bs qs H (upd H' a o) d v:=fun H2 t n=>h H2 (fun b xs e=>t b xs (by rw[aQ (fun z=>W xs (by rw[<- z];exact e))];exact e)) fun l xs Z i e=>n l xs Z i (by rw[aQ (fun z=>Y (by rw[<- z];exact Z))];exact e)
theorem FmI.tk(h:FmI bs qs H v F)(t:Tk H H2):FmI bs qs H2 v F:={h.1.mono t,h.2}
section
variable{bs qs:List Str}{H H':Hp}{t:ae}{u u1 u2:V}{F F1 F2:Fm}{x q:Str}
theorem Rf(h:H' t=Z8 (.tup [.str "put",.str x,u]))(m:x∈bs)(f:FmI bs qs H' u F):OwD bs qs H H' (.put x F) (.ref t):=fun H2 k _=>by simp only[eT];exact{t,u,Z9,k _ _ h,m,f.tk k}
theorem Nl(h:H' t=Z8 (.tup [.str "push",.str q,u]))(m:q∈qs)(f:FmI bs qs H' u F):OwD bs qs H H' (.push q F) (.ref t):=fun H2 k _=>by simp only[eT];exact{t,u,Z9,k _ _ h,m,f.tk k}
theorem Nm(h:H' t=Z8 (.tup [.str "draw",.str x,u]))(m:x∈bs)(f:FmI bs qs H' u F):OwD bs qs H H' (.draw x F) (.ref t):=fun H2 k _=>by simp only[eT];exact{t,u,Z9,k _ _ h,m,f.tk k}
theorem Rg(h:H' t=Z8 (.tup [.str "end"])):OwD bs qs H H' .fin (.ref t):=fun H2 k _=>by simp only[eT];exact{t,Z9,k _ _ h}
theorem Nn(h:H' t=Z8 (.tup [.str "send",.int to,.str Z,u,.int rk,u1,u2]))(f:FmI bs qs H' u F)(f1:FmI bs qs H' u1 F1)(Y:FmI bs qs H' u2 F2):OwD bs qs H H' (.send to Z F rk F1 F2) (.ref t):=fun H2 k _=>by simp only[eT];exact{t,u,u1,u2,Z9,k _ _ h,f.tk k,f1.tk k,Y.tk k}
theorem Np(h:H' t=Z8 (.tup [.str "pull",.str q,.str x,.ref l]))(Y:q∈qs)(Z:x∈bs)(W:H l=Z7)(e:H' l=Z8 (.lst xs))(z:xs.length<1000)(D:OwS bs qs H H' d xs):OwD bs qs H H' (.pull q x d) (.ref t):=fun H2 k n=>by
 simp only[eT];exact{t,.ref l,Z9,k _ _ h,Y,Z,l,xs,Z9,n l xs W D.now.ni e,z,D H2 k n}
theorem Rh(h:H' t=Z8 (.tup [.str "if",u,.ref l,.ref Z]))(f:FmI bs qs H' u F)(O:H l=Z7)(e:H' l=Z8 (.lst xs))(z:xs.length<1000)(D:OwS bs qs H H' d xs)(Y:H Z=Z7)(U:H' Z=Z8 (.lst ys))(M:ys.length<1000)(W:OwS bs qs H H' d' ys):OwD bs qs H H' (.ife F d d') (.ref t):=fun H2 k n=>by
 simp only[eT];exact{t,u,.ref l,.ref Z,Z9,k _ _ h,f.tk k,{l,xs,Z9,n l xs O D.now.ni e,z,D H2 k n},Z,ys,Z9,n Z ys Y W.now.ni U,M,W H2 k n}
theorem Nq:OwS bs qs H H' .nil []:=fun _ _ _=>by simp only[fJ]
end
def abc:Str:="abcdefghijklmnopqrstuvwxyz"
theorem Ff:abc.cps.toList.length=26:=by decide +kernel
theorem zf:abc.length<=aD:=by decide +kernel
theorem Ri(h0:0<=z)(h1:z<26):∃c,atI abc.cps.toList z=Z8 c:=by
 obtain⟨j,rfl⟩:∃j:Nat,z=(j:Int):={z.toNat,by omega};have l:j<abc.cps.toList.length:=by rw[Ff];omega
 exact{abc.cps.toList[j],iO (aw l)}
theorem BG(x y:Str):(x++y).length=x.length+y.length:=by
 show (x++y).cps.size=x.cps.size+y.cps.size;show (x.cps++y.cps).size=_;rw[Array.size_append]
theorem uR(P:Nat->Hp->Prop)(hi:∀R:VK,(∀(m:Nat) (H1:Hp),P m H1->R (.int m) H1)->W σ H R)(hb:∀m H1,P m H1->m<1000)(Z:Nat->Hp->Nat->List V->Hp->Prop)(h0:∀m H1,P m H1->Z m H1 0 [] H1)(J:∀m H1,P m H1->∀i ys H,i<=m->Z m H1 i ys H->ys.length<aD)
  (hs:∀m H1,P m H1->∀i ys H,i<m->Z m H1 i ys H->g (.int (0+i)) (cy n Z7++σ) H fun Y H2=>Y.drop n=σ/\tc Y H2 fun b U=>if b=true then te Y U fun y O=>Z m H1 (i+1) (ys++[y]) O else Z m H1 (i+1) ys U)
  (M:∀m H1,P m H1->∀ys H,Z m H1 m ys H->∀p,H p=Z7->Q (.ref p) (upd H p (.lst ys))):vh n (HW (oI W Cr)) g tc te σ H Q:=
 hi _ fun m H1 p=>⟨(m:Int),Z9,by have:=hb m H1 p;omega,by have:=hb m H1 p;omega,by
  rw[gL];exact Je (Z m H1) (h0 m H1 p) (J m H1 p) (hs m H1 p) (M m H1 p)⟩
theorem vK(h:d7 G p)(n:G a=Z7):a≠p:=by
 obtain⟨x,y,e⟩:=h;exact (aJ e n).symm
theorem uS(h:d7 G p)(n:a≠p):d7 (upd G a o) p:=by
 obtain⟨x,y,e⟩:=h;exact{x,y,by rw[aQ n.symm];exact e}
theorem nc(hi:∀R:VK,R (.ref a) H->W σ H R)(hx:SqL K H a xs)(Z:Nat->List V->Hp->Prop)(h0:Z 0 [] H)(J:∀i ys H,i<=xs.length->Z i ys H->SqL K H a xs/\ys.length<aD)
  (hs:∀i x ys H,xs[i]?=Z8 x->Z i ys H->g x (cy n Z7++σ) H fun Y H2=>Y.drop n=σ/\tc Y H2 fun b U=>if b=true then te Y U fun y O=>Z (i+1) (ys++[y]) O else Z (i+1) ys U)
  (M:∀ys H,Z xs.length ys H->∀p,H p=Z7->Q (.ref p) (upd H p (.lst ys))):vh n (Og K W) g tc te σ H Q:=
 hi _ {a,Z9,⟨xs,hx⟩,yQ Z h0 J hs M}
section
variable{P:aI}{w:aY}{K:ag}{mg:Str->Option af}{base:cb}{f fD:ae}{fd fdD:bY}
seal PS PSs PE PA PT PW PI PG PGs PC
abbrev pD:List Str:=["_law_purse_here","_law_out_of"]
abbrev nW:List Str:=["_law_purse_here"]
abbrev pW:List Str:=["_law_purse_here"]
theorem scW:bM nW pW (aR fX):=e7
def wD:Sp:=fun vs H Q _=>∃p:ae,vs=[.ref p]/\d7 H p/\∀(r:Int) (H':Hp),-(10^15)<=r->r<=10^15->d7 H' p->But p H H'->Q (.int r) H'
theorem xI(D:Df K mg "_law_worth" fX pW f fd)(U:Df K mg "_law_draw" eS pD fD fdD)(B:Bl mg):bN P w K mg base CX0 2 f fd pW wD:=by
 have J:bN P w K mg base CX0 1 fD fdD pD kY:=lA U;refine D.F.ok scW #[3] (fun t A outer s H vs Q E hr h=>?_)
 ·obtain⟨p,rfl,_⟩:=h;rfl
 obtain⟨p,rfl,pu,q⟩:=h;have M:dJ 1 _:=hr;refine⟨_,ar (cR (bO ff (pcl J M U (bE (pv 0) (dR aA ao))) aA) (aF (bQ (cM lP (pcl J M U (bE (pv 0) (sR (cM ie (cM r9 aA (cM sj aA aA)) aA) ao))) (cM sj aA aA)))) b9)
  (aF (bQ (cM lP (pcl J M U (bE (pv 0) (dR aA ao))) aA))),?_⟩
 have W:Cg 10 15:={by decide,by decide,by decide};have Y:(10:Int)^(15:Int).toNat=1000000000000000:=by decide
 have I:(10:Int)^15=1000000000000000:=by decide
 refine cJ (gs {_,Z9,p,6,Z9,pu,by decide,by decide,fun r G r0 r6 V z=>?_});refine{Z9,_,Z9,gA (fun _=>?_) (fun _=>?_)}
 ·refine eZ {_,Z9,_,_,Z9,Z9,W,_,_,Z9,Z9,.inl {by decide,by decide},_,_,Z9,Z9,p,_,Z9,V,by decide,by decide,fun x G2 g x1 Z O=>{_,_,Z9,Z9,W,_,_,Z9,Z9,q _ _ ?_ ?_ Z (z.trans O)}}
  ·rw[Y];omega
  ·have x1:x<2*(10:Int)^(15:Int).toNat+1:=x1;rw[Y]at x1;rw[Y];omega
 ·dsimp only[lV];refine eZ {_,Z9,p,13,Z9,V,by decide,by decide,fun x G2 g x1 Z O=>{_,_,Z9,Z9,q _ _ #[2] #[2] Z (z.trans O)}}
end
structure Lf(H:Hp)(p lf:ae):Prop where
 pu:d7 H p
 hl:∃k:Int,H lf=Z8 (.lst [.int k])
theorem Lf.int(h:Lf H p Z):∀a∈[p,Z],∃(i:Int) (r:List V),H a=Z8 (.lst (.int i::r)):=fun a m=>by
 obtain⟨x,y,e⟩:=h.pu;obtain⟨z,Y⟩:=h.hl
 rcases aq.mp m with rfl|m
 ·exact{x,_,e}
 ·rw[aK.mp m];exact{z,_,Y}
theorem Lf.ne(h:Lf H p Z):Z≠p:=by
 obtain⟨x,y,e⟩:=h.pu;obtain⟨z,Y⟩:=h.hl;exact kg Y e (by intro q;cases q)
theorem Lf.but(h:Lf H p Z)(b:But p H H')(Y:d7 H' p):Lf H' p Z:=by
 obtain⟨z,W⟩:=h.hl;exact{Y,z,b _ _ W h.ne}
theorem Lf.same(h:Lf H p Z)(s:bj H H'):Lf H' p Z:=by
 obtain⟨z,Y⟩:=h.hl;exact{h.pu.same s,z,s _ _ Y}
def qX:Ds->Dd->Ds
 |.nil,d=>.cons d .nil
 |.cons a r,d=>.cons a (qX r d)
theorem Fg(Z:eT bs qs H d v):∀(ds:Ds) (xs:List V),fJ bs qs H ds xs->fJ bs qs H (qX ds d) (xs++[v])
 |.nil,xs,h=>by
  have e:xs=[]:=by simpa only[fJ] using h
  subst e;unfold qX;simp only[fJ];exact{v,[],Z9,Z,Z9}
 |.cons a r,xs,h=>by
  obtain⟨u,Y,rfl,h1,h2⟩:=(by simpa only[fJ] using h);unfold qX;simp only[fJ];exact{u,Y++[v],Z9,h1,Fg Z r Y h2}
theorem Fh(Z:d.toOk m):∀ds:Ds,ds.toOk m->(qX ds d).toOk m
 |.nil,_=>⟨Z,trivial⟩
 |.cons a r,h=>{h.1,Fh Z r h.2}
theorem zg(d:Dd):∀ds:Ds,(qX ds d).deep=max ds.deep d.deep
 |.nil=>by
  show max d.deep 0=max 0 d.deep;exact Nat.max_comm _ _
 |.cons a r=>by
  show max a.deep (qX r d).deep=max (max a.deep r.deep) d.deep;rw[zg d r];exact (Nat.max_assoc _ _ _).symm
theorem zh(d:Dd):∀ds:Ds,(qX ds d).size=ds.size+d.size
 |.nil=>by
  show d.size+0=0+d.size;omega
 |.cons a r=>by
  show a.size+(qX r d).size=a.size+r.size+d.size;rw[zh d r];omega
theorem Kn(a:OwS bs qs H H' ds xs)(b:OwD bs qs H H' d v):OwS bs qs H H' (qX ds d) (xs++[v]):=fun H2 k n=>Fg (b H2 k n) ds xs (a H2 k n)
theorem Nr:∀n,1<=ddz n
 |0=>ay _
 |n+1=>by
  show 1<=1+3*ddz n;omega
theorem Kp.dm(k:Kp own H G)(h:∀a∈own,∃o,G a=Z8 o):Dm H G:=fun a n=>by
 cases e:H a with
 |none=>rfl
 |some o=>
  by_cases m:a∈own
  ·obtain⟨u,q⟩:=h a m;rw[q]at n
   cases n
  ·rw[k a o e m]at n
   cases n
theorem Lf.there(h:Lf H p Z):∀a∈[p,Z],∃o,H a=Z8 o:=fun a m=>by
 obtain⟨i,r,e⟩:=h.int a m;exact{_,e}
def HsO(bs qs:List Str)(H H':Hp)(v:V)(q:Str×Ds):Prop:=∃t l xs,v=.ref t/\H' t=Z8 (.tup [.str q.1,.ref l])/\H l=Z7/\H' l=Z8 (.lst xs)/\xs.length<1000/\OwS bs qs H H' q.2 xs
theorem HsO.keepI(k:dW H' H1)(h:HsO bs qs H H' v q):HsO bs qs H H1 v q:=by
 obtain⟨t,l,xs,e,h1,h2,W,Y,Z⟩:=h;exact{t,l,xs,e,k _ _ h1 (lU _),h2,k _ _ W Z.now.ni,Y,Z.keepI k}
theorem HsO.old(h:HsO bs qs H H' v q)(Y:H a≠Z7)(Z:∀xs,H' a≠Z8 (.tup xs)):HsO bs qs H (upd H' a o) v q:=by
 obtain⟨t,l,xs,e,h1,h2,W,U,O⟩:=h;exact{t,l,xs,e,bh h1 (fun z=>Z _ (by rw[<- z];exact h1)),h2,bh W (fun z=>Y (by rw[<- z];exact h2)),U,O.old Y Z}
theorem HsO.base(h:HsO bs qs H H' v q)(s:Dm H0 H):HsO bs qs H0 H' v q:=by
 obtain⟨t,l,xs,e,h1,h2,Y,Z,W⟩:=h;exact{t,l,xs,e,h1,s l h2,Y,Z,W.base s}
structure Mch(m:Int)(H H':Hp)(t:ae)(nm:Str)(bs qs:List Str)(ds:List Int)(hs:List (Str×Ds))(ps:List (Str×Int)):Prop where
 ex:∃(bl ql dl hl:ae) (vb hv:List V),H' t=Z8 (.tup [.str nm,.ref bl,.ref ql,.ref dl,.ref hl])/\H' bl=Z8 (.lst vb)/\ic H' ps vb/\H' ql=Z8 (.lst (qs.map V.str))/\H' dl=Z8 (.lst (ds.map V.int))/\H' hl=Z8 (.lst hv)/\aN (HsO bs qs H H') hv hs/\H bl=Z7/\H ql=Z7/\H dl=Z7/\H hl=Z7
 kb:ps.map (·.1)=bs
 nb:bs.Nodup
 nq:qs.Nodup
 lb:bs.length<=9
 lq:qs.length<=9
 ld:ds.length<=100
 lh:hs.length<=9
 wb:∀q∈ps,Wo q.2
 hk:∀q∈hs,q.2.toOk m/\q.2.deep<=4/\q.2.size<=3*ddz 3
def MIn(m:Int)(H H':Hp)(v:V)(M:MD):Prop:=∃t,v=.ref t/\Mch m H H' t M.nm M.bs M.qs M.ds M.hs M.ps
theorem Mch.but(Z:d7 H p)(pu:d7 H' p)(b:But p H' H1)(h:Mch m H H' t nm bs qs ds hs ps):Mch m H H1 t nm bs qs ds hs ps:=by
 have k:=dW.but pu b;have np:∀{a:ae},H a=Z7->a≠p:=fun {a} e z=>by
  obtain⟨x,y,q⟩:=Z;rw[z,q]at e
  cases e
 obtain⟨⟨bl,O,U,hl,M,hv,h1,h2,h3,h4,h5,g,J,f1,W,Y,V⟩,I,nb,nq,lb,lq,ld,D,wb,hk⟩:=h;exact{{bl,O,U,hl,M,hv,k _ _ h1 (lU _),b _ _ h2 (np f1),ic.tups (fun a xs e=>k _ _ e (lU xs)) h3,b _ _ h4 (np W),b _ _ h5 (np Y),b _ _ g (np V),Paired.mono (fun v q z=>HsO.keepI k z) J,f1,W,Y,V},I,nb,nq,lb,lq,ld,D,wb,hk}
theorem Mch.same(b:bj H' H1)(h:Mch m H H' t nm bs qs ds hs ps):Mch m H H1 t nm bs qs ds hs ps:=by
 obtain⟨⟨bl,Y,Z,hl,W,hv,h1,h2,g,h4,h5,J,V,f1,f2,O,f4⟩,U,nb,nq,I,lq,D,M,wb,hk⟩:=h;exact{{bl,Y,Z,hl,W,hv,b _ _ h1,b _ _ h2,ic.same b g,b _ _ h4,b _ _ h5,b _ _ J,Paired.mono (fun v q z=>HsO.keepI (dW.same b) z) V,f1,f2,O,f4},U,nb,nq,I,lq,D,M,wb,hk}
theorem Mch.base(s:Dm H0 H)(h:Mch m H H' t nm bs qs ds hs ps):Mch m H0 H' t nm bs qs ds hs ps:=by
 obtain⟨⟨bl,Y,Z,hl,W,hv,h1,h2,g,h4,h5,J,V,f1,f2,O,f4⟩,U,nb,nq,I,lq,D,M,wb,hk⟩:=h;exact{{bl,Y,Z,hl,W,hv,h1,h2,g,h4,h5,J,Paired.mono (fun v q z=>HsO.base z s) V,s _ f1,s _ f2,s _ O,s _ f4},U,nb,nq,I,lq,D,M,wb,hk}
theorem But.dm(b:But p H G)(Z:d7 G p):Dm H G:=fun a n=>by
 cases e:H a with
 |none=>rfl
 |some o=>
  by_cases c:a=p
  ·obtain⟨x,y,q⟩:=Z;rw[c,q]at n
   cases n
  ·rw[b a o e c]at n
   cases n
theorem t8:∀{ps:List (Str×Int)} {vs:List V},ic H ps vs->aN (fun v (x:Str)=>∃a n,v=.ref a/\H a=Z8 (.tup [.str x,n])) vs (ps.map (·.1))
 | [],_,h=>by
  cases h;exact .nil
 |p::ps,_,h=>by
  cases h with
  |cons a b=>
   obtain⟨t,e,h⟩:=a;exact .cons {t,_,e,h} (t8 (ps:=ps) b)
theorem pQ{α:Type}{R:V->α->Prop}:∀{xs:List V} {as:List α},aN R xs as->∀x∈xs,∃a∈as,R x a
 |_,_,.nil,_,h=>by cases h
 |_,_,.cons a b,x,h=>by
  rcases aq.mp h with z|z
  ·exact{_,aB,by rw[z];exact a}
  ·obtain⟨c,hc,r⟩:=pQ b x z;exact{c,aj _ hc,r}
theorem MIn.moI(h:MIn m H H' v M):MoI m H' v M:=by
 obtain⟨t,rfl,⟨bl,Z,J,hl,Y,hv,h1,h2,U,O,h5,h6,h7,f1,f2,f3,f4⟩,W,nb,nq,lb,lq,ld,lh,wb,hk⟩:=h;refine{{t,bl,Z,J,hl,_,Y,hv,Z9,h1,h2,by rw[<- W];exact t8 U,O,h5,h6,Paired.mono (fun v q z=>?_) h7},{t,bl,Z,_,_,_,Y,Z9,h1,h2,U,O},W,nb,nq,lb,lq,ld,lh,wb,hk};obtain⟨u,l,xs,e,I,g2,g3,D,g⟩:=z;exact{u,.ref l,e,I,l,xs,Z9,g3,D,g.now}
theorem MIn.tree(h:MIn m H H' v M):Tree H' 28 v:=by
 obtain⟨t,rfl,⟨bl,ql,dl,hl,vb,hv,h1,h2,Y,g,h5,D,Z,f1,f2,f3,f4⟩,J,nb,nq,lb,lq,ld,lh,wb,hk⟩:=h;have bG:M.ps.length<=9:=by
  have:=congrArg i5 J;rw[ah]at this;omega
 refine Tree.atup h1 (by show 5<1000;decide) fun y hy=>?_;simp only[aq,aV,or_false]at hy
 rcases hy with rfl|rfl|rfl|rfl|rfl
 ·exact Tree.scal (by exact trivial) _
 ·exact Tree.alst h2 (by rw[<- Y.length];omega) fun z hz=>Y.tree (n:=25) z hz
 ·refine Tree.alst g (by rw[ah];omega) fun z hz=>?_;obtain⟨x,_,rfl⟩:=cB.mp hz;exact Tree.scal (by exact trivial) _
 ·refine Tree.alst h5 (by rw[ah];omega) fun z hz=>?_;obtain⟨x,_,rfl⟩:=cB.mp hz;exact Tree.scal (by exact trivial) _
 ·refine Tree.alst D (by rw[aL Z];omega) fun z hz=>?_;obtain⟨q,hq,u,l,xs,rfl,W,g2,I,U,O⟩:=pQ Z z hz;refine Tree.atup W (by show 2<1000;decide) fun y hy=>?_;simp only[aq,aV,or_false]at hy
  rcases hy with rfl|rfl
  ·exact Tree.scal (by exact trivial) _
  ·exact Tree.alst I U fun z hz=>fJ.tree q.2 xs 24 O.now (by have:=(hk q hq).2.1;omega) z hz
theorem Dw.alike(h:Dw H v M)(al:Alike H H' 28 v J):Dw H' J M:=by
 obtain⟨t,bl,ql,n0,x3,x4,vb,rfl,h1,h2,h3,h4⟩:=h;obtain⟨t',g,rfl,W,Z⟩:=uG h1 al;obtain⟨z0,Y,rfl,a0,Z⟩:=dN Z;obtain⟨z1,Y,rfl,a1,Z⟩:=dN Z;obtain⟨z2,Y,rfl,a2,Z⟩:=dN Z;obtain⟨z3,Y,rfl,a3,Z⟩:=dN Z;obtain⟨z4,Y,rfl,a4,Z⟩:=dN Z;obtain rfl:=oW Z;obtain⟨D,U,rfl,I,d1⟩:=rh h2 a1;obtain⟨q',vq,rfl,O,d2⟩:=rh h4 a2;rw[jS d2 (by intro x hx;obtain⟨z,_,rfl⟩:=cB.mp hx;exact trivial)]at O;exact{t',D,q',z0,z3,z4,U,Z9,W,I,h3.alike d1,O}
theorem Nt(h:H Z=Z8 (.lst xs))(p:aN (MIn m H0 H) xs Ms)(l:Ms.length<1000):Tree H 29 (.ref Z):=
 Tree.alst h (by rw[aL p];exact l) fun x hx=>by
  obtain⟨M,_,z⟩:=pQ p x hx;exact z.tree
theorem Nu(h:H W=Z8 (.lst xs))(p:aN (MIn m H0 H) xs Ms)(O:Alike H H2 29 (.ref W) Y):∃Z,Y=.ref Z/\Gu m H2 Z Ms:=by
 obtain⟨Z,ys,rfl,h1,U⟩:=rh h O;refine{Z,Z9,ys,h1,uM (R:=MIn m H0 H) (S:=Alike H H2 28) (T:=Tree H 28) (fun v M Y a b c=>?_) p U fun x hx=>?_}
 ·have z:=a.moI;exact{z.ma.alike c b,z.fs.alike b,z.kb,z.nb,z.nq,z.lb,z.lq,z.ld,z.lh,z.wb,z.hk}
 ·obtain⟨M,_,z⟩:=pQ p x hx;exact z.tree
theorem Rj:abc.cps.toList.Nodup:=by decide +kernel
def GN(b:Nat)(Z:List Str):Prop:=∀i s,Z[i]?=Z8 s->∃c,abc.cps.toList[b+i]?=Z8 c/\s.cps.toList[0]?=Z8 c
theorem Nv{i j:Nat} {c} (hi:abc.cps.toList[i]?=Z8 c) (Y:abc.cps.toList[j]?=Z8 c):i=j:=by
 have Z:=(aC.mp hi).1;exact (List.getElem?_inj Z Rj).mp (hi.trans Y.symm)
theorem Nx{n:Nat}(h1:n<26):∃c,abc.cps.toList[n]?=Z8 c/\atI abc.cps.toList (n:Int)=Z8 c:=by
 have l:n<abc.cps.toList.length:=by rw[Ff];omega
 exact{abc.cps.toList[n],aw l,iO (aw l)}
theorem GN.nodup(h:GN b Y):Y.Nodup:=by
 refine cT.mpr fun i j O V W e=>?_;obtain⟨c,a1,a2⟩:=h i _ (aw O);obtain⟨d,U,Z⟩:=h j _ (aw V);rw[<- e,a2]at Z
 cases Z;have z:=Nv a1 U;omega
theorem GN.snoc {c} (h:GN b Z) (h2:abc.cps.toList[b+Z.length]?=Z8 c) (V:s.cps.toList[0]?=Z8 c):GN b (Z++[s]):=by
 intro i x e
 by_cases hi:i<Z.length
 ·rw[d8 hi]at e;exact h i x e
 ·rw[dh #[2]]at e;obtain⟨W,_⟩:=aC.mp e;have W:i-Z.length<1:=W;have Y:i=Z.length:=by omega
  subst Y;rw[vH]at e
  cases e;exact⟨c,h2,V⟩
theorem An{x y:Str} {c} (h:x.cps.toList[0]?=Z8 c):(x++y).cps.toList[0]?=Z8 c:=by
 show (x.cps++y.cps).toList[0]?=Z8 c;rw[Array.toList_append,d8 (aC.mp h).1];exact h
section
variable{P:aI}{w:aY}{K:ag}{mg:Str->Option af}{base:cb}{f fD fNm:ae}{fd fdD fdNm:bY}
seal PS PSs PE PA PT PW PI PG PGs PC
abbrev nNm:List Str:=["_law_purse_here","_law_long","_law_word","_law_k"]
abbrev pNm:List Str:=["_law_purse_here","_law_long"]
theorem Ny:bM nNm pNm (aR pJ):=e7
inductive O7(vs:List V)(H:Hp)(Q:VK)(_e:XK):Prop where
 |mk(p:ae)(n:Int)(_:vs=[.ref p,.int n])(_:d7 H p)(_:0<n)(_:n<=9)(_:∀(s:Str) (H':Hp),s.length<=9->d7 H' p->But p H H'->Q (.str s) H'):O7 vs H Q _e
def spNm:Sp:=fun vs H Q Z=>O7 vs H Q Z
theorem ok_nm(D:Df K mg "_law_name" pJ pNm f fd)(W:Df K mg "_law_draw" eS pD fD fdD)(B:Bl mg):bN P w K mg base CX0 2 f fd pNm spNm:=by
 have M:bN P w K mg base CX0 1 fD fdD pD kY:=lA W;refine D.F.ok Ny #[3] (fun J A outer s H vs Q E hr h=>?_)
 ·obtain⟨p,n,rfl,_⟩:=h;rfl
 obtain⟨p,n,rfl,t,n0,n9,q⟩:=h;have O:dJ 1 _:=hr;refine⟨_,ar (pst 2 Ny bX)
  (ar (iE cw rfl (je #[7] B.range (sR (cM ie aA (pcl M O W (bE (pv 0) (bE (pv 1) ao)))) ao)) (pgn 3 Ny) (aF (pst 2 Ny (cM wW (pv 2) (bR Ir bX (pcl M O W (bE (pv 0) (dR aA ao))))))))
  (aF (bQ (pv 2)))),?_⟩
 have big:=eJ;refine cJ (cV (bU ?_));dsimp only;refine cJ {_,Z9,_,Z9,p,n,Z9,t,by omega,by omega,fun r G r0 g Z Y=>{_,_,Z9,Z9,1+r,Z9,by omega,by omega,?_}};refine qZ (n:=(1+r).toNat) (fun i σ G=>∃(w:Str) (u:Option V),σ=[Z8 (.ref p),Z8 (.int n),Z8 (.str w),u]/\w.length=i/\d7 G p/\But p H G) {_,_,Z9,Z9,Z,Y} ?_ ?_
 ·rintro i σ G hi ⟨w,u,rfl,hw,Z,Y⟩;refine cV {_,Z9,_,Z9,p,26,Z9,Z,by decide,by decide,fun x G2 I x1 U z=>?_};obtain⟨c,hc⟩:=Ri I x1;refine{abc,_,c,Z9,Z9,zf,hc,w,{#[c]},Z9,Z9,?_,?_}
  ·show w.length+1<=aD;omega
  ·exact{_,_,Z9,by rw[BG,hw];rfl,U,Y.trans z}
 ·rintro σ G ⟨w,u,rfl,hw,Z,Y⟩;dsimp only;exact eZ {_,Z9,q w G #[2] Z Y}
abbrev nN:List Str:=["_law_purse_here","_law_many","_law_first"]
abbrev pN:List Str:=["_law_purse_here","_law_many","_law_first"]
theorem scN:bM nN pN (aR lH):=e7
theorem ndN:((["_law_k"]:List Str)++nN).Nodup:=by decide +kernel
inductive BH(vs:List V)(H:Hp)(Q:VK)(_e:XK):Prop where
 |mk(p:ae)(n fs:Nat)(_:vs=[.ref p,.int n,.int fs])(_:d7 H p)(_:n<=9)(_:fs+n<=26)(_:∀(l:ae) (ss:List Str) (H':Hp),H l=Z7->H' l=Z8 (.lst (ss.map V.str))->ss.length=n->ss.Nodup->d7 H' p->But p H H'->Q (.ref l) H'):BH vs H Q _e
def Fi:Sp:=fun vs H Q Z=>BH vs H Q Z
theorem Ko(D:Df K mg "_law_names" lH pN f fd)(W:Df K mg "_law_name" pJ pNm fNm fdNm)(DD:Df K mg "_law_draw" eS pD fD fdD)(B:Bl mg):bN P w K mg base CX0 3 f fd pN Fi:=by
 have O:bN P w K mg base CX0 2 fNm fdNm pNm spNm:=ok_nm W DD B;refine D.F.ok scN #[3] (fun bu A outer s H vs Q E hr h=>?_)
 ·obtain⟨p,n,fs,rfl,_⟩:=h;rfl
 obtain⟨p,n,fs,rfl,pu,n9,bt,q⟩:=h;have r2:dJ 2 _:=hr;refine{_,aF (bQ (kZ ["_law_k"] (iG.open (NN:=nN) (N:=nN) (sc:=aR lH) rfl rfl #[1] rfl #[1] #[1] rfl #[1]) rfl (je #[7] B.range (bE (pv 1) ao)) (fun _ _ _ _=>iM (i:=0) ndN rfl (Or.inl rfl)) (fun _ _ _ _=>jP) (fun _ _ _ _=>cM wW (bR Ir bX (cM ie (pv 3) (pv 0))) (pcl O r2 W (bE (pv 1) (dR aA ao)))))),?_};have big:=eJ;refine eZ ?_;refine uR (fun m G'=>m=n/\G'=H) (fun R g=>{_,Z9,g n H ⟨Z9,Z9⟩}) (fun m G' h=>by omega) (fun m G' i ys G=>∃Z:List Str,ys=Z.map V.str/\Z.length=i/\GN fs Z/\d7 G p/\But p H G) ?_ ?_ ?_ ?_
 ·rintro m G' ⟨rfl,rfl⟩;exact{[],Z9,Z9,(fun i x e=>by cases e),pu,But.refl _ _}
 ·rintro m G' ⟨rfl,rfl⟩ i ys G hi ⟨Z,rfl,hs,_⟩;rw[ah];omega
 ·rintro m G' ⟨rfl,rfl⟩ i ys G hi ⟨Z,rfl,hs,M,Y,U⟩;refine bU {Z9,?_};unfold tM;refine iU ?_;obtain⟨c,J,hc⟩:=Nx (n:=fs+i) #[2];refine{_,Z9,_,Z9,_,_,Z9,Z9,abc,_,c,Z9,Z9,zf,(by rw[show (fs:Int)+(0+(i:Int))=((fs+i:Nat):Int) by omega];exact hc),_,Z9,p,5,Z9,Y,by decide,by decide,fun s' G2 ls I t=>{_,_,Z9,Z9,?_,?_}}
  ·show 1+s'.length<=aD;omega
  ·exact{Z++[{#[c]}++s'],by rw[bA];rfl,by rw[au,hs];rfl,M.snoc (c:=c) (by rw[hs];exact J) (An rfl),I,U.trans t}
 ·rintro m G' ⟨rfl,rfl⟩ ys G ⟨Z,rfl,hs,M,Y,U⟩ l z;have st:=aG z (.lst (Z.map V.str));exact q l Z _ (U.dm Y l z) ak hs M.nodup (Y.same st) (U.same st)
end
theorem t9{bs:List Str}(Y:d7 H p)(hb:H Z=Z8 (.lst (bs.map V.str))):Z≠p:=by
 obtain⟨x,y,e⟩:=Y;refine kg hb e fun z=>?_
 cases bs with
 |nil=>cases z
 |cons b r=>cases z
theorem lK{bs:List Str}{r:Int}(h0:0<=r)(h1:r<bs.length):∃x,atI (bs.map V.str) r=Z8 (.str x)/\x∈bs:=by
 obtain⟨j,rfl⟩:∃j:Nat,r=(j:Int):={r.toNat,by omega};have lt:j<bs.length:=by omega
 exact{bs[j],iO (by rw[bT,aw lt];rfl),lO lt}
theorem kf.but(Z:d7 H p)(b:But p H H')(h:kf bs qs H v f):kf bs qs H' v f:=h.mono fun t xs e=>dW.but Z b _ _ e (lU xs)
theorem rq(h:-1000000<=n/\n<=1000000):Wo n:=by
 have e:(10:Int)^15=1000000000000000:=by decide
 unfold Wo;omega
def Ao:List Str:=["plus","less","times","part","rest","below","same","plus"]
theorem Kq(h0:0<=r)(h1:r<8):∃x,atI (Ao.map V.str) r=Z8 (.str x)/\x∈Bu:=by
 obtain⟨x,hx,m⟩:=lK (bs:=Ao) h0 h1;refine{x,hx,?_};have:∀y∈Ao,y∈Bu:=by decide +kernel
 exact this x m
theorem oF(Z:H a=Z7)(o:HO):upd H a o a=Z8 o:=ak
theorem xJ(I:St->Hp->Prop)(hu:∀Z H',I Z H'->u D Z H')(h:∀N:St->Hp->Prop,(∀Z H',I Z H'->N Z H')->t {D with nx:=N} σ H):LD t u D σ H:=h _ hu
theorem rA{xs:List V}(h:(!xs.isEmpty)=true):0<xs.length:=by
 cases xs with
 |nil=>cases h
 |cons y ys=>exact nU _
theorem Ap{x y:V}:atI [x,y] (if b=true then 1 else 0)=Z8 (if b=true then y else x):=by
 cases b<;>rfl
section
variable{P:aI}{w:aY}{K:ag}{mg:Str->Option af}{base:cb}{f fD fW:ae}{fd fdD fdW:bY}{bs qs:List Str}
seal PS PSs PE PA PT PW PI PG PGs PC
abbrev nFo:List Str:=["_law_purse_here","_law_low","_law_boxes","_law_queues","_law_pick","_law_word","_law_one"]
abbrev pFo:List Str:=["_law_purse_here","_law_low","_law_boxes","_law_queues"]
theorem Nz:bM nFo pFo (aR iH):=e7
inductive O8(bs qs:List Str)(n:Nat)(vs:List V)(H:Hp)(Q:VK)(_e:XK):Prop where
 |mk(p lb lq:ae)(d:Nat)(_:vs=[.ref p,.int d,.ref lb,.ref lq])(_:d<n)(_:d7 H p)(_:H lb=Z8 (.lst (bs.map V.str)))(_:H lq=Z8 (.lst (qs.map V.str)))(_:bs.length<=9)(_:qs.length<=9)(_:∀(v:V) (F:Fm) (H':Hp),kf bs qs H' v F->F.depth<=d+1->d7 H' p->But p H H'->Q v H'):O8 bs qs n vs H Q _e
def Kr(bs qs:List Str)(n:Nat):Sp:=fun vs H Q Z=>O8 bs qs n vs H Q Z
theorem NA(D:Df K mg "_law_formula" iH pFo f fd)(DD:Df K mg "_law_draw" eS pD fD fdD)(DW:Df K mg "_law_worth" fX pW fW fdW)(B:Bl mg)(GR:bN P w K mg base CX0 (n+2) f fd pFo (Kr bs qs n)):bN P w K mg base CX0 (n+3) f fd pFo (Kr bs qs (n+1)):=by
 have GD:bN P w K mg base CX0 1 fD fdD pD kY:=lA DD;have GW:bN P w K mg base CX0 2 fW fdW pW wD:=xI DW DD B;refine D.F.ok Nz #[3] (fun du A outer s H vs Q E hr h=>?_)
 ·obtain⟨p,g,lq,d,rfl,_⟩:=h;rfl
 obtain⟨p,g,lq,d,rfl,dn,pu,hb,hq,eg,ef,k⟩:=h;have ec:=IS hr;have r1:dJ 1 _:=hr.mono #[2];have r2:dJ 2 _:=hr.mono #[2];refine⟨_,ar (pst 4 Nz (pcl GD r1 DD (bE (pv 0) (m9 (bR dD (eO (dR aA (dR aA ao))) (iQ q5 #[7] B.int boot_int (av (vP rL (pv 1) aA) ao))) ao))))
  (ar (cR (bO rK (pv 4) aA) (aF (bQ (dX (dR bX (jA (pcl GW r2 DW (bE (pv 0) ao)) ao))))) b9)
  (ar (cR ((oz (bO ff (pv 4) aA) (l8 (bO (z8 ec) (pv 2) (eO ao)))).pt) (aF (bQ (dX (dR bX (m9 (bR dD (pv 2) (pcl GD r1 DD (bE (pv 0) (jA (cS (e9 K #[7]) #[7] B.len cA (bE (pv 2) ao)) ao)))) ao))))) b9)
  (ar (cR ((oz (bO ff (pv 4) aA) (l8 (bO (z8 ec) (pv 3) (eO ao)))).pt) (aF (bQ (dX (dR bX (m9 (bR dD (pv 3) (pcl GD r1 DD (bE (pv 0) (jA (cS (e9 K #[7]) #[7] B.len cA (bE (pv 3) ao)) ao)))) ao))))) b9)
  (ar (cR (bO ff (pv 4) aA) (aF (bQ (dX (dR bX ao)))) b9)
  (ar (cR (bO rK (pv 4) aA) (aF (bQ (dX (dR bX (jA (pcl GD r1 DD (bE (pv 0) (dR aA ao))) ao))))) b9)
  (ar (pst 5 Nz (bR dD (eO (dR bX (dR bX (dR bX (dR bX (dR bX (dR bX (dR bX (dR bX ao))))))))) (pcl GD r1 DD (bE (pv 0) (dR aA ao)))))
  (ar (pst 6 Nz (pcl GR hr D (bE (pv 0) (sR (cM lP (pv 1) aA) (bE (pv 2) (bE (pv 3) ao))))))
  (aF (bQ (dX (bE (pv 5) (bE (pv 6) (jA (pcl GR hr D (bE (pv 0) (sR (cM lP (pv 1) aA) (bE (pv 2) (bE (pv 3) ao))))) ao))))))))))))),?_⟩
 dsimp only[cxA,cxB];have big:=eJ;have nb:=t9 pu hb;have nq:=t9 pu hq;refine cJ (cV {_,Z9,lt2,fun l0 ee=>?_});have s0:=aG ee (.lst [.int 6,.int 10]);refine{_,Z9,_,_,Z9,Z9,.inr {_,Z9,l0,_,_,_,Z9,Z9,SqL.of ak,Ap,?_}};obtain⟨m,em,m6,md⟩:∃m:Int,(if decide ((d:Int)>0)=true then V.int 10 else V.int 6)=.int m/\(0<m/\m<100)/\(d=0->m=6):=by
  by_cases c:(d:Int)>0
  ·rw[decide_eq_true c];exact{10,Z9,by decide,fun z=>by omega}
  ·rw[decide_eq_false c];exact{6,Z9,by decide,fun _=>rfl}
 rw[em];refine{p,m,Z9,pu.same s0,m6.1,by omega,fun pk G dw dp Y M=>bU ?_};have M:=(But.same (But.refl p H) s0).trans M;clear s0 ee;dsimp only;have I:∀{G:Hp},But p H G->G g=Z8 (.lst (bs.map V.str)):=fun b=>b _ _ hb nb;have J:∀{G:Hp},But p H G->G lq=Z8 (.lst (qs.map V.str)):=fun b=>b _ _ hq nq;refine cJ (gs {_,Z9,_,_,Z9,Z9,_,Z9,gA (fun _=>?_) (fun _=>?_)})
 ·refine eZ {_,Z9,p,Z9,Y,fun r G2 r0 Z W b2=>{lt2,fun t ht=>?_}};have st:=aG ht (.tup [.str "number",.int r]);exact k _ (.num r) _ (.num ak ⟨r0,Z⟩) (by show 1<=d+1;omega) (W.same st) ((M.trans b2).same st)
 dsimp only[lV];refine xJ (fun ek G=>ek=[Z8 (.ref p),Z8 (.int d),Z8 (.ref g),Z8 (.ref lq),Z8 (.int pk),Z7,Z7]/\d7 G p/\But p H G) ?_ ?_
 rotate_left
 ·intro N hN;refine gs {_,Z9,Z9,_,Z9,gA (fun _=>?_) (fun _=>gz (hN _ _ ⟨Z9,Y,M⟩))};refine{_,Z9,by show 0<=aD;omega,fun e0 eh=>?_};have U:=aG eh (.lst []);refine{g,e0,_,Z9,Z9,U _ _ (I M),ak,_,Z9,gA (fun ne=>?_) (fun _=>hN _ _ {Z9,Y.same U,M.same U})};have l0:=rA ne;rw[ah]at l0;refine eZ {_,Z9,_,Z9,_,Z9,g,_,Z9,.inl (SqL.of (U _ _ (I M))),p,_,Z9,Y.same U,by rw[ah];omega,by rw[ah];omega,fun r G2 r0 Z W b2=>?_};rw[ah]at Z;obtain⟨x,hx,mx⟩:=lK r0 Z;have el:=(M.same U).trans b2;refine{g,_,_,_,Z9,Z9,SqL.of (I el),hx,lt2,fun t ht=>?_};have st:=aG ht (.tup [.str "box",.str x]);exact k _ (.box x) _ (.box ak mx) (by show 1<=d+1;omega) (W.same st) (el.same st)
 rintro _ G1 ⟨rfl,O,b1⟩;refine xJ (fun ek G=>ek=[Z8 (.ref p),Z8 (.int d),Z8 (.ref g),Z8 (.ref lq),Z8 (.int pk),Z7,Z7]/\d7 G p/\But p H G) ?_ ?_
 rotate_left
 ·intro N hN;refine gs {_,Z9,Z9,_,Z9,gA (fun _=>?_) (fun _=>gz (hN _ _ ⟨Z9,O,b1⟩))};refine{_,Z9,by show 0<=aD;omega,fun e0 eh=>?_};have U:=aG eh (.lst []);refine{lq,e0,_,Z9,Z9,U _ _ (J b1),ak,_,Z9,gA (fun ne=>?_) (fun _=>hN _ _ {Z9,O.same U,b1.same U})};have l0:=rA ne;rw[ah]at l0;refine eZ {_,Z9,_,Z9,_,Z9,lq,_,Z9,.inl (SqL.of (U _ _ (J b1))),p,_,Z9,O.same U,by rw[ah];omega,by rw[ah];omega,fun r G2 r0 Z W b2=>?_};rw[ah]at Z;obtain⟨x,hx,mx⟩:=lK r0 Z;have el:=(b1.same U).trans b2;refine{lq,_,_,_,Z9,Z9,SqL.of (J el),hx,lt2,fun t ht=>?_};have st:=aG ht (.tup [.str "long",.str x]);exact k _ (.long x) _ (.long ak mx) (by show 1<=d+1;omega) (W.same st) (el.same st)
 rintro _ G ⟨rfl,Y,M⟩;clear O b1;refine cJ (gs {_,Z9,Z9,_,Z9,gA (fun _=>?_) (fun _=>?_)})
 ·refine eZ {yl,fun t ht=>?_};have st:=aG ht (.tup [.str "now"]);exact k _ .now _ (.now ak) (by show 1<=d+1;omega) (Y.same st) (M.same st)
 dsimp only[lV];refine cJ (gs {_,Z9,_,_,Z9,Z9,_,Z9,gA (fun _=>?_) (fun c6=>?_)})
 ·refine eZ {_,Z9,p,2,Z9,Y,by decide,by decide,fun a4 G4 a40 a41 dG b4=>{lt2,fun t4 dL=>?_}};have q4:=aG dL (.tup [.str "got",.int a4]);have er:a4=if (decide (a4=1))=true then 1 else 0:=by
   by_cases c:a4=1
   ·rw[decide_eq_true c,if_pos rfl];exact c
   ·rw[decide_eq_false c,if_neg (by decide)];omega
  exact k _ (.got (decide (a4=1))) _ (.got (by rw[ak,<- er])) (by show 1<=d+1;omega) (dG.same q4) ((M.trans b4).same q4)
 dsimp only[lV];have c6:¬pk<6:=fun z=>c6 (decide_eq_true z);obtain⟨e,rfl⟩:∃e,d=e+1:=⟨d-1,by
  by_cases z:d=0
  ·have:=md z;omega
  ·omega⟩
 have ed:((e+1:Nat):Int)-1=(e:Int):=by omega
 refine cJ (cV {by show 8<=aD;omega,fun l hl=>?_});have ql:=aG hl (.lst (Ao.map V.str));refine{_,Z9,p,8,Z9,Y.same ql,by decide,by decide,fun r G1 r0 Z O b1=>?_};have dz:l≠p:=vK Y hl;obtain⟨x,hx,mx⟩:=Kq r0 Z;refine{l,_,_,_,Z9,Z9,SqL.of (b1 _ _ ak dz),hx,bU ?_};dsimp only;have ej:But p H G1:=(M.same ql).trans b1;refine cJ (cV {_,Z9,_,Z9,_,_,Z9,Z9,_,Z9,_,Z9,p,g,lq,e,(by show [V.ref p,V.int (((e+1:Nat):Int)-1),V.ref g,V.ref lq]=_;rw[ed]),by omega,O,I ej,J ej,eg,ef,fun v1 F1 G2 dV dt W b2=>bU ?_});dsimp only;have ei:=ej.trans b2;refine eZ {_,Z9,_,Z9,_,Z9,_,Z9,_,_,Z9,Z9,_,Z9,_,Z9,p,g,lq,e,(by show [V.ref p,V.int (((e+1:Nat):Int)-1),V.ref g,V.ref lq]=_;rw[ed]),by omega,W,I ei,J ei,eg,ef,fun v2 F2 G3 ea dq eb b3=>{by show 3<=aD;omega,fun t ht=>?_}};have qt:=aG ht (.tup [.str x,v1,v2]);exact k _ (.two x F1 F2) _ (.two ak mx ((dV.but W b3).mono fun t xs e=>qt _ _ e) (ea.mono fun t xs e=>qt _ _ e)) (by show max F1.depth F2.depth+1<=e+1+1;omega) (eb.same qt) ((ei.trans b3).same qt)
theorem Ks(D:Df K mg "_law_formula" iH pFo f fd)(Z:Df K mg "_law_draw" eS pD fD fdD)(Y:Df K mg "_law_worth" fX pW fW fdW)(B:Bl mg):∀n:Nat,bN P w K mg base CX0 (n+2) f fd pFo (Kr bs qs n)
 |0=>⟨fun vs H Q E h=>by
   obtain⟨p,W,V,d,_,h,_⟩:=h;omega,fun A outer s H args us vs Q E _ _ _ _ h=>by
   obtain⟨p,W,V,d,_,h,_⟩:=h;omega⟩
 |n+1=>NA D Z Y B (Ks D Z Y B n)
end
end My
namespace L2
open PySem PySem.Spec PyProof.Rows PySem.SeqAt
section
variable{X:Cx}
theorem Rl(hu:X.A.units+50<dM):OpR X (eB .Eq) (fun x y H Q=>∃p q xs,x=.ref p/\y=.ref q/\H p=Z8 (.lst xs)/\H q=Z8 (.lst [])/\Q (.bl xs.isEmpty) H):=by
 intro pins s σ H x y v u Q I M U h;obtain⟨p,q,xs,rfl,rfl,h1,h2,k⟩:=h
 cases M
 cases U;obtain⟨us,Y,W⟩:=fV I.hok h1;obtain⟨vs,V,Z⟩:=fV I.hok h2
 cases V;have O:=Y.length
 cases xs with
 |nil=>
  cases Y;exact RcAt.lists (A:=X.A) (e:=fun _=>true) W Z rfl #[2] (fun j a b=>absurd a (jz _)) X.prog X.w _ _ {.bl true,H,I,Z9,k}
 |cons a xs=>
  exact RcAt.lists_lengths W Z (by
   cases us with
   |nil=>cases O
   |cons b us=>simp) #[2] X.prog X.w _ _ {.bl false,H,I,Z9,k}
end
end L2
namespace My
open PySem L2
structure Th(H:Hp)(lt lb lq:ae)(bs qs:List Str):Prop where
 ht:H lt=Z8 (.tup [.ref lb,.ref lq])
 hb:H lb=Z8 (.lst (bs.map V.str))
 hq:H lq=Z8 (.lst (qs.map V.str))
 lb:bs.length<=9
 lq:qs.length<=9
theorem Th.keepI(k:dW H H')(h:Th H lt Z Y bs qs):Th H' lt Z Y bs qs:=
 {k _ _ h.ht (lU _),k _ _ h.hb (Fe _),k _ _ h.hq (Fe _),h.lb,h.lq}
theorem Kt(h0:0<=r)(h1:r<3):∃x:Str,atI [V.str "go",.str "on",.str "stop"] r=Z8 (.str x):=by
 obtain⟨x,hx,_⟩:=lK (bs:=["go","on","stop"]) h0 h1;exact⟨x,hx⟩
section
variable{P:aI}{w:aY}{K:ag}{mg:Str->Option af}{base:cb}{f fD fW fF fSe fS fE:ae}{fd fdD fdW fdF fdSe fdS fdE:bY}{bs qs:List Str}
seal PS PSs PE PA PT PW PI PG PGs PC
abbrev nSd:List Str:=["_law_purse_here","_law_there","_law_many","_law_boxes","_law_queues","_law_span","_law_to","_law_sign_here","_law_one"]
abbrev pSd:List Str:=["_law_purse_here","_law_there","_law_many"]
theorem BI:bM nSd pSd (aR mX):=e7
inductive O9(bs qs:List Str)(vs:List V)(H:Hp)(Q:VK)(_e:XK):Prop where
 |mk(p lt lb lq:ae)(m:Int)(_:vs=[.ref p,.ref lt,.int m])(_:d7 H p)(_:Th H lt lb lq bs qs)(_:0<m)(_:m<1000)(_:∀(v:V) (dd:Dd) (H':Hp),OwD bs qs H H' dd v->dd.toOk m->dd.deep=0->dd.size<=1->d7 H' p->But p H H'->Q v H'):O9 bs qs vs H Q _e
def spSd(bs qs:List Str):Sp:=fun vs H Q Z=>O9 bs qs vs H Q Z
theorem ok_sd(D:Df K mg "_law_send" mX pSd f fd)(DF:Df K mg "_law_formula" iH pFo fF fdF)(J:Df K mg "_law_draw" eS pD fD fdD)(DW:Df K mg "_law_worth" fX pW fW fdW)(B:Bl mg):bN P w K mg base CX0 5 f fd pSd (spSd bs qs):=by
 have z:bN P w K mg base CX0 1 fD fdD pD kY:=lA J;have GF:bN P w K mg base CX0 4 fF fdF pFo (Kr bs qs 2):=Ks DF J DW B 2;refine D.F.ok BI #[3] (fun dV A outer s H vs Q E hr h=>?_)
 ·obtain⟨p,lt,lb,lq,m,rfl,_⟩:=h;rfl
 obtain⟨p,lt,lb,lq,m,rfl,pu,T,m0,m1,k⟩:=h;have r1:dJ 1 _:=hr.mono (by decide);have r4:dJ 4 _:=hr;refine⟨_,ar (rZ (pv 1) (rY rfl (iw (pgn 3 BI) (iw (pgn 4 BI) o8))))
  (ar (pst 5 BI (dX (dR bX (sR (cM ie aA (pcl z r1 J (bE (pv 0) (dR aA ao)))) ao))))
  (ar (cR (bO ff (pcl z r1 J (bE (pv 0) (dR aA ao))) aA) (aF (pst 5 BI (pcl GF r4 DF (bE (pv 0) (dR aA (bE (pv 3) (bE (pv 4) ao))))))) b9)
  (ar (pst 6 BI (pcl z r1 J (bE (pv 0) (bE (pv 2) ao))))
  (ar (pst 7 BI (bR dD (eO (dR bX (dR bX (dR bX ao)))) (pcl z r1 J (bE (pv 0) (dR aA ao)))))
  (ar (pst 8 BI (pcl GF r4 DF (bE (pv 0) (dR aA (bE (pv 3) (bE (pv 4) ao))))))
  (aF (bQ (dX (dR bX (bE (pv 6) (bE (pv 7) (bE (pv 5) (jA (pcl z r1 J (bE (pv 0) (dR aA ao))) (bE (pv 8) (jA (pcl GF r4 DF (bE (pv 0) (dR aA (bE (pv 3) (bE (pv 4) ao))))) ao))))))))))))))),?_⟩
 dsimp only[cxA,cxB];have big:=eJ;refine cJ (cV {_,Z9,lt,_,Z9,SqT.of T.ht,Z9,_,_,Z9,bU {_,_,Z9,bU {Z9,?_}}});dsimp only;refine cJ (cV {_,Z9,p,7,Z9,pu,by decide,by decide,fun a G a0 a1 ed bG=>{_,_,Z9,Z9,lt2,fun t1 eo=>bU ?_}});dsimp only;have s1:=aG eo (.tup [.str "number",.int (1+a)]);have O:=(dW.but pu bG).trans (dW.same s1);have Z:=ed.same s1;have b1:=bG.same s1;have f1:FmI bs qs (upd G t1 (.tup [.str "number",.int (1+a)])) (.ref t1) (.num (1+a)):={.num ak (rq #[2]),by show 1<=15;decide};revert O Z b1 f1;clear s1 eo;generalize upd G t1 (.tup [.str "number",.int (1+a)])=G1;intro O Z b1 f1
 -- the span
 refine xJ (fun ei G=>∃(v5:V) (F:Fm),ei=[Z8 (.ref p),Z8 (.ref lt),Z8 (.int m),Z8 (.ref lb),Z8 (.ref lq),Z8 v5,Z7,Z7,Z7]/\FmI bs qs G v5 F/\(nmF F).length<=4/\d7 G p/\But p H G/\dW H G) ?_ ?_
 rotate_left
 ·intro N hN;refine gs {_,Z9,p,8,Z9,Z,by decide,by decide,fun r G2 r0 r8 Y M=>{Z9,_,Z9,gA (fun _=>?_) (fun _=>hN _ _ {_,_,Z9,f1.keepI (dW.but Z M),aW _,Y,b1.trans M,O.trans (dW.but Z M)})}};have U:=O.trans (dW.but Z M);have T2:=T.keepI U;refine cV {_,Z9,_,Z9,_,Z9,p,lb,lq,1,Z9,by decide,Y,T2.hb,T2.hq,T.lb,T.lq,fun v F G3 hF dF W b3=>bU (hN _ _ {v,F,Z9,{hF,by omega},uN dF (by decide),W,(b1.trans M).trans b3,U.trans (dW.but Y b3)})}
 rintro _ G2 ⟨v5,F5,rfl,f5,n5,Y,M,U⟩;refine cJ (cV {_,Z9,_,Z9,p,m,Z9,Y,by omega,by omega,fun to G3 eb ej W b3=>bU ?_});dsimp only;refine cJ (cV {by show 3<=aD;omega,fun l3 er=>?_});have s3:=aG er (.lst [.str "go",.str "on",.str "stop"]);refine{_,Z9,p,3,Z9,W.same s3,by decide,by decide,fun r G4 r0 r3 el b4=>?_};obtain⟨sg,ef⟩:=Kt r0 r3;refine{l3,_,_,_,Z9,Z9,SqL.of (b4 _ _ ak (vK W er)),ef,bU ?_};dsimp only;have eu:=((dW.but Y b3).trans (dW.same s3)).trans (dW.but (W.same s3) b4);have T4:=T.keepI (U.trans eu);refine cJ (cV {_,Z9,_,Z9,_,Z9,p,lb,lq,1,Z9,by decide,el,T4.hb,T4.hq,T.lb,T.lq,fun v6 F6 G5 eg ee g b5=>bU ?_});dsimp only;refine eZ {_,Z9,_,Z9,_,Z9,_,Z9,p,10,Z9,g,by decide,by decide,fun rk G6 dG dL et b6=>{_,Z9,_,Z9,_,Z9,_,Z9,?_}};have em:=dW.but el b5;have I:=dW.but g b6;have T6:=T4.keepI (em.trans I);refine{p,lb,lq,0,Z9,by decide,et,T6.hb,T6.hq,T.lb,T.lq,fun v7 F7 G7 eh ea ec b7=>{by show 7<=aD;omega,fun t ht=>?_}};have st:=aG ht (.tup [.str "send",.int to,.str sg,v5,.int rk,v6,v7]);have f6:FmI bs qs G5 v6 F6:={eg,by omega};have f7:FmI bs qs G7 v7 F7:={eh,by omega};have ek:=(dW.but et b7).trans (dW.same st);exact k _ (.send to sg F5 rk F6 F7) _ (Nn ak (f5.keepI (((eu.trans em).trans I).trans ek)) (f6.keepI (I.trans ek)) (f7.keepI (dW.same st))) {⟨eb,ej⟩,n5,uN ee (by decide),uN ea (by decide)} rfl (ay _) (ec.same st) ((((((M.trans b3).same s3).trans b4).trans b5).trans b6).trans b7 |>.same st)
end
structure Gro(bs qs:List Str)(m:Int)(dp S:Nat)(B G:Hp)(l0:ae)(i:Nat):Prop where
 ex:∃(xs:List V) (ds:Ds),G l0=Z8 (.lst xs)/\xs.length<=i/\OwS bs qs B G ds xs/\ds.toOk m/\ds.deep<=dp/\ds.size<=i*S
theorem Gro.up(h:Gro bs qs m Z S B G Y i):Gro bs qs m Z S B G Y (i+1):=by
 obtain⟨xs,ds,h1,h2,W,V,O,U⟩:=h.ex;exact{xs,ds,h1,by omega,W,V,O,cZ U (GV _ (eD _))}
theorem Gro.keepI(h:Gro bs qs m Y S B G W i)(k:dW G G'):Gro bs qs m Y S B G' W i:=by
 obtain⟨xs,ds,h1,h2,Z,V,O,U⟩:=h.ex;exact{xs,ds,k _ _ h1 Z.now.ni,h2,Z.keepI k,V,O,U}
theorem Gro.step(n0:Z∉[p,U])(L:Lf G p U)(k:Kp [p,U] G W)(D:B Z≠Z7)(dm:Dm B G)(hx:G Z=Z8 (.lst xs))(lx:xs.length<=i)(O:OwS bs qs B G ds xs)(to:ds.toOk m)(d1:ds.deep<=M)(sz:ds.size<=i*S)
  (I:OwD bs qs G W dd v) (t:dd.toOk m) (d2:dd.deep<=M) (s2:dd.size<=S):Gro bs qs m M S B (upd W Z (.lst (xs++[v]))) Z (i+1):=by
 have J:=k _ _ hx n0;have g:G Z≠Z7:=by
  rw[hx];intro z
  cases z
 have Y:∀ys,W Z≠Z8 (.tup ys):=fun ys z=>by
  rw[J]at z
  cases z
 refine{xs++[v],qX ds dd,ak,by rw[au];show xs.length+1<=i+1;omega,Kn ((O.keepI (k.keepI L.int)).old D Y) ((I.old g Y).base dm),Fh t ds to,by rw[zg];omega,?_};rw[zh,Nat.succ_mul];omega
theorem Lf.put(L:Lf G p Z)(Y:W∉[p,Z]):Lf (upd G W o) p Z:=by
 obtain⟨x,y,e⟩:=L.pu;obtain⟨z,V⟩:=L.hl;exact{{x,y,bh e (fun q=>Y (by rw[<- q];exact aB))},z,bh V (fun q=>Y (by rw[<- q];exact aj _ aB))}
theorem Lf.kp'(Y:Lf G p Z)(b:But p H G):Kp [p,Z] H G:=Kp.but b aB
structure Dr(H G:Hp)(p lf lt lb lq:ae)(bs qs:List Str):Prop where
 L:Lf G p lf
 T:Th G lt lb lq bs qs
 k:Kp [p,lf] H G
theorem Dr.but(d:Dr H G p Y lt Z W bs qs)(b:But p G G')(V:d7 G' p):Dr H G' p Y lt Z W bs qs:={d.L.but b V,d.T.keepI (dW.but d.L.pu b),d.k.trans (Kp.but b aB)}
theorem Dr.same(d:Dr H G p Y lt Z W bs qs)(s:bj G G'):Dr H G' p Y lt Z W bs qs:={d.L.same s,d.T.keepI (dW.same s),d.k.trans (Kp.same s)}
theorem Dr.kp(d:Dr H G p Z lt Y W bs qs)(k:Kp [p,Z] G G')(L:Lf G' p Z):Dr H G' p Z lt Y W bs qs:={L,d.T.keepI (k.keepI d.L.int),d.k.trans k}
theorem Dr.dm(d:Dr H G p Y lt Z W bs qs):Dm H G:=d.k.dm d.L.there
section
variable{P:aI}{w:aY}{K:ag}{mg:Str->Option af}{base:cb}{f fD fW fF fSe fS fE:ae}{fd fdD fdW fdF fdSe fdS fdE:bY}{bs qs:List Str}
seal PS PSs PE PA PT PW PI PG PGs PC
abbrev nLd:List Str:=["_law_purse_here","_law_low","_law_left","_law_there","_law_many","_law_boxes","_law_queues","_law_pick","_law_queue","_law_formula_here","_law_ones"]
abbrev pLd:List Str:=["_law_purse_here","_law_low","_law_left","_law_there","_law_many"]
theorem DJ:bM nLd pLd (aR mY):=e7
abbrev nLs:List Str:=["_law_purse_here","_law_low","_law_left","_law_there","_law_many","_law_found","_law_k"]
abbrev pLs:List Str:=["_law_purse_here","_law_low","_law_left","_law_there","_law_many"]
theorem Rm:bM nLs pLs (aR km):=e7
inductive Pa(bs qs:List Str)(n:Nat)(vs:List V)(H:Hp)(Q:VK)(_e:XK):Prop where
 |mk(p lt lb lq lf:ae)(m:Int)(d:Nat)(_:vs=[.ref p,.int d,.ref lf,.ref lt,.int m])(_:d<n)(_:Lf H p lf)(_:Th H lt lb lq bs qs)(_:0<m)(_:m<1000)(_:∀(v:V) (dd:Dd) (H':Hp),OwD bs qs H H' dd v->dd.toOk m->dd.deep<=d->dd.size<=ddz d->Lf H' p lf->Kp [p,lf] H H'->Q v H'):Pa bs qs n vs H Q _e
def spLd(bs qs:List Str)(n:Nat):Sp:=fun vs H Q Z=>Pa bs qs n vs H Q Z
inductive Pb(bs qs:List Str)(n:Nat)(vs:List V)(H:Hp)(Q:VK)(_e:XK):Prop where
 |mk(p lt lb lq lf:ae)(m:Int)(d:Nat)(_:vs=[.ref p,.int d,.ref lf,.ref lt,.int m])(_:d<n)(_:Lf H p lf)(_:Th H lt lb lq bs qs)(_:0<m)(_:m<1000)(_:∀(l:ae) (xs:List V) (ds:Ds) (H':Hp),H l=Z7->H' l=Z8 (.lst xs)->xs.length<1000->OwS bs qs H H' ds xs->ds.toOk m->ds.deep<=d->ds.size<=3*ddz d->Lf H' p lf->Kp [p,lf] H H'->Q (.ref l) H'):Pb bs qs n vs H Q _e
def Ku(bs qs:List Str)(n:Nat):Sp:=fun vs H Q Z=>Pb bs qs n vs H Q Z
theorem NB(hk:5<=kk)(D:Df K mg "_law_deed" mY pLd f fd)(DS:Df K mg "_law_deeds" km pLs fS fdS)(GS:bN P w K mg base CX0 kk fS fdS pLs (Ku bs qs n))(ga:Df K mg "_law_send" mX pSd fSe fdSe)(DF:Df K mg "_law_formula" iH pFo fF fdF)(DD:Df K mg "_law_draw" eS pD fD fdD)(DW:Df K mg "_law_worth" fX pW fW fdW)(B:Bl mg) :
  bN P w K mg base CX0 (kk+1) f fd pLd (spLd bs qs (n+1)):=by
 have GD:bN P w K mg base CX0 1 fD fdD pD kY:=lA DD;have GF:bN P w K mg base CX0 5 fF fdF pFo (Kr bs qs 3):=Ks DF DD DW B 3;have fw:bN P w K mg base CX0 5 fSe fdSe pSd (spSd bs qs):=ok_sd ga DF DD DW B;refine D.F.ok DJ #[3] (fun ew A outer s H vs Q E hr h=>?_)
 ·obtain⟨p,lt,Y,Z,O,m,d,rfl,_⟩:=h;rfl
 obtain⟨p,lt,Y,Z,O,m,d,rfl,dn,L,T,m0,m1,k⟩:=h;have gd:=IS hr;have r1:dJ 1 _:=hr.mono #[2];have r5:dJ 5 _:=hr.mono hk;refine⟨_,ar (rZ (pv 3) (rY rfl (iw (pgn 5 DJ) (iw (pgn 6 DJ) o8))))
  (ar (pst 7 DJ (pcl GD r1 DD (bE (pv 0) (dR aA ao))))
  (ar (cR ((HJ (bO rK (pv 7) aA) (Cd ((oz (bO rK (pv 7) aA) (l8 (bO (Rl gd) (pv 5) (eO ao)))).pt))).pt) (aF (bQ (pcl fw r5 ga (bE (pv 0) (bE (pv 3) (bE (pv 4) ao)))))) b9)
  (ar (cR (bO rK (pv 7) aA) (aF (bQ (dX (dR bX (m9 (bR dD (pv 5) (pcl GD r1 DD (bE (pv 0) (jA (cS (e9 K #[7]) #[7] B.len cA (bE (pv 5) ao)) ao)))) (jA (pcl GF r5 DF (bE (pv 0) (dR aA (bE (pv 5) (bE (pv 6) ao))))) ao)))))) b9)
  (ar (cR (bO ff (pv 7) aA) (aF (bQ (dX (dR bX (m9 (bR dD (pv 5) (pcl GD r1 DD (bE (pv 0) (jA (cS (e9 K #[7]) #[7] B.len cA (bE (pv 5) ao)) ao)))) (sQ (dX (dR bX (sR (cM ie aA (pcl GD r1 DD (bE (pv 0) (dR aA ao)))) ao))) ao)))))) b9)
  (ar (cR ((oz (bO ff (pv 7) aA) (oz (bO (z8 gd) (pv 6) (eO ao)) (l8 (bO rL (pv 1) aA)))).pt) (ar (pst 8 DJ (bR dD (pv 6) (pcl GD r1 DD (bE (pv 0) (jA (cS (e9 K #[7]) #[7] B.len cA (bE (pv 6) ao)) ao)))))
  (aF (bQ (dX (dR bX (bE (pv 8) (m9 (bR dD (pv 5) (pcl GD r1 DD (bE (pv 0) (jA (cS (e9 K #[7]) #[7] B.len cA (bE (pv 5) ao)) ao)))) (jA (pcl GS hr DS (bE (pv 0) (sR (cM lP (pv 1) aA) (bE (pv 2) (bE (pv 3) (bE (pv 4) ao)))))) ao)))))))) b9)
  (ar (cR ((oz (bO ff (pv 7) aA) (l8 (bO (z8 gd) (pv 6) (eO ao)))).pt) (aF (bQ (dX (dR bX (m9 (bR dD (pv 6) (pcl GD r1 DD (bE (pv 0) (jA (cS (e9 K #[7]) #[7] B.len cA (bE (pv 6) ao)) ao)))) (jA (pcl GF r5 DF (bE (pv 0) (dR aA (bE (pv 5) (bE (pv 6) ao))))) ao)))))) b9)
  (ar (cR ((oz (bO rK (pv 7) aA) (l8 (bO rL (pv 1) aA))).pt) (ar (pst 9 DJ (pcl GF r5 DF (bE (pv 0) (dR aA (bE (pv 5) (bE (pv 6) ao))))))
  (ar (pst 10 DJ (pcl GS hr DS (bE (pv 0) (sR (cM lP (pv 1) aA) (bE (pv 2) (bE (pv 3) (bE (pv 4) ao)))))))
  (aF (bQ (dX (dR bX (bE (pv 9) (bE (pv 10) (jA (pcl GS hr DS (bE (pv 0) (sR (cM lP (pv 1) aA) (bE (pv 2) (bE (pv 3) (bE (pv 4) ao)))))) ao))))))))) b9)
  (ar (cR ((oz (bO ff (pv 7) aA) (l8 (bO ff (pcl GD r1 DD (bE (pv 0) (dR aA ao))) aA))).pt) (aF (bQ (dX (dR bX ao)))) b9)
  (aF (bQ (pcl fw r5 ga (bE (pv 0) (bE (pv 3) (bE (pv 4) ao)))))))))))))),?_⟩
 dsimp only[cxA,cxB];have big:=eJ;have dz:=Nr d;have fG:=T.lb;have gh:=T.lq;refine cJ (cV {_,Z9,lt,_,Z9,SqT.of T.ht,Z9,_,_,Z9,bU {_,_,Z9,bU {Z9,?_}}});dsimp only;refine cJ (cV {_,Z9,p,12,Z9,L.pu,by decide,by decide,fun pk G ey et fz bG=>bU ?_});dsimp only;have d0:Dr H H p O lt Y Z bs qs:={L,T,Kp.refl _ _};have dG:=d0.but bG fz
 -- a send
 have gg:∀{G:Hp},Dr H G p O lt Y Z bs qs->∀(v:V) (dd:Dd) (H':Hp),OwD bs qs G H' dd v->dd.toOk m->dd.deep=0->dd.size<=1->d7 H' p->But p G H'->Q v H':=fun d1 v dd H' hO t e1 e2 fa b'=>k v dd H' (hO.base d1.dm) t #[2] #[2] (d1.L.but b' fa) (d1.k.trans (Kp.but b' aB));refine xJ (fun M G=>M=[Z8 (.ref p),Z8 (.int d),Z8 (.ref O),Z8 (.ref lt),Z8 (.int m),Z8 (.ref Y),Z8 (.ref Z),Z8 (.int pk),Z7,Z7,Z7]/\(pk<8->0<bs.length)/\Dr H G p O lt Y Z bs qs) ?_ ?_
 rotate_left
 ·intro N hN;refine gs {_,Z9,_,_,Z9,Z9,_,Z9,gA (fun _=>?_) (fun c4=>?_)}
  ·exact iU (eZ {_,Z9,_,Z9,_,Z9,p,lt,Y,Z,m,Z9,fz,dG.T,m0,m1,gg dG})
  refine{_,Z9,_,_,Z9,Z9,_,Z9,gA (fun _=>?_) (fun c8=>gz (hN _ _ {Z9,fun z=>absurd (decide_eq_true z) c8,dG}))};refine{_,Z9,by show 0<=aD;omega,fun e0 gr=>?_};have u0:=aG gr (.lst []);have d1:=dG.same u0;refine{Y,e0,_,Z9,Z9,d1.T.hb,ak,_,Z9,gA (fun _=>?_) (fun ne=>hN _ _ {Z9,fun _=>?_,d1})}
  ·exact eZ {_,Z9,_,Z9,_,Z9,p,lt,Y,Z,m,Z9,d1.L.pu,d1.T,m0,m1,gg d1}
  ·cases bs with
   |nil=>exact absurd rfl ne
   |cons y ys=>exact nU _
 rintro _ G1 ⟨rfl,c8,d1⟩;clear dG fz bG
 -- a box, drawn
 have bx:∀{G:Hp} {R:VK},pk<8->Dr H G p O lt Y Z bs qs->(∀(x:Str) (G':Hp),x∈bs->d7 G' p->But p G G'->Dr H G' p O lt Y Z bs qs->R (.str x) G')->kY [V.ref p,V.int ((bs.map V.str).length:Int)] G (fun y H2=>P9 K (.ref Y) y H2 R) E0:=fun c J q=>by
  have l0:=c8 c;refine{p,_,Z9,J.L.pu,by rw[ah];omega,by rw[ah];omega,fun r G2 r0 gw g b2=>?_};rw[ah]at gw;obtain⟨x,hx,mx⟩:=lK r0 gw;have W:=J.but b2 g;exact{Y,_,_,_,Z9,Z9,SqL.of W.T.hb,hx,q x G2 mx g b2 W}
 refine cJ (gs {_,Z9,_,_,Z9,Z9,_,Z9,gA (fun c6=>?_) (fun _=>?_)})
 ·have c6:pk<6:=of_decide_eq_true c6;refine eZ {_,Z9,_,Z9,_,Z9,Y,_,Z9,.inl (SqL.of d1.T.hb),bx #[2] d1 fun x G2 mx g b2 J=>?_};refine{_,Z9,_,Z9,_,Z9,p,Y,Z,2,Z9,by decide,g,J.T.hb,J.T.hq,fG,gh,fun v F G3 hF dF gq b3=>{by show 3<=aD;omega,fun t ht=>?_}};have st:=aG ht (.tup [.str "put",.str x,v]);have W:=(J.but b3 gq).same st;have fI:FmI bs qs G3 v F:={hF,by omega};exact k _ (.put x F) _ (Rf ak mx (fI.keepI (dW.same st))) (uN dF (by decide)) (aW _) dz W.L W.k
 dsimp only[lV];refine cJ (gs {_,Z9,Z9,_,Z9,gA (fun c6=>?_) (fun _=>?_)})
 ·have c6:pk=6:=V.int.inj (of_decide_eq_true c6);refine eZ {_,Z9,_,Z9,_,Z9,Y,_,Z9,.inl (SqL.of d1.T.hb),bx #[2] d1 fun x G2 mx g b2 J=>?_};refine{_,Z9,p,20,Z9,g,by decide,by decide,fun a G3 a0 a1 gq b3=>{_,_,Z9,Z9,lt2,fun t1 fe=>{by show 3<=aD;omega,fun t ht=>?_}}};have s1:=aG fe (.tup [.str "number",.int (1+a)]);have st:=aG ht (.tup [.str "draw",.str x,.ref t1]);have W:=((J.but b3 gq).same s1).same st;exact k _ (.draw x (.num (1+a))) _ (Nm ak mx {.num (st _ _ ak) (rq #[2]),by show 1<=15;decide}) (aW 4) (aW _) dz W.L W.k
 dsimp only[lV]
 -- pull
 refine xJ (fun M G=>M=[Z8 (.ref p),Z8 (.int d),Z8 (.ref O),Z8 (.ref lt),Z8 (.int m),Z8 (.ref Y),Z8 (.ref Z),Z8 (.int pk),Z7,Z7,Z7]/\Dr H G p O lt Y Z bs qs) ?_ ?_
 rotate_left
 ·intro N hN;refine gs {_,Z9,Z9,_,Z9,gA (fun c7=>?_) (fun _=>gz (hN _ _ ⟨Z9,d1⟩))};have c7:pk=7:=V.int.inj (of_decide_eq_true c7);refine{_,Z9,by show 0<=aD;omega,fun e0 gr=>?_};have u0:=aG gr (.lst []);have J:=d1.same u0;refine{Z,e0,_,Z9,Z9,J.T.hq,ak,_,Z9,gA (fun ne=>?_) (fun _=>gz (hN _ _ ⟨Z9,J⟩))};refine{_,Z9,_,_,Z9,Z9,_,Z9,gA (fun cd=>?_) (fun _=>hN _ _ ⟨Z9,J⟩)};have cd:(d:Int)>0:=of_decide_eq_true cd;obtain⟨e,rfl⟩:∃e,d=e+1:={d-1,by omega};have ge:((e+1:Nat):Int)-1=(e:Int):=by omega
  have l0:=rA ne;rw[ah]at l0;refine cJ (cV {_,Z9,_,Z9,_,Z9,Z,_,Z9,.inl (SqL.of J.T.hq),p,_,Z9,J.L.pu,by rw[ah];omega,by rw[ah];omega,fun r G2 r0 gw g b2=>?_});rw[ah]at gw;obtain⟨y,hy,my⟩:=lK r0 gw;have W:=J.but b2 g;refine{Z,_,_,_,Z9,Z9,SqL.of W.T.hq,hy,bU ?_};dsimp only;refine eZ {_,Z9,_,Z9,_,Z9,_,Z9,Y,_,Z9,.inl (SqL.of W.T.hb),bx #[2] W fun x G3 mx gq b3 U=>?_};refine{_,Z9,_,Z9,_,_,Z9,Z9,_,Z9,_,Z9,_,Z9,p,lt,Y,Z,O,m,e,(by show [V.ref p,V.int (((e+1:Nat):Int)-1),V.ref O,V.ref lt,V.int m]=_;rw[ge]),by omega,U.L,U.T,m0,m1,fun l1 fq gv G4 fx h1 gt O1 t1 eH eL L4 k4=>{by show 4<=aD;omega,fun t ht=>?_}};have st:=aG ht (.tup [.str "pull",.str y,.str x,.ref l1]);have I:=(U.kp k4 L4).same st;refine k _ (.pull y x gv) _ (Np ak my mx (U.dm l1 fx) (st _ _ h1) gt ((O1.base U.dm).keepI (dW.same st))) t1 ?_ ?_ I.L I.k
  ·show gv.deep+1<=e+1;omega
  ·show gv.size+1<=1+3*ddz e;omega
 rintro _ G2 ⟨rfl,J⟩;clear d1
 -- push
 refine xJ (fun M G=>M=[Z8 (.ref p),Z8 (.int d),Z8 (.ref O),Z8 (.ref lt),Z8 (.int m),Z8 (.ref Y),Z8 (.ref Z),Z8 (.int pk),Z7,Z7,Z7]/\Dr H G p O lt Y Z bs qs) ?_ ?_
 rotate_left
 ·intro N hN;refine gs {_,Z9,Z9,_,Z9,gA (fun c7=>?_) (fun _=>gz (hN _ _ ⟨Z9,J⟩))};refine{_,Z9,by show 0<=aD;omega,fun e0 gr=>?_};have u0:=aG gr (.lst []);have W:=J.same u0;refine{Z,e0,_,Z9,Z9,W.T.hq,ak,_,Z9,gA (fun ne=>?_) (fun _=>hN _ _ ⟨Z9,W⟩)};have l0:=rA ne;rw[ah]at l0;refine eZ {_,Z9,_,Z9,_,Z9,Z,_,Z9,.inl (SqL.of W.T.hq),p,_,Z9,W.L.pu,by rw[ah];omega,by rw[ah];omega,fun r G4 r0 gw gl b4=>?_};rw[ah]at gw;obtain⟨y,hy,my⟩:=lK r0 gw;have U:=W.but b4 gl;refine{Z,_,_,_,Z9,Z9,SqL.of U.T.hq,hy,?_};refine{_,Z9,_,Z9,_,Z9,p,Y,Z,1,Z9,by decide,gl,U.T.hb,U.T.hq,fG,gh,fun v F G5 hF dF gn b5=>{by show 3<=aD;omega,fun t ht=>?_}};have st:=aG ht (.tup [.str "push",.str y,v]);have I:=(U.but b5 gn).same st;have fI:FmI bs qs G5 v F:={hF,by omega};exact k _ (.push y F) _ (Nl ak my (fI.keepI (dW.same st))) (uN dF (by decide)) (aW _) dz I.L I.k
 rintro _ G3 ⟨rfl,W⟩;clear J
 -- if
 refine xJ (fun M G=>M=[Z8 (.ref p),Z8 (.int d),Z8 (.ref O),Z8 (.ref lt),Z8 (.int m),Z8 (.ref Y),Z8 (.ref Z),Z8 (.int pk),Z7,Z7,Z7]/\Dr H G p O lt Y Z bs qs) ?_ ?_
 rotate_left
 ·intro N hN;refine gs {_,Z9,_,_,Z9,Z9,_,Z9,gA (fun c7=>?_) (fun _=>gz (hN _ _ ⟨Z9,W⟩))};refine{_,Z9,_,_,Z9,Z9,_,Z9,gA (fun cd=>?_) (fun _=>hN _ _ ⟨Z9,W⟩)};have cd:(d:Int)>0:=of_decide_eq_true cd;obtain⟨e,rfl⟩:∃e,d=e+1:={d-1,by omega};have ge:((e+1:Nat):Int)-1=(e:Int):=by omega
  have ev:[V.ref p,V.int (((e+1:Nat):Int)-1),V.ref O,V.ref lt,V.int m]=[V.ref p,.int e,.ref O,.ref lt,.int m]:=by rw[ge]
  refine cJ (cV {_,Z9,_,Z9,_,Z9,p,Y,Z,2,Z9,by decide,W.L.pu,W.T.hb,W.T.hq,fG,gh,fun vf F G4 hF dF gl b4=>bU ?_});dsimp only;have U:=W.but b4 gl;have fI:FmI bs qs G4 vf F:={hF,by omega};refine cJ (cV {_,Z9,_,Z9,_,_,Z9,Z9,_,Z9,_,Z9,_,Z9,p,lt,Y,Z,O,m,e,ev,by omega,U.L,U.T,m0,m1,fun l1 fq gv G5 fx h1 gt O1 t1 eH eL L5 k5=>bU ?_});dsimp only;have I:=U.kp k5 L5;refine eZ {_,Z9,_,Z9,_,Z9,_,Z9,_,_,Z9,Z9,_,Z9,_,Z9,_,Z9,p,lt,Y,Z,O,m,e,ev,by omega,I.L,I.T,m0,m1,fun l2 er fy G6 fo h2 ft O2 t2 eo eu L6 k6=>{by show 4<=aD;omega,fun t ht=>?_}};have st:=aG ht (.tup [.str "if",vf,.ref l1,.ref l2]);have ez:=k5.keepI U.L.int;have fZ:=k6.keepI I.L.int;have d6:=(I.kp k6 L6).same st;refine k _ (.ife F gv fy) _ (Rh ak (fI.keepI ((ez.trans fZ).trans (dW.same st))) (U.dm l1 fx) (st _ _ (fZ _ _ h1 O1.now.ni)) gt ((O1.base U.dm).keepI (fZ.trans (dW.same st))) (I.dm l2 fo) (st _ _ h2) ft ((O2.base I.dm).keepI (dW.same st))) {⟨t1,t2⟩,uN dF (by decide)} ?_ ?_ d6.L d6.k
  ·show max gv.deep fy.deep+1<=e+1;omega
  ·show max gv.size fy.size+1<=1+3*ddz e;omega
 rintro _ G4 ⟨rfl,U⟩;clear W
 -- end
 refine xJ (fun M G=>M=[Z8 (.ref p),Z8 (.int d),Z8 (.ref O),Z8 (.ref lt),Z8 (.int m),Z8 (.ref Y),Z8 (.ref Z),Z8 (.int pk),Z7,Z7,Z7]/\Dr H G p O lt Y Z bs qs) ?_ ?_
 rotate_left
 ·intro N hN;refine gs {_,Z9,Z9,_,Z9,gA (fun c7=>?_) (fun _=>gz (hN _ _ ⟨Z9,U⟩))};refine{_,Z9,p,4,Z9,U.L.pu,by decide,by decide,fun r G5 r0 r4 gn b5=>{Z9,_,Z9,gA (fun _=>?_) (fun _=>hN _ _ {Z9,U.but b5 gn})}};refine eZ {yl,fun t ht=>?_};have st:=aG ht (.tup [.str "end"]);have I:=(U.but b5 gn).same st;exact k _ .fin _ (Rg ak) trivial (aW _) dz I.L I.k
 rintro _ G5 ⟨rfl,I⟩;exact eZ {_,Z9,_,Z9,_,Z9,p,lt,Y,Z,m,Z9,I.L.pu,I.T,m0,m1,gg I}
theorem NC(hk:1<=kk)(D:Df K mg "_law_deeds" km pLs f fd)(DE:Df K mg "_law_deed" mY pLd fE fdE)(GE:bN P w K mg base CX0 kk fE fdE pLd (spLd bs qs n))(DD:Df K mg "_law_draw" eS pD fD fdD)(B:Bl mg) :
  bN P w K mg base CX0 (kk+1) f fd pLs (Ku bs qs n):=by
 have GD:bN P w K mg base CX0 1 fD fdD pD kY:=lA DD;refine D.F.ok Rm #[3] (fun dk A outer s H vs Q E hr h=>?_)
 ·obtain⟨p,lt,lb,lq,Z,m,d,rfl,_⟩:=h;rfl
 obtain⟨p,lt,lb,lq,Z,m,d,rfl,dn,L,T,m0,m1,k⟩:=h;have r1:dJ 1 _:=hr.mono hk;refine⟨_,ar (pst 5 Rm (eO ao))
  (ar (iE cw rfl (je #[7] B.range (jA (pcl GD r1 DD (bE (pv 0) (dR aA ao))) ao)) (pgn 6 Rm) (aF (cR (bO rL (bR dD (pv 2) aA) aA) (ar (rZ (cM lP (bR dD (pv 2) aA) aA) (wR (pv 2) aA qC))
  (aF (eU (mO bV cD cE ip (pv 5) (jA (pcl GE hr DE (bE (pv 0) (bE (pv 1) (bE (pv 2) (bE (pv 3) (bE (pv 4) ao)))))) ao))))) b9)))
  (aF (bQ (pv 5)))),?_⟩
 dsimp only[cxA,cxB];have big:=eJ;have mf:Z∈[p,Z]:=aj _ aB;refine cJ (cV {aW _,fun Y O=>bU ?_});have s0:=aG O (.lst []);dsimp only;have n0:Y∉[p,Z]:=fun z=>by
  obtain⟨i,r,e⟩:=L.int Y z;rw[O]at e
  cases e
 have hB:upd H Y (.lst []) Y≠Z7:=by
  rw[ak];intro z
  cases z
 refine cJ {_,Z9,p,4,Z9,L.pu.same s0,by decide,by decide,fun r G r0 dj dp bG=>{r,Z9,by omega,by omega,?_}};have LG:=(L.same s0).but bG dp;have kG:Kp [p,Z] H G:=(Kp.same s0).trans (LG.kp' bG);have kB:Kp [p,Z] (upd H Y (.lst [])) G:=LG.kp' bG;have dt:G Y=Z8 (.lst []):=bG _ _ ak (fun z=>n0 (by rw[z];exact aB));refine qZ (n:=r.toNat) (fun i σ G'=>∃(v6:Option V),σ=[Z8 (.ref p),Z8 (.int d),Z8 (.ref Z),Z8 (.ref lt),Z8 (.int m),Z8 (.ref Y),v6]/\i<=3/\Gro bs qs m d (ddz d) (upd H Y (.lst [])) G' Y i/\Lf G' p Z/\Kp [p,Z] H G'/\Dm (upd H Y (.lst [])) G')
  {_,Z9,by decide,{[],.nil,dt,ay _,Nq,trivial,aW _,aW _},LG,kG,kB.dm LG.there} ?_ ?_
 ·rintro i σ G1 hi ⟨v6,rfl,i2,gr,L1,k1,J⟩;obtain⟨I,hc⟩:=L1.hl;refine gs ?_;refine{_,Z9,Z,_,_,_,Z9,Z9,SqL.of hc,Z9,_,_,Z9,Z9,_,Z9,?_};refine gA (fun _=>?_) (fun _=>?_)
  ·refine cJ (cV {_,Z9,Z,_,_,_,Z9,Z9,SqL.of hc,Z9,_,_,Z9,Z9,_,Z9,Z,_,_,0,Z9,Z9,hc,Z9,?_});dsimp only;have W:Lf (upd G1 Z (.lst ([V.int I].set 0 (.int (I-1))))) p Z:={uS L1.pu L1.ne,I-1,ak};have k2:Kp [p,Z] G1 (upd G1 Z (.lst ([V.int I].set 0 (.int (I-1))))):=Kp.upd mf;have g:=gr.keepI (k2.keepI L1.int);have U:=J.trans (k2.dm W.there);have k2:=k1.trans k2;revert U g k2 W;generalize upd G1 Z (.lst ([V.int I].set 0 (.int (I-1))))=G2;intro W g U k2;obtain⟨xs,ds,h1,h2,h3,h4,h5,h6⟩:=g.ex;have T2:=T.keepI (k2.keepI L.int);refine{_,Z9,.inl {Z9,_,SqL.of h1},_,Z9,_,Z9,_,Z9,_,Z9,_,Z9,p,lt,lb,lq,Z,m,d,Z9,dn,W,T2,m0,m1,fun v dd G3 hO t dq dl L3 M=>?_};refine{Y,xs,v,Z9,Z9,M _ _ h1 n0,by omega,?_};refine{_,Z9,by omega,Gro.step n0 W M hB U h1 h2 h3 h4 h5 h6 hO t dq dl,L3.put n0,fun b o eb nb=>bh ((k2.trans M) b o eb nb) (aJ eb O),fun a na=>?_}
   by_cases ca:a=Y
   ·rw[ca,ak]at na
    cases na
   ·rw[aQ ca]at na;exact U a (M.dm L3.there a na)
  ·exact{_,Z9,by omega,gr.up,L1,k1,J}
 ·rintro σ G1 ⟨v6,rfl,i2,gr,L1,k1,J⟩;obtain⟨xs,ds,h1,h2,h3,h4,h5,h6⟩:=gr.ex;dsimp only;refine eZ {_,Z9,k Y xs ds G1 O h1 #[2] (h3.base (Dm.same s0)) h4 h5 ?_ L1 k1};have:r.toNat*ddz d<=3*ddz d:=GV _ i2;omega
theorem Pc(D:Df K mg "_law_deeds" km pLs f fd)(W:Df K mg "_law_deed" mY pLd fE fdE)(Z:Df K mg "_law_send" mX pSd fSe fdSe)(U:Df K mg "_law_formula" iH pFo fF fdF)(Y:Df K mg "_law_draw" eS pD fD fdD)(V:Df K mg "_law_worth" fX pW fW fdW)(B:Bl mg):∀n:Nat,bN P w K mg base CX0 (5+2*n) f fd pLs (Ku bs qs n)
 |0=>⟨fun vs H Q E h=>by
   obtain⟨p,lt,J,M,O,m,d,_,h,_⟩:=h;omega,fun A outer s H args us vs Q E _ _ _ _ h=>by
   obtain⟨p,lt,J,M,O,m,d,_,h,_⟩:=h;omega⟩
 |n+1=>NC (kk:=5+2*n+1) #[2] D W (NB #[2] W D (Pc D W Z U Y V B n) Z U Y V B) Y B
end
theorem MIn.but(Z:d7 H p)(Y:d7 H' p)(b:But p H' H1)(h:MIn m H H' v M):MIn m H H1 v M:=by
 obtain⟨t,e,h⟩:=h;exact{t,e,h.but Z Y b}
theorem MIn.old(O:B a≠Z7)(W:∀xs,G a≠Z8 (.tup xs))(h:MIn m B G v M):MIn m B (upd G a o) v M:=by
 obtain⟨t,e,⟨bl,D,I,hl,g,hv,h1,h2,h3,h4,h5,h6,h7,Y,J,U,Z⟩,kb,nb,nq,lb,lq,ld,lh,wb,hk⟩:=h;have ne:∀{b:ae},B b=Z7->b≠a:=fun n z=>O (z ▸ n);have tk:∀(b:ae) (xs:List V),G b=Z8 (.tup xs)->upd G a o b=Z8 (.tup xs):=fun b xs e=>bh e fun z=>W xs (z ▸ e);exact{t,e,{bl,D,I,hl,g,hv,tk _ _ h1,bh h2 (ne Y),ic.tups tk h3,bh h4 (ne J),bh h5 (ne U),bh h6 (ne Z),Paired.mono (fun _ _ z=>z.old O W) h7,Y,J,U,Z},kb,nb,nq,lb,lq,ld,lh,wb,hk}
theorem wF{bs:List Str}{i:Nat}(hi:(bs.map V.str)[i]?=Z8 x):∃o,bs[i]?=Z8 o/\x=.str o:=by
 rw[bT]at hi;obtain⟨o,Z,rfl⟩:=dI.mp hi;exact⟨o,Z,Z9⟩
section
variable{P:aI}{w:aY}{K:ag}{mg:Str->Option af}{base:cb}{f fD fW fN fS:ae}{fd fdD fdW fdN fdS:bY}
seal PS PSs PE PA PT PW PI PG PGs PC
abbrev nMs:List Str:=["_law_purse_here","_law_many","_law_found","_law_name_here","_law_boxes","_law_queues","_law_draws","_law_hears","_law_sign_here"]
abbrev pMs:List Str:=["_law_purse_here"]
theorem Aq:bM nMs pMs (aR iT):=e7
theorem ndMs:((["_law_k"]:List Str)++nMs).Nodup:=by decide +kernel
theorem ndMs2:((["_law_box"]:List Str)++nMs).Nodup:=by decide +kernel
inductive Pd(vs:List V)(H:Hp)(Q:VK)(_e:XK):Prop where
 |mk(p:ae)(_:vs=[.ref p])(_:d7 H p)(_:∀(ml:ae) (xs:List V) (Ms:List MD) (H':Hp),H' ml=Z8 (.lst xs)->aN (MIn Ms.length H H') xs Ms->0<Ms.length->Ms.length<=6->ml≠p->d7 H' p->But p H H'->Q (.ref ml) H'):Pd vs H Q _e
def spMs:Sp:=fun vs H Q Z=>Pd vs H Q Z
theorem ok_ms(D:Df K mg "_law_machines" iT pMs f fd)(DN:Df K mg "_law_names" lH pN fN fdN)(mq:bN P w K mg base CX0 3 fN fdN pN Fi)(DS:Df K mg "_law_deeds" km pLs fS fdS)(ka:∀bs qs,bN P w K mg base CX0 13 fS fdS pLs (Ku bs qs 4))(DD:Df K mg "_law_draw" eS pD fD fdD)(DW:Df K mg "_law_worth" fX pW fW fdW)(B:Bl mg):bN P w K mg base CX0 14 f fd pMs spMs:=by
 have GD:bN P w K mg base CX0 1 fD fdD pD kY:=lA DD;have GW:bN P w K mg base CX0 2 fW fdW pW wD:=xI DW DD B;have GS:=bN.some (ι:=List Str×List Str) (sp:=fun q=>Ku q.1 q.2 4) (F:=fun q=>ka q.1 q.2);refine D.F.ok Aq #[3] (fun hN A outer s H vs Q E hr h=>?_)
 ·obtain⟨p,rfl,_⟩:=h;rfl
 obtain⟨p,rfl,pu,k⟩:=h;have r1:dJ 1 _:=hr.mono (by decide);have r2:dJ 2 _:=hr.mono (by decide);have r3:dJ 3 _:=hr.mono (by decide);have kq:dJ 13 _:=hr;refine⟨_,ar (pst 1 Aq (cM ie aA (pcl GD r1 DD (bE (pv 0) (m9 (bR dD (eO (dR aA (dR aA ao))) (iQ q5 #[7] B.int boot_int (av (vP ff (pcl GD r1 DD (bE (pv 0) (dR aA ao))) aA) ao))) ao)))))
  (ar (pst 2 Aq (eO ao))
  (ar (iE cw rfl (hV (gO mq r3 #[7] DN.m DN.F.kp DN.b .nil jV (bE (pv 0) (bE (pv 1) (dR aA ao))))) (pgn 3 Aq) (ar (pst 4 Aq (gO mq r3 #[7] DN.m DN.F.kp DN.b .nil jV (bE (pv 0) (jA (pcl GD r1 DD (bE (pv 0) (dR aA ao))) (dR aA ao)))))
  (ar (pst 5 Aq (gO mq r3 #[7] DN.m DN.F.kp DN.b .nil jV (bE (pv 0) (jA (pcl GD r1 DD (bE (pv 0) (dR aA ao))) (dR aA ao)))))
  (ar (vW (i:=6) ["_law_k"] (iG.open (NN:=nMs) (N:=nMs) (sc:=aR iT) rfl rfl #[1] rfl #[1] #[1] rfl #[1]) rfl Aq.nd rfl (Or.inl rfl) (je #[7] B.range (jA (pcl GD r1 DD (bE (pv 0) (dR aA ao))) ao)) (fun _ _ _ _=>iM (i:=0) ndMs rfl (Or.inl rfl)) (fun _ _ _ _=>jP) (fun _ _ _ _=>pcl GD r1 DD (bE (pv 1) (dR aA ao))))
  (ar (pst 7 Aq (eO ao))
  (ar (iE cw rfl (hV (jG mh (eO (dR bX (dR bX (dR bX ao)))) kC (kD (cM ie aA (pcl GD r1 DD (bE (pv 0) (dR aA ao))))))) (pgn 8 Aq) (aF (eU (mO bV cD cE ip (pv 7) (sQ (dX (bE (pv 8) (jA (pcl GS kq DS (bE (pv 0) (dR aA (Re (eO (dR aA ao)) (sQ (dX (bE (pv 4) (bE (pv 5) ao))) (bE (pv 1) ao)))))) ao))) ao) (hs:=t7)))))
  (aF (eU (mO bV cD cE ip (pv 2) (sQ (dX (bE (pv 3) (av (kZ ["_law_box"] (iG.open (NN:=nMs) (N:=nMs) (sc:=aR iT) rfl rfl #[1] rfl #[1] #[1] rfl #[1]) rfl (hV (pv 4)) (fun _ _ _ _=>iM (i:=0) ndMs2 rfl (Or.inl rfl)) (fun _ _ _ _=>jP) (fun _ _ _ _=>dX (bE (pv 0) (jA (pcl GW r2 DW (bE (pv 1) ao)) ao)))) (bE (pv 5) (bE (pv 6) (bE (pv 7) ao)))))) ao) (hs:=t7))))))))))
  (aF (bQ (pv 2))))),?_⟩
 dsimp only[cxA,cxB];have big:=eJ;refine cJ (cV {_,Z9,lt2,fun l0 mv=>?_});have s0:=aG mv (.lst [.int 4,.int 6]);refine{_,Z9,p,8,Z9,pu.same s0,by decide,by decide,fun r G r0 r8 J bG=>{Z9,.inr {_,Z9,l0,_,_,_,Z9,Z9,SqL.of (bG _ _ ak (vK pu mv)),Ap,?_}}};obtain⟨mm,em,lj⟩:∃m:Int,(if decide (V.int r=V.int 7)=true then V.int 6 else V.int 4)=.int m/\(0<m/\m<=6):=by
  by_cases c:V.int r=V.int 7
  ·rw[decide_eq_true c];exact{6,Z9,by decide}
  ·rw[decide_eq_false c];exact{4,Z9,by decide}
 rw[em];refine{p,mm,Z9,J,lj.1,by omega,fun x G1 x0 x1 mG b1=>{_,_,Z9,Z9,bU ?_}};obtain⟨m,hm,m0,m6⟩:∃m:Nat,1+x=(m:Int)/\0<m/\m<=6:={(1+x).toNat,by omega,by omega,by omega};dsimp only;rw[hm];have b1:But p H G1:=((But.same (But.refl p H) s0).trans bG).trans b1;clear bG J s0 mv;refine cJ (cV {aW _,fun fl mz=>bU ?_});have sf:=aG mz (.lst []);dsimp only;have nP:=mG.same sf;have b2:=b1.same sf;have nw:upd G1 fl (.lst []) fl=Z8 (.lst []):=ak;have nH:fl≠p:=vK mG mz;have hS:H fl=Z7:=b1.dm mG fl mz;revert nP b2 nw;generalize upd G1 fl (.lst [])=G2;intro nP b2 nw;have mF:G2 fl≠Z7:=fun z=>by
  rw[nw]at z
  cases z
 refine cJ {_,Z9,_,Z9,p,m,0,Z9,nP,by omega,by omega,fun ln ss G3 kB nE lv nd mf b3=>{ln,Z9,{_,SqL.of nE},?_}};have kz:ln≠p:=t9 mf nE;have kt:ln≠fl:=fun z=>mF (z ▸ kB);refine rm (K:=K) (a:=ln) (xs:=ss.map V.str) (fun i σ G=>∃(u3 u4 u5 u6 u7 u8:Option V) (xs:List V) (Ms:List MD),σ=[Z8 (.ref p),Z8 (.int m),Z8 (.ref fl),u3,u4,u5,u6,u7,u8]/\G ln=Z8 (.lst (ss.map V.str))/\G fl=Z8 (.lst xs)/\aN (MIn m G2 G) xs Ms/\Ms.length=i/\d7 G p/\Kp [p,fl] G2 G)
  {_,_,_,_,_,_,[],[],Z9,nE,b3 _ _ nw nH,.nil,Z9,mf,Kp.but b3 aB} ?_ ?_ ?_
 ·rintro i σ G _ ⟨_,_,_,_,_,_,_,_,rfl,h,_⟩;exact SqL.of h
 ·rintro zN zB zH i v σ G hi ⟨u3,u4,u5,u6,u7,u8,xs,Ms,rfl,hG,nQ,pM,lM,J,kG⟩;obtain⟨nm,ky,rfl⟩:=wF hi;have il:=(aC.mp ky).1;refine bU ?_;dsimp only
  -- the boxes' names, the queues
  refine cJ (cV {_,Z9,_,Z9,p,4,Z9,J,by decide,by decide,fun r Ga r0 r4 nu ba=>?_});obtain⟨r,rfl⟩:∃n:Nat,r=(n:Int):={r.toNat,by omega};refine{p,r,0,Z9,nu,by omega,by omega,fun lb bs Gb hI mW hL hX mn bb=>bU ?_};dsimp only;have lh:But p G Gb:=ba.trans bb;have g:lb≠p:=t9 mn mW;refine cJ (cV {_,Z9,_,Z9,p,3,Z9,mn,by decide,by decide,fun r' Gc hK hO my bc=>?_});obtain⟨r',rfl⟩:∃n:Nat,r'=(n:Int):={r'.toNat,by omega};refine{p,r',8,Z9,my,by omega,by omega,fun lq qs Gd jb ot hP ku nI bd=>bU ?_};dsimp only;have ll:But p G Gc:=lh.trans bc;have nt:But p G Gd:=ll.trans bd;have nG:lq≠p:=t9 nI ot;have lc:G lq=Z7:=ll.dm my lq jb;have nO:=bd _ _ (bc _ _ mW g) g;clear ba bb bc bd nu mn my
  -- the draws
  refine cJ (cV ?_);refine uR (fun n G'=>n<4/\d7 G' p/\But p Gd G') (fun R hR=>⟨_,Z9,p,4,Z9,nI,by decide,by decide,fun x G' x0 x1 pu b=>by
    obtain⟨n,rfl⟩:∃n:Nat,x=(n:Int):={x.toNat,by omega};exact hR n G' {by omega,pu,b}⟩) (fun n G' h=>by have:=h.1;omega) (fun n _ i ys G'=>∃ds:List Int,ys=ds.map V.int/\ds.length=i/\d7 G' p/\But p Gd G') (fun n G' h=>{[],Z9,Z9,h.2.1,h.2.2}) ?_ ?_ ?_
  ·rintro n G0 h i ys G' hi ⟨ds,rfl,h1,_⟩;rw[ah];have:=h.1;omega
  ·rintro n G0 h i ys G' hi ⟨ds,rfl,h1,pu,b⟩;refine{Z9,?_};unfold tM;refine iU ?_;refine{_,Z9,p,100,Z9,pu,by decide,by decide,fun x Ga x0 x1 nu ba=>?_};exact{ds++[x],by rw[bA];rfl,by rw[au,h1];rfl,nu,b.trans ba}
  rintro n G0 hn ys Ge ⟨ds,rfl,hM,ob,be⟩ dl hdl;have ld:ds.length<=100:=by have:=hn.1;omega
  have nT:=aG hdl (.lst (ds.map V.int));refine bU ?_;dsimp only;have ja:G dl=Z7:=nt.dm nI dl (be.dm ob dl hdl);have md:dl≠p:=vK ob hdl
  -- what it hears
  refine cJ (cV {aW _,fun Z U=>bU ?_});have mx:=aG U (.lst []);have sD:=nT.trans mx;dsimp only;have ls:G Z=Z7:=nt.dm nI Z (be.dm ob Z (none_of nT U));have nD:=ob.same sD;have bF:But p G (upd (upd Ge dl (.lst (ds.map V.int))) Z (.lst [])):=(nt.trans be).same sD;have oi:=sD _ _ (be _ _ nO g);have ol:=sD _ _ (be _ _ ot nG);have nB:=mx _ _ (oF hdl (.lst (ds.map V.int)));have I:=oF U (.lst []);have nz:Z≠p:=vK (ob.same nT) U;have nh:lb≠Z/\lq≠Z/\dl≠Z:={aJ (nT _ _ (be _ _ nO g)) U,aJ (nT _ _ (be _ _ ot nG)) U,aJ (oF hdl _) U};revert nD bF oi ol nB I;clear sD mx nT hdl U be ob nO ot nt nI hn;generalize upd (upd Ge dl (.lst (ds.map V.int))) Z (.lst [])=GF;intro nD bF oi ol nB I;have lr:GF Z≠Z7:=fun z=>by
   rw[I]at z
   cases z
  -- its signs
  refine cJ {by show 3<=aD;omega,fun l3 mt=>?_};have s3:=aG mt (.lst [.str "go",.str "on",.str "stop"]);refine{_,Z9,p,3,Z9,nD.same s3,by decide,by decide,fun r Gg r0 r3 mo bg=>{_,_,Z9,Z9,_,Z9,l3,_,Z9,SqL.of (bg _ _ ak (vK nD mt)),fun sl nM=>?_}};obtain⟨zs,lz,eq⟩:∃zs:List Str,zs.length<=3/\me [V.str "go",.str "on",.str "stop"] Z7 (Z8 (1+r))=zs.map V.str:=by
   have cs:r=0\/r=1\/r=2:=by omega
   rcases cs with rfl|rfl|rfl
   ·exact{["go"],by decide,Z9}
   ·exact{["go","on"],by decide,Z9}
   ·exact{["go","on","stop"],by decide,Z9}
  rw[eq];have nn:=aG nM (.lst (zs.map V.str));have nq:=((But.refl p GF).same s3).trans bg;have lg:sl≠p:=vK mo nM;have ih:sl≠Z:=(aJ (nq _ _ I nz) nM).symm;have ml:=mo.same nn;have kI:Kp [p,Z] GF (upd Gg sl (.lst (zs.map V.str))):=(Kp.but (nq) aB).trans (Kp.same nn);have nR:=nn _ _ (nq _ _ I nz);have os:=oF nM (.lst (zs.map V.str));revert ml kI nR os;clear nn nM eq nq bg mo s3 mt;generalize upd Gg sl (.lst (zs.map V.str))=GI;intro ml kI nR os;have oe:∀{a:ae},a≠p->a≠Z->a∉[p,Z]:=fun n1 n2 z=>by
   simp only[aq,aV,or_false]at z;exact z.elim n1 n2
  have hT:∀{G':Hp},d7 G' p->(∃o,G' Z=Z8 o)->∀a∈[p,Z],∃o,G' a=Z8 o:=fun pu h a z=>by
   simp only[aq,aV,or_false]at z
   rcases z with rfl|rfl
   ·obtain⟨x,y,e⟩:=pu;exact{_,e}
   ·exact h
  refine{sl,Z9,{_,SqL.of os},?_};refine rm (K:=K) (a:=sl) (xs:=zs.map V.str) (fun j σ G'=>∃(u8:Option V) (hv:List V) (hs:List (Str×Ds)),σ=[Z8 (.ref p),Z8 (.int m),Z8 (.ref fl),Z8 (.str nm),Z8 (.ref lb),Z8 (.ref lq),Z8 (.ref dl),Z8 (.ref Z),u8]/\G' sl=Z8 (.lst (zs.map V.str))/\G' Z=Z8 (.lst hv)/\aN (HsO bs qs GF G') hv hs/\hs.length=j/\(∀q∈hs,q.2.toOk m/\q.2.deep<=4/\q.2.size<=3*ddz 3)/\d7 G' p/\Kp [p,Z] GF G')
   {_,[],[],Z9,os,nR,.nil,Z9,(fun q hq=>by cases hq),ml,kI} ?_ ?_ ?_
  ·rintro j σ G' _ ⟨_,_,_,rfl,h,_⟩;exact SqL.of h
  ·rintro zM zC zJ j v σ G' hj ⟨u8,hv,hs,rfl,mS,O,nl,mL,mD,Y,W⟩;obtain⟨sg,hY,rfl⟩:=wF hj;have jl:=(aC.mp hY).1;have hH:=aL nl;have na:Dm GF G':=W.dm (hT Y {_,O});refine bU ?_;dsimp only;refine{_,Z9,.inl {Z9,_,SqL.of O},_,Z9,_,Z9,yl,fun lf mc=>{_,Z9,_,Z9,lt2,fun lt kh=>{_,Z9,?_}}};have ii:=aG mc (.lst [.int 12]);have ly:=aG kh (.tup [.ref lb,.ref lq]);have s2:=ii.trans ly;have L:Lf (upd (upd G' lf (.lst [.int 12])) lt (.tup [.ref lb,.ref lq])) p lf:={Y.same s2,12,ly _ _ ak};have T:Th (upd (upd G' lf (.lst [.int 12])) lt (.tup [.ref lb,.ref lq])) lt lb lq bs qs:={ak,s2 _ _ (W _ _ oi (oe g nh.1)),s2 _ _ (W _ _ ol (oe nG nh.2.1)),by omega,by omega};refine{(bs,qs),p,lt,lb,lq,lf,m,3,Z9,by decide,L,T,by omega,by omega,fun l ys dd Gk io h1 hQ O1 t1 js kc Lk kk=>{lt2,fun t ht=>?_}};have st:=aG ht (.tup [.str sg,.ref l])
   -- all but the purse stays
   have kp:Kp [p] G' Gk:=fun b o e nb=>kk _ _ (s2 _ _ e) fun z=>by
    simp only[aq,aV,or_false]at z
    rcases z with z|z
    ·exact nb (by simp[z])
    ·rw[z,mc]at e
     cases e
   have ki:dW G' Gk:=kp.keepI fun a ha=>by
    obtain⟨x,y,e⟩:=Y;rw[aK.mp ha];exact{x,_,e}
   have mb:=kp _ _ O (by simpa using nz);have nf:=st _ _ mb;refine{Z,hv,.ref t,Z9,Z9,nf,by omega,zJ _ _ _ ?_};have lm:∀ys,upd Gk t (.tup [.str sg,.ref l]) Z≠Z8 (.tup ys):=fun ys z=>by
    rw[nf]at z
    cases z
   have oc:Dm G' (upd (upd G' lf (.lst [.int 12])) lt (.tup [.ref lb,.ref lq])):=Dm.same s2;have new:HsO bs qs GF (upd Gk t (.tup [.str sg,.ref l])) (.ref t) (sg,dd):={t,l,ys,Z9,ak,na l (oc l io),st _ _ h1,by omega,(O1.base (na.trans oc)).keepI (dW.same st)};refine{_,hv++[.ref t],hs++[(sg,dd)],Z9,bh (st _ _ (kp _ _ mS (by simpa using lg))) ih,ak,?_,by rw[au,mL];rfl,fun q hq=>?_,uS (Lk.pu.same st) nz,fun b o' e nb=>?_}
   ·exact dy (Paired.mono (fun v q z=>(z.keepI (ki.trans (dW.same st))).old lr lm) nl) (new.old lr lm)
   ·rcases cj.mp hq with z|z
    ·exact mD q z
    ·rw[aK.mp z];exact{t1,cZ js (by decide),cZ kc (by decide)}
   ·have ix:b≠Z:=fun z=>nb (by simp[z]);rw[aQ ix];exact st _ _ (kp _ _ (W _ _ e nb) fun z=>nb (by simp only[aK]at z;simp[z]))
  ·rintro σ G' ⟨u8,hv,hs,rfl,mS,O,nl,mL,mD,Y,W⟩;dsimp only;rw[ah]at mL;have mu:But p G G':=fun b o e nb=>W _ _ (bF _ _ e nb) (oe nb (aJ e ls));have ma:=mu _ _ nQ nH;have nS:=W _ _ oi (oe g nh.1);have hF:=aL pM;rw[lv]at il;refine{_,Z9,.inl {Z9,_,SqL.of ma},_,Z9,?_};refine nc (K:=K) (a:=lb) (xs:=bs.map V.str) (fun R h=>{_,Z9,h}) (SqL.of nS) (fun j ys Gx=>∃ps:List (Str×Int),ic Gx ps ys/\ps.map (·.1)=bs.take j/\(∀q∈ps,Wo q.2)/\d7 Gx p/\But p G' Gx) {[],.nil,Z9,(fun q hq=>by cases hq),Y,But.refl _ _} ?_ ?_ ?_
   ·rintro j ys Gx hj ⟨ps,h5,h6,h7,h8,h9⟩;have l5:=h5.length;have l6:=congrArg i5 h6;rw[ah,bD]at l6;exact{SqL.of (h9 _ _ nS g),by omega}
   ·rintro j v ys Gx hj ⟨ps,h5,h6,h7,h8,h9⟩;obtain⟨o,ho,rfl⟩:=wF hj;refine{Z9,?_};unfold tM;refine iU ?_;refine{_,Z9,_,Z9,p,Z9,h8,fun x Gy x0 x1 ke lx=>{lt2,fun t ht=>?_}};have st:=aG ht (.tup [.str o,.int x]);refine{ps++[(o,x)],?_,?_,fun q hq=>?_,ke.same st,(h9.trans lx).same st}
    ·unfold ic;rw[bA];exact dy (ic.tups (fun t xs e=>st _ _ (dW.but h8 lx _ _ e (lU xs))) h5) ⟨t,Z9,ak⟩
    ·rw[bA,h6,cm,ho];rfl
    ·rcases cj.mp hq with z|z
     ·exact h7 q z
     ·rw[aK.mp z];exact⟨x0,x1⟩
   rintro vb Gx ⟨ps,la,kb,wb,lp,bx⟩ bl lw;rw[ah,cu]at kb;have li:=aG lw (.lst vb);refine{_,Z9,_,Z9,_,Z9,by show 5<=aD;omega,fun t ht=>?_};have st:=aG ht (.tup [.str nm,.ref bl,.ref lq,.ref dl,.ref Z]);have sZ:=li.trans st;have bz:=bx.same sZ;have no:=mu.trans bz;have jp:=(dW.but Y bx).trans (dW.same sZ);have kw:G bl=Z7:=mu.dm Y bl (bx.dm lp bl lw);have im:Dm G GF:=bF.dm nD;have kv:Mch m G (upd (upd Gx bl (.lst vb)) t (.tup [.str nm,.ref bl,.ref lq,.ref dl,.ref Z])) t nm bs qs ds hs ps:={{bl,lq,dl,Z,vb,hv,ak,st _ _ ak,ic.same sZ la,bz _ _ (W _ _ ol (oe nG nh.2.1)) nG,bz _ _ (W _ _ nB (oe md nh.2.2)) md,bz _ _ O nz,Paired.mono (fun v q z=>(z.keepI jp).base im) nl,kw,lc,ja,ls},kb,hX,ku,by omega,by omega,ld,by omega,wb,mD};have mM:=no _ _ nQ nH;have lk:∀ys,upd (upd Gx bl (.lst vb)) t (.tup [.str nm,.ref bl,.ref lq,.ref dl,.ref Z]) fl≠Z8 (.tup ys):=fun ys z=>by
    rw[mM]at z
    cases z
   have oc:Dm G2 G:=kG.dm fun a z=>by
    simp only[aq,aV,or_false]at z
    rcases z with rfl|rfl
    ·obtain⟨x,y,e⟩:=J;exact{_,e}
    ·exact{_,nQ}
   refine{fl,xs,.ref t,Z9,Z9,mM,by omega,zH _ _ _ ?_};refine{_,_,_,_,_,_,xs++[.ref t],Ms++[⟨nm,bs,qs,ds,hs,ps⟩],Z9,bh (no _ _ hG kz) kt,ak,?_,by rw[au,lM];rfl,uS (lp.same sZ) nH,fun b o e nb=>?_}
   ·exact dy (Paired.mono (fun v M z=>(z.but nP J no).old mF lk) pM) (MIn.old mF lk {t,Z9,kv.base oc})
   ·have n1:b≠fl:=fun z=>nb (by simp[z]);have n2:b≠p:=fun z=>nb (by simp[z]);rw[aQ n1];exact no _ _ (kG _ _ e nb) n2
 ·rintro σ G ⟨u3,u4,u5,u6,u7,u8,xs,Ms,rfl,hG,nQ,pM,lM,J,kG⟩;dsimp only;rw[ah,lv]at lM;have bH:But p H G:=fun b o e nb=>kG _ _ (b2 _ _ e nb) fun z=>by
   simp only[aq,aV,or_false]at z;exact z.elim nb (aJ e hS)
  have oc:Dm H G2:=b2.dm nP;exact eZ {_,Z9,k fl xs Ms G nQ (by rw[lM];exact Paired.mono (fun v M ⟨t,e,z⟩=>{t,e,z.base oc}) pM) #[2] #[2] nH J bH}
end
theorem ND(h0:0<=r)(h1:r<4):∃x:Str,atI [V.str "go",.str "on",.str "stop",.str "odd"] r=Z8 (.str x):=by
 obtain⟨x,hx,_⟩:=lK (bs:=["go","on","stop","odd"]) h0 h1;exact⟨x,hx⟩
section
variable{P:aI}{w:aY}{K:ag}{mg:Str->Option af}{base:cb}{f fD fW fSg:ae}{fd fdD fdW fdSg:bY}
seal PS PSs PE PA PT PW PI PG PGs PC
abbrev nSg:List Str:=["_law_purse_here","_law_many","_law_time","_law_rank","_law_to","_law_sign_here"]
abbrev pSg:List Str:=["_law_purse_here","_law_many"]
theorem Kv:bM nSg pSg (aR mZ):=e7
inductive Pe(vs:List V)(H:Hp)(Q:VK)(_e:XK):Prop where
 |mk(p:ae)(m:Nat)(_:vs=[.ref p,.int m])(_:d7 H p)(_:0<m)(_:m<1000)(_:∀(v:V) (e:Ev) (H':Hp),xu H' v e->Al m e->d7 H' p->But p H H'->Q v H'):Pe vs H Q _e
def Ro:Sp:=fun vs H Q Z=>Pe vs H Q Z
theorem Pf(D:Df K mg "_law_sign" mZ pSg f fd)(Z:Df K mg "_law_draw" eS pD fD fdD)(DW:Df K mg "_law_worth" fX pW fW fdW)(B:Bl mg):bN P w K mg base CX0 3 f fd pSg Ro:=by
 have U:bN P w K mg base CX0 1 fD fdD pD kY:=lA Z;have GW:bN P w K mg base CX0 2 fW fdW pW wD:=xI DW Z B;refine D.F.ok Kv #[3] (fun dp A outer s H vs Q E hr h=>?_)
 ·obtain⟨p,m,rfl,_⟩:=h;rfl
 obtain⟨p,m,rfl,pu,m0,m1,k⟩:=h;have J:dJ 1 _:=hr.mono (by decide);have r2:dJ 2 _:=hr;refine⟨_,ar (pst 2 Kv (pcl U J Z (bE (pv 0) (m9 (bR dD (eO (dR aA (sR (cM ie (cM sj aA aA) aA) ao))) (iQ q5 #[7] B.int boot_int (av (vP ff (pcl U J Z (bE (pv 0) (dR aA ao))) aA) ao))) ao))))
  (ar (pst 3 Kv (pcl U J Z (bE (pv 0) (dR aA ao))))
  (ar (pst 4 Kv (pcl U J Z (bE (pv 0) (bE (pv 1) ao))))
  (ar (pst 5 Kv (bR dD (eO (dR bX (dR bX (dR bX (dR bX ao))))) (pcl U J Z (bE (pv 0) (dR aA ao)))))
  (aF (bQ (dX (bE (pv 2) (bE (pv 3) (bE (pv 4) (bE (pv 5) (jA (pcl GW r2 DW (bE (pv 0) ao)) (jA (pcl GW r2 DW (bE (pv 0) ao)) ao)))))))))))),?_⟩
 dsimp only[cxA,cxB];have big:=eJ;have c6:Cg 10 6:={by decide,by decide,by decide};refine cJ (cV {_,Z9,_,_,Z9,Z9,c6,_,_,Z9,Z9,lt2,fun l0 Y=>?_});have s0:=aG Y (.lst [.int 12,.int ((10:Int)^(6:Int).toNat+1)]);refine{_,Z9,p,8,Z9,pu.same s0,by decide,by decide,fun r G r0 r8 M bG=>{Z9,.inr {_,Z9,l0,_,_,_,Z9,Z9,SqL.of (bG _ _ ak (vK pu Y)),Ap,?_}}};obtain⟨mm,em,dL⟩:∃m:Int,(if decide (V.int r=V.int 7)=true then V.int ((10:Int)^(6:Int).toNat+1) else V.int 12)=.int m/\(0<m/\m<=1000001):=by
  by_cases c:V.int r=V.int 7
  ·rw[decide_eq_true c];exact{_,Z9,by decide}
  ·rw[decide_eq_false c];exact{12,Z9,by decide}
 refine Kc ?_;show kY [V.ref p,(if decide (V.int r=V.int 7)=true then V.int ((10:Int)^(6:Int).toNat+1) else V.int 12)] _ _ _;rw[em];refine{p,mm,Z9,M,dL.1,by omega,fun I G1 dn dl g b1=>bU ?_};have b1:But p H G1:=((But.same (But.refl p H) s0).trans bG).trans b1;clear bG M s0 Y;dsimp only;refine cJ (cV {_,Z9,p,10,Z9,g,by decide,by decide,fun rk G2 dj dk dw b2=>bU ?_});dsimp only;refine cJ (cV {_,Z9,_,Z9,p,m,Z9,dw,by omega,by omega,fun to G3 dq z W b3=>bU ?_});dsimp only;refine cJ (cV {by show 4<=aD;omega,fun l3 O=>?_});have s3:=aG O (.lst [.str "go",.str "on",.str "stop",.str "odd"]);refine{_,Z9,p,4,Z9,W.same s3,by decide,by decide,fun x G4 x0 x4 dt b4=>?_};obtain⟨sg,du⟩:=ND x0 x4;refine{l3,_,_,_,Z9,Z9,SqL.of (b4 _ _ ak (vK W O)),du,bU ?_};dsimp only;refine eZ {_,Z9,_,Z9,_,Z9,_,Z9,_,Z9,p,Z9,dt,fun va G5 a0 a1 dG b5=>{_,Z9,p,Z9,dG,fun vb G6 c0 c1 dz b6=>{by show 6<=aD;omega,fun t ht=>?_}}};have st:=aG ht (.tup [.int I,.int rk,.int to,.str sg,.int va,.int vb]);exact k _ {I,rk,0,0,to,sg,va,vb} _ ⟨t,Z9,ak⟩ {dq,z,rq {by show -1000000<=I;omega,by show I<=1000000;omega},⟨a0,a1⟩,⟨c0,c1⟩} (dz.same st) (((((((b1.trans b2).trans b3).same s3).trans b4).trans b5).trans b6).same st)
abbrev nSs:List Str:=["_law_purse_here","_law_many"]
abbrev pSs:List Str:=["_law_purse_here","_law_many"]
theorem scSs:bM nSs pSs (aR lI):=e7
theorem ndSs:((["_law_k"]:List Str)++nSs).Nodup:=by decide +kernel
inductive Pg(vs:List V)(H:Hp)(Q:VK)(_e:XK):Prop where
 |mk(p:ae)(m:Nat)(_:vs=[.ref p,.int m])(_:d7 H p)(_:0<m)(_:m<1000)(_:∀(l:ae) (svs:List V) (es:List Ev) (H':Hp),H' l=Z8 (.lst svs)->aN (xu H') svs es->es.length<60->(∀e∈es,Al m e)->l≠p->d7 H' p->But p H H'->Q (.ref l) H'):Pg vs H Q _e
def spSs:Sp:=fun vs H Q Z=>Pg vs H Q Z
theorem ok_ss(D:Df K mg "_law_signs" lI pSs f fd)(O:Df K mg "_law_sign" mZ pSg fSg fdSg)(M:Df K mg "_law_draw" eS pD fD fdD)(DW:Df K mg "_law_worth" fX pW fW fdW)(B:Bl mg):bN P w K mg base CX0 4 f fd pSs spSs:=by
 have GD:bN P w K mg base CX0 1 fD fdD pD kY:=lA M;have I:bN P w K mg base CX0 3 fSg fdSg pSg Ro:=Pf O M DW B;refine D.F.ok scSs #[3] (fun cd A outer s H vs Q E hr h=>?_)
 ·obtain⟨p,m,rfl,_⟩:=h;rfl
 obtain⟨p,m,rfl,pu,m0,m1,k⟩:=h;have r1:dJ 1 _:=hr.mono (by decide);have r3:dJ 3 _:=hr;refine{_,aF (bQ (kZ ["_law_k"] (iG.open (NN:=nSs) (N:=nSs) (sc:=aR lI) rfl rfl #[1] rfl #[1] #[1] rfl #[1]) rfl (je #[7] B.range (jA (pcl GD r1 M (bE (pv 0) (m9 (bR dD (eO (dR aA (dR aA ao))) (iQ q5 #[7] B.int boot_int (av (vP ff (pcl GD r1 M (bE (pv 0) (dR aA ao))) aA) ao))) ao))) ao)) (fun _ _ _ _=>iM (i:=0) ndSs rfl (Or.inl rfl)) (fun _ _ _ _=>jP) (fun _ _ _ _=>pcl I r3 O (bE (pv 1) (bE (pv 2) ao))))),?_};dsimp only[cxA,cxB];have big:=eJ;refine eZ ?_;refine uR (fun n G=>n<20/\d7 G p/\But p H G) (fun R hR=>{_,Z9,lt2,fun l0 U=>?_}) (fun n G h=>by have:=h.1;omega) (fun n _ i ys G=>∃es:List Ev,aN (xu G) ys es/\es.length=i/\(∀e∈es,Al m e)/\d7 G p/\But p H G) (fun n G h=>{[],.nil,Z9,(fun e he=>by cases he),h.2.1,h.2.2}) ?_ ?_ ?_
 ·have s0:=aG U (.lst [.int 6,.int 20]);refine{_,Z9,p,6,Z9,pu.same s0,by decide,by decide,fun r G r0 r8 Z W=>{Z9,.inr {_,Z9,l0,_,_,_,Z9,Z9,SqL.of (W _ _ ak (vK pu U)),Ap,?_}}};obtain⟨mm,em,g⟩:∃m:Int,(if decide (V.int r=V.int 5)=true then V.int 20 else V.int 6)=.int m/\(0<m/\m<=20):=by
   by_cases c:V.int r=V.int 5
   ·rw[decide_eq_true c];exact{20,Z9,by decide}
   ·rw[decide_eq_false c];exact{6,Z9,by decide}
  rw[em];refine{p,mm,Z9,Z,g.1,by omega,fun x G1 x0 x1 Y J=>?_};obtain⟨n,rfl⟩:∃n:Nat,x=(n:Int):={x.toNat,by omega};exact hR n G1 {by omega,Y,((But.same (But.refl p H) s0).trans W).trans J}
 ·rintro n G0 h i ys G hi ⟨es,h1,h2,_⟩;have:=h.1;have:=aL h1;omega
 ·rintro n G0 h i ys G hi ⟨es,h1,h2,h3,Z,W⟩;refine{Z9,?_};unfold tM;refine iU ?_;refine{_,Z9,_,Z9,p,m,Z9,Z,m0,m1,fun v e G1 hv he Y J=>{es++[e],dy (Paired.mono (fun v e ⟨t,e',h⟩=>{t,e',dW.but Z J _ _ h (lU _)}) h1) hv,by rw[au,h2];rfl,fun e' h'=>?_,Y,W.trans J}}
  rcases cj.mp h' with z|z
  ·exact h3 e' z
  ·rw[aK.mp z];exact he
 ·rintro n G0 h ys G ⟨es,h1,h2,h3,Z,W⟩ l hl;have st:=aG hl (.lst ys);exact k l ys es _ ak (Paired.mono (fun _ _ z=>z.same st) h1) (by have:=h.1;omega) h3 (vK Z hl) (Z.same st) (W.same st)
end
end My
namespace L2
open PySem PySem.Spec PyProof.Rows
open PySem.SeqAt PySem.MeetsSeq PySem.MeetsSeq2 PySem.MeetsSeq3 PySem.SeqRoads2
open PySem.AutoSeq1 (wpAny_loadPart')
abbrev TrK:=Sum (List Key) (List Int)
section
variable{P:aI}{w:aY}
def IsSg(P:aI)(w:aY)(h:cb)(ns:List Int)(a:ae):Prop:=∃o n t b,h.get? a=Z8 o/\o.cls=.type "tuple"/\o.data=.seq #[.str "sign" t,.ref b] n/\Rp (fi P w) h ns b
def rS(P:aI)(w:aY)(h:cb):TrK->ae->Prop
 |.inl ks,a=>Rp (cP P w) h ks a/\ks.head?≠Z8 (Sum.inr ("sign":Str))
 |.inr ns,a=>IsSg P w h ns a
noncomputable def Kw(P:aI)(w:aY)(ns:List Int):Int:=reduceHash (Builtin.Tuple.tupleHashOf [(cP P w).hash (Sum.inr ("sign":Str)),yn (fi P w) ns])
theorem BJ:(cP P w).is (Sum.inr ("sign":Str)) (.str "sign" t)=true:=by
 rfl
theorem NF(hu:A.units+1<dM)(h:IsSg P w s.heap ns a)(q:Q (Kw P w ns) {s with toks:=s.toks+(1+(ns.length+1)+1)}):aP (aS P w) A (pyHash (.ref a)) Q E s:=by
 obtain⟨⟨c,dd,U,sl⟩,n,t,b,h1,rfl,rfl,Z⟩:=h;refine PySem.W.pyHash_slot (v:=.ref a) {_,h1,Z9} F.slot_tuple_hash F.entry_tuple_hash (F.args_tuple_hash_1 _) rfl (.inr #[2]) ?_;have V:∀(E:af->ai->Prop) (Q:Int->ai->Prop),Q ((cP P w).hash (Sum.inr ("sign":Str))) {s with toks:=s.toks+1}->aP (aS P w) A.in1 (pyHash (.str "sign" t)) Q E s:=fun E Q q=>(cP P w).pyHash (k:=Sum.inr ("sign":Str)) BJ q;have Y:∀(E:af->ai->Prop) (Q:Int->ai->Prop),Q (yn (fi P w) ns) {s with toks:=s.toks+1+(ns.length+1)}->aP (aS P w) A.in1 (pyHash (.ref b)) Q E {s with toks:=s.toks+1}:=fun E Q q=>Rq (knd:=fi P w) (by show A.units+1<dM;exact hu) Z q;unfold eK.«tuple.__hash__»;refine aa ?_;show aP _ _ (pure (Value.ref a,[])) _ _ s;refine ax ?_;dsimp only;refine aa (tupleItemsOf_ (items:=#[.str "sign" t,.ref b]) {_,h1,Z9,n,Z9} ?_);refine aa (wpAny_forIn_array' _ (fun rest hs s'=>(rest=[.str "sign" t,.ref b]/\hs=#[]/\s'=s)\/(rest=[.ref b]/\hs=#[(cP P w).hash (Sum.inr ("sign":Str))]/\s'={s with toks:=s.toks+1})\/(rest=[]/\hs=#[(cP P w).hash (Sum.inr ("sign":Str)),yn (fi P w) ns]/\s'={s with toks:=s.toks+1+(ns.length+1)})) _ ?_ ?_ _ _ (.inl ⟨Z9,Z9,Z9⟩))
 ·rintro x rest hs s' (⟨e,rfl,rfl⟩|⟨e,rfl,rfl⟩|⟨e,_⟩)
  ·cases e;refine aa (V _ _ ?_);exact ax (.inr (.inl ⟨Z9,Z9,Z9⟩))
  ·cases e;refine aa (Y _ _ ?_);exact ax (.inr (.inr ⟨Z9,Z9,Z9⟩))
  ·cases e
 ·rintro hs s' (⟨e,_⟩|⟨e,_⟩|⟨_,rfl,rfl⟩)
  ·cases e
  ·cases e
  ·have e:s.toks+1+(ns.length+1)+1=s.toks+(1+(ns.length+1)+1):=by omega
   wp_walk
   refine{_,_,Z9,?_};rw[<- e]at q;exact q
theorem Kx:∀{x y:TrK},rS P w h x a->rS P w h y a->x=y:=by
 have Z:∀{ks:List Key} {ns:List Int},rS P w h (.inl ks) a->rS P w h (.inr ns) a->False:=fun {ks ns} p q=>by
  obtain⟨⟨o,items,n,h1,h2,V,U⟩,_⟩:=p;obtain⟨o',J,t,b,Y,I,W,O⟩:=q;rw[h1]at Y
  cases Y;rw[V]at W
  cases W
  cases U with
  |cons _ z=>
   cases z with
   |cons z _=>exact absurd (show false=true from (cP P w).byValue _ _ z) aT
 intro x y p q
 cases x with
 |inl ks=>
  cases y with
  |inl M=>rw[Fj p.1 q.1]
  |inr ns=>exact (Z p q).elim
 |inr ns=>
  cases y with
  |inl M=>exact (Z q p).elim
  |inr ms=>
   obtain⟨o,n,t,b,h1,h2,V,U⟩:=p;obtain⟨o',J,t',D,Y,I,W,O⟩:=q;rw[h1]at Y
   cases Y;rw[V]at W
   cases W;rw[Fj U O]
theorem Ky(p:rS P w h k a)(V:h.get? d=Z8 o)(Z:o.data=Data.dict es ep)(W:gU d h h'):rS P w h' k a:=by
 cases k with
 |inl ks=>exact{Ca p.1 V Z W,p.2}
 |inr ns=>
  obtain⟨o',n,t,b,h1,h2,Y,U⟩:=p;have ne:a≠d:=fun z=>by
   rw[z,V]at h1
   cases h1;rw[Z]at Y
   cases Y
  exact{o',n,t,b,(W.2 a ne).trans h1,h2,Y,Ca U V Z W}
theorem NG(l b:ae)(x1 V O W:af)(n m:Nat)(dd I:Option ae)(sl sm:Array (Option af))(Y U:Bool) :
  IM P w (eK.«tuple.__eq__» {[.ref l,.ref b],[]}) (fun A R s=>
   s.heap.get? l=Z8 {cls:=.type "tuple",dict:=dd,data:=.seq #[x1,V] n,slots:=sl}/\s.heap.get? b=Z8 {cls:=.type "tuple",dict:=I,data:=.seq #[O,W] m,slots:=sm} /\
   (∀(E:af->ai->Prop) (Q:Bool->ai->Prop),Q Y s->aP (aS P w) A.in1 (eqBool x1 O) Q E s)/\(∀(E:af->ai->Prop) (Q:Bool->ai->Prop),Q U s->aP (aS P w) A.in1 (eqBool V W) Q E s)/\R (.ok (.ret (.bool (Y&&U)))) s):=
 .of_wp fun A R s h=>by
  obtain⟨hp,g,d,tk,M⟩:=s;obtain⟨J,hb,D,t,h⟩:=h;have f2:=iD
  wp_walk using cQ J,cQ hb,jj _ (fun rest b s'=>b.1=Z7/\s'=⟨hp,g,d,tk,M⟩/\(rest=[(x1,O),(V,W)]\/(Y=true/\rest=[(V,W)])\/(Y=true/\U=true/\rest=[]))) _
  case turn=>
   rintro⟨y,x⟩ rest b s' ⟨Z,rfl,z⟩
   rcases z with z|⟨rfl,z⟩|⟨_,_,z⟩
   ·cases z;refine aa (D _ _ ?_)
    cases Y with
    |true=>
     wp_walk
     exact{Z9,Z9,.inr (.inl ⟨Z9,Z9⟩)}
    |false=>
     wp_walk
     exact{_,Z9,h}
   ·cases z;refine aa (t _ _ ?_)
    cases U with
    |true=>
     wp_walk
     exact{Z9,Z9,.inr (.inr ⟨Z9,Z9,Z9⟩)}
    |false=>
     wp_walk
     exact{_,Z9,h}
   ·cases z
  case fin=>
   rintro⟨b1,b2⟩ s' ⟨Z,rfl,z⟩;simp only at Z;subst Z
   rcases z with z|⟨_,z⟩|⟨rfl,rfl,_⟩
   ·cases z
   ·cases z
   ·wp_walk
    exact{_,Z9,by simpa[ib] using h}
  case h=>exact{Z9,Z9,.inl rfl}
theorem Kz(l b:ae)(xs ys:List af)(n m:Nat)(dd M:Option ae)(sl sm:Array (Option af))(W:xs≠[]\/ys≠[]) :
  IM P w (eK.«tuple.__eq__» {[.ref l,.ref b],[]}) (fun A R s=>
   s.heap.get? l=Z8 {cls:=.type "tuple",dict:=dd,data:=.seq xs.toArray n,slots:=sl}/\s.heap.get? b=Z8 {cls:=.type "tuple",dict:=M,data:=.seq ys.toArray m,slots:=sm} /\
   (∀x y,xs.head?=Z8 x->ys.head?=Z8 y->∀(E:af->ai->Prop) (Q:Bool->ai->Prop),Q false s->aP (aS P w) A.in1 (eqBool x y) Q E s)/\R (.ok (.ret (.bool false))) s):=
 .of_wp fun A R s h=>by
  obtain⟨hp,g,d,tk,V⟩:=s;obtain⟨I,hb,J,h⟩:=h;have f2:=iD
  wp_walk using cQ I,cQ hb,jj _ (fun rest b s'=>b.1=Z7/\s'=⟨hp,g,d,tk,V⟩/\rest=xs.zip ys) _
  case turn=>
   rintro⟨y,x⟩ rest b s' ⟨Z,rfl,z⟩
   cases xs with
   |nil=>cases z
   |cons x0 xs=>
    cases ys with
    |nil=>cases z
    |cons y0 ys=>
     rw[gf]at z;injection z with Y z2;injection Y with Y O;subst Y O;refine aa (J _ _ rfl rfl _ _ ?_)
     wp_walk
     exact{_,Z9,h}
  case fin=>
   rintro⟨b1,t⟩ s' ⟨Z,rfl,z⟩;simp only at Z;subst Z;have U:¬xs.length=ys.length:=fun e=>by
    cases xs with
    |nil=>
     cases ys with
     |nil=>exact W.elim (fun z=>z rfl) fun z=>z rfl
     |cons y ys=>cases e
    |cons x xs=>
     cases ys with
     |nil=>cases e
     |cons y ys=>cases z
   have D:(xs.length==ys.length)=false:=beq_eq_false_iff_ne.mpr U
   wp_walk
   exact{_,Z9,by simpa[ib,D] using h}
  case h=>exact{Z9,Z9,by simp}
theorem zi{h:cb}(g:PySem.ItemsAre (cP P w) Z vs)(n:Z.head?≠Z8 (Sum.inr ("sign":Str)))(e:vs.head?=Z8 y):∃k,(cP P w).is k y=true/\k≠Sum.inr ("sign":Str):=by
 cases g with
 |nil=>cases e
 |cons a _=>
  cases e;exact{_,a,fun z=>n (by rw[z];rfl)}
theorem Ar(ne:l≠b)(h:∀(E:af->ai->Prop) (Q:af->ai->Prop),Q (.bool e) s->aP (aS P w) A (qe .Eq (.ref l) (.ref b)) Q E s)(q:Q e s):aP (aS P w) A (eqBool (.ref l) (.ref b)) Q E s:=by
 unfold eqBool;refine cU (gm (fun z=>?_) (fun _=>?_))
 ·exact absurd (by have Z:=eq_of_beq z;injection Z) ne
 ·exact aa (h E _ (j1 q))
theorem sg_eq(hu:A.units+1<dM)(p:rS P w s.heap x a)(U:rS P w s.heap y b)(q:Q (decide (x=y)) s):aP (aS P w) A (eqBool (.ref a) (.ref b)) Q E s:=by
 by_cases ne:a=b
 ·subst ne;rw[decide_eq_true (Kx p U)]at q;exact nK.self _ _ _ q
 have Y:A.units<dM:=by omega
 cases x with
 |inl ks=>
  cases y with
  |inl J=>
   refine Rr (knd:=cP P w) Y p.1 U.1 ?_;rw[show decide (ks=J)=decide ((Sum.inl ks:TrK)=.inl J) from decide_eq_decide.mpr {fun z=>by rw[z],fun z=>qp z}];exact q
  |inr ns=>
   obtain⟨⟨⟨c2,O,t2,sm⟩,items,m,Z,rfl,rfl,W⟩,I⟩:=p;obtain⟨⟨c1,dd,t1,sl⟩,n,t,V,h1,rfl,rfl,D⟩:=U;rw[decide_eq_false (by intro z;cases z)]at q;refine Ar ne (fun E Q q=>ig (op:=.Eq) {_,Z,Z9} {_,h1,Z9} F.slot_tuple_eq (oJ F.slot_tuple_eq {_,Z,Z9} F.entry_tuple_eq (F.args_tuple_eq_2 _ _) (Kz a b items.toList [.str "sign" t,.ref V] m n O dd sm sl (.inr fun z=>by cases z)) {by simpa using Z,h1,fun x y hx hy E Q q=>?_,fun z=>(nomatch z),q}) Y) q;obtain⟨k,g,M⟩:=zi (h:=s.heap) W I hx
   cases hy;exact (cP P w).eqBool (a:=k) (b:=Sum.inr ("sign":Str)) g BJ (by rw[decide_eq_false M];exact q)
 |inr ns=>
  cases y with
  |inl J=>
   obtain⟨⟨c1,dd,t1,sl⟩,n,t,V,h1,rfl,rfl,D⟩:=p;obtain⟨⟨⟨c2,O,t2,sm⟩,items,m,Z,rfl,rfl,W⟩,I⟩:=U;rw[decide_eq_false (by intro z;cases z)]at q;refine Ar ne (fun E Q q=>ig (op:=.Eq) {_,h1,Z9} {_,Z,Z9} F.slot_tuple_eq (oJ F.slot_tuple_eq {_,h1,Z9} F.entry_tuple_eq (F.args_tuple_eq_2 _ _) (Kz a b [.str "sign" t,.ref V] items.toList n m dd O sl sm (.inl fun z=>by cases z)) {h1,by simpa using Z,fun x y hx hy E Q q=>?_,fun z=>(nomatch z),q}) Y) q;obtain⟨k,g,M⟩:=zi (h:=s.heap) W I hy
   cases hx;exact (cP P w).eqBool (a:=Sum.inr ("sign":Str)) (b:=k) BJ g (by rw[decide_eq_false fun z=>M z.symm];exact q)
  |inr ms=>
   obtain⟨⟨c1,dd,t1,sl⟩,n,t,V,h1,rfl,rfl,D⟩:=p;obtain⟨⟨c2,O,t2,sm⟩,m,t',b2,Z,rfl,rfl,W⟩:=U;refine Ar (e:=decide ((Sum.inr ns:TrK)=.inr ms)) ne (fun E Q q=>ig (op:=.Eq) {_,h1,Z9} {_,Z,Z9} F.slot_tuple_eq (oJ F.slot_tuple_eq {_,h1,Z9} F.entry_tuple_eq (F.args_tuple_eq_2 _ _) (NG a b (.str "sign" t) (.ref V) (.str "sign" t') (.ref b2) n m dd O sl sm true (decide (ns=ms))) {h1,Z,fun E Q q=>?_,fun E Q q=>Rr (knd:=fi P w) (by show A.units+1<dM;exact hu) D W q,?_}) Y) q
   ·exact (cP P w).eqBool (a:=Sum.inr ("sign":Str)) (b:=Sum.inr ("sign":Str)) BJ BJ (by rw[decide_eq_true rfl];exact q)
   ·refine{fun z=>(nomatch z),?_};rw[AN,show decide (ns=ms)=decide ((Sum.inr ns:TrK)=.inr ms) from decide_eq_decide.mpr {fun z=>by rw[z],fun z=>iu z}];exact q
theorem BK(h1:s.heap.get? a=Z8 o)(h2:o.cls=.type "tuple")(U:o.data=.seq items n)
  (all:∀v∈items.toList,∀(E:af->ai->Prop) (Q:Bool->ai->Prop),Q true s->aP (aS P w) A (vt m v) Q E s) (h:Q true s):aP (aS P w) A (vt (m+1) (.ref a)) Q E s:=by
 have V:s.TypeIs (.ref a) "tuple":={_,h1,h2};unfold vt;refine aa (Ba V F.slot_tuple_eq.lookup ?_);show aP _ _ (isInstance (.ref a) (.type "tuple") >>= _) _ _ s;refine aa (rF V isSubtype_tuple_tuple ?_);simp only[AQ,jf,if_false];refine aa (uy h1 U ?_);refine aa ?_;show aP _ _ (forIn items _ _) _ _ s;rw[<- Array.forIn_toList];refine jj _ (fun rest r s'=>r.1=Z7/\s'=s/\∀v∈rest,∀(E:af->ai->Prop) (Q:Bool->ai->Prop),Q true s->aP (aS P w) A (vt m v) Q E s) _ ?_ ?_ _ _ ⟨Z9,Z9,all⟩
 ·rintro v rest r s' ⟨W,rfl,Z⟩;refine aa (Z v aB _ _ ?_);simp only[AQ,jf,if_false];exact ax {Z9,Z9,fun u Y=>Z u (aj _ Y)}
 ·rintro⟨M,O⟩ s' ⟨W,rfl,_⟩;simp only at W;subst W;exact ax h
theorem zj(c:carriedByValue v=true)(h:Q true s):aP (aS P w) A (vt (m+1) v) Q E s:=by
 rw[eqIsQuiet_byValue _ c];exact ax h
theorem KA(p:rS P w s.heap k a)(h:Q true s):aP (aS P w) A (vt 8 (.ref a)) Q E s:=by
 cases k with
 |inl ks=>exact wpAny_eqIsQuiet_tuple p.1 h
 |inr ns=>
  obtain⟨o,n,t,b,h1,h2,Z,⟨o',items,O,Y,U,V,W⟩⟩:=p;refine BK (m:=7) h1 h2 Z (fun v hv E Q q=>?_) h
  rcases aq.mp hv with rfl|hv
  ·exact zj (m:=6) rfl q
  ·rcases aq.mp hv with rfl|hv
   ·exact BK (m:=6) Y U V (fun v hv E Q q=>zj (m:=5) (W.byValue v hv) q) q
   ·cases hv
noncomputable def qY(P:aI)(w:aY):HeapKind P w TrK where
 is:=rS P w
 hash:=fun k=>match k with
  |.inl ks=>yn (cP P w) ks
  |.inr ns=>Kw P w ns
 draws:=fun k=>match k with
  |.inl ks=>ks.length+1
  |.inr ns=>1+(ns.length+1)+1
 room:=fun A=>A.units+1<dM
 inj:=Kx
 keeps:=Ky
 pyHash:=fun {A E s k a Q} hu p q=>by
  cases k with
  |inl ks=>exact Rq (knd:=cP P w) #[2] p.1 q
  |inr ns=>exact NF hu p q
 eqBool:=sg_eq
 quiet:=KA
end
end L2
namespace L2
open PySem PySem.Spec PyProof.Rows
abbrev KS:List (TrK×ae×V)->List (TrK×ae×af)->Prop:=aN fun p q=>p.1=q.1/\p.2.1=q.2.1/\RelV p.2.2 q.2.2
def vw(kvs:List (TrK×ae×V)):List (TrK×V):=kvs.map fun x=>(x.1,x.2.2)
def uT(kvs:List (TrK×ae×V))(k:TrK)(b:ae)(v:V):List (TrK×ae×V):=
 if (iR (vw kvs) k).isSome=true then kvs.map (fun x=>if x.1=k then (x.1,x.2.1,v) else x) else kvs++[(k,b,v)]
theorem Rt(kvs:List (TrK×ae×V))(k:TrK)(b:ae)(v:V):vw (uT kvs k b v)=iV (vw kvs) k v:=by
 unfold uT iV;rw[jH]
 split
 ·simp only[vw,dC];apply gR;intro x _;show ((if x.1=k then (x.1,x.2.1,v) else x).1,(if x.1=k then (x.1,x.2.1,v) else x).2.2)=(if x.1=k then (x.1,v) else (x.1,x.2.2))
  split<;>rfl
 ·simp only[vw,bA,bK,kU]
theorem vv(kvs:List (TrK×ae×V))(k:TrK)(b:ae)(v:V):(uT kvs k b v).length<=kvs.length+1:=by
 unfold uT
 split
 ·rw[ah];omega
 ·rw[au,aX,cI];omega
theorem KS.val(r:KS kvs xs)(k:TrK):p5 (iR (vw kvs) k) ((pA xs k).map (·.2)):=by
 induction r with
 |nil=>exact True.intro
 |@cons p q ps qs h t Y=>
  obtain⟨h1,_,h2⟩:=h
  by_cases e:p.1=k
  ·have Z:q.1=k:=h1.symm.trans e;have b:pA (q::qs) k=Z8 q.2:=by simp[pA,iF,Z]
   rw[show vw (p::ps)=(p.1,p.2.2)::vw ps from rfl,gZ e,b];exact h2
  ·have Z:¬q.1=k:=fun z=>e (h1.trans z);have b:pA (q::qs) k=pA qs k:=by simp[pA,iF,Z]
   rw[show vw (p::ps)=(p.1,p.2.2)::vw ps from rfl,g9 e,b];exact Y
theorem KS.repl(r:KS kvs xs)(k:TrK)(W:RelV y u) :
  KS (kvs.map fun x=>if x.1=k then (x.1,x.2.1,y) else x) (xs.map (putAt k u)):=by
 induction r with
 |nil=>exact .nil
 |@cons p q ps qs h t Z=>
  rw[bK,bK];refine .cons ?_ Z;obtain⟨h1,h2,Y⟩:=h;unfold putAt
  by_cases e:p.1=k
  ·rw[if_pos e,if_pos (h1.symm.trans e)];exact⟨h1,h2,W⟩
  ·rw[if_neg e,if_neg (fun z=>e (h1.trans z))];exact⟨h1,h2,Y⟩
theorem KS.put(r:KS kvs xs)(k:TrK)(Z:RelV y u) :
  KS (uT kvs k b y) (RW xs k b u):=by
 unfold uT RW;rw[(r.val k).isSome_eq,kL]
 by_cases q:(pA xs k).isSome=true
 ·rw[if_pos q,if_pos q];exact r.repl k Z
 ·rw[if_neg q,if_neg q];exact dy r ⟨Z9,Z9,Z⟩
def TrH(H:Hp):TrK->ae->Prop
 |.inl ks,b=>H b=Z8 (.tup (ks.map kV))/\ks.head?≠Z8 (Sum.inr ("sign":Str))
 |.inr ns,b=>∃c,H b=Z8 (.tup [.str "sign",.ref c])/\H c=Z8 (.tup (ns.map .int))
def dS(P:aI)(w:aY)(a:ae)(kvs:List (TrK×ae×V)):HO:=.ext fun h=>kvs.length<=aD/\(a==eF)=false/\∃xs,KS kvs xs /\
 ∃o es ep,h.get? a=Z8 o/\o.ExactDict/\o.data=.dict es ep/\es.toList=xs.map (entryOfKey (qY P w))/\(xs.map (·.1)).Nodup
def DS(P:aI)(w:aY)(H:Hp)(a:ae)(kvs:List (TrK×ae×V)):Prop:=H a=Z8 (dS P w a kvs)/\∀x∈kvs,TrH H x.1 x.2.1
section
variable{P:aI}{w:aY}{H:Hp}{h:cb}{a:ae}
theorem BL:∀{ns:List Int} {us:List af},cW (ns.map .int) us->ItemsAre (fi P w) ns us
 | [],_,r=>by rw[kU]at r;cases r;exact .nil
 |k::ks,_,r=>by
  rw[bK]at r
  cases r with
  |@cons _ u _ _ h t=>
   obtain⟨t',rfl⟩:∃t',u=.int k t':=h;exact .cons (by simp[fi,rC]) (BL t)
theorem NH(ok:HOk P w H h)(e:H a=Z8 (.tup (ns.map .int))):Rp (fi P w) h ns a:=by
 obtain⟨_,Z,r,o,h1,h2,n,Y⟩:=(show dZ P w H h a (.tup (ns.map .int)) from ok a _ e);exact{o,Z.toArray,n,h1,h2,Y,by simpa using BL r}
theorem TrH.is(ok:HOk P w H h)(e:TrH H k a):(qY P w).is h k a:=by
 cases k with
 |inl ks=>exact{xa ok e.1,e.2}
 |inr ns=>
  obtain⟨c,V,M⟩:=e;obtain⟨_,U,r,o,h1,h2,n,Y⟩:=(show dZ P w H h a (.tup [.str "sign",.ref c]) from ok a _ V)
  cases r with
  |@cons _ u _ us hu r=>
   cases r with
   |@cons _ W _ O Z r=>
    cases r;obtain rfl:W=.ref c:=Z;obtain⟨t',rfl⟩:∃t',u=.str "sign" t':=hu;exact{o,n,t',c,h1,h2,Y,NH ok M}
theorem TrH.keeps(e:TrH H k a)(ht:∀b ys,H b=Z8 (.tup ys)->H' b=Z8 (.tup ys)):TrH H' k a:=by
 cases k with
 |inl ks=>exact{ht _ _ e.1,e.2}
 |inr ns=>exact let ⟨c,Y,Z⟩:=e;{c,ht _ _ Y,ht _ _ Z}
theorem KB(ok:HOk P w H h)(e:DS P w H a kvs):kvs.length<=aD/\(a==eF)=false/\∃xs,KS kvs xs/\h.DictOfH (qY P w) a xs:=by
 obtain⟨⟨z,y,xs,r,o,es,ep,h1,h2,Y,Z,W⟩,_⟩:=(show dZ P w H h a (dS P w a kvs) from ok a _ e.1);refine{z,y,xs,r,o,es,ep,h1,h2,Y,Z,fun x hx=>?_,W};have all:∀{l:List (TrK×ae×V)} {m:List (TrK×ae×af)},KS l m->(∀x∈l,TrH H x.1 x.2.1)->∀x∈m,(qY P w).is h x.1 x.2.1:=by
  intro l m q
  induction q with
  |nil=>intro _ x hx;exact nomatch hx
  |@cons p q ps qs hq t U=>
   intro g x hx
   rcases aq.mp hx with e|hx
   ·subst e;rw[<- hq.1,<- hq.2.1];exact (g _ aB).is ok
   ·exact U (fun x hx=>g x (aj _ hx)) x hx
 exact all r e.2 x hx
theorem DS.keeps(e:DS P w H a kvs)(Z:H' a=H a)(ht:∀b ys,H b=Z8 (.tup ys)->H' b=Z8 (.tup ys)):DS P w H' a kvs:=
 {Z.trans e.1,fun x hx=>(e.2 x hx).keeps ht}
theorem KC(z:kvs.length<=aD)(y:(a==eF)=false)(r:KS kvs xs)(dd:h.DictOfH (qY P w) a xs):dZ P w H h a (dS P w a kvs):=by
 obtain⟨o,es,ep,h1,h2,Z,Y,_,W⟩:=dd;refine{⟨z,y,xs,r,o,es,ep,h1,h2,Z,Y,W⟩,⟨o,h1⟩,fun U O q k=>?_};obtain⟨z,y,xs,r,o,es,ep,h1,h2,Z,Y,W⟩:=q;exact{z,y,xs,r,o,es,ep,k _ h1,h2,Z,Y,W}
end
def KD(P:aI)(w:aY):TE:=fun _ H Q=>∀p,H p=Z7->Q (.ref p) (upd H p (dS P w p []))
inductive Ph(P:aI)(w:aY)(x y:V)(H:Hp)(Q:VK):Prop where
 |mk(a b:ae)(kvs:List (TrK×ae×V))(k:TrK)(v:V)(hx:x=.ref a)(hy:y=.ref b)(d:DS P w H a kvs)(t:TrH H k b)(e:iR (vw kvs) k=Z8 v)(q:Q v H):Ph P w x y H Q
inductive SInI(P:aI)(w:aY)(x y:V)(H:Hp)(Q:VK):Prop where
 |mk(a b:ae)(kvs:List (TrK×ae×V))(k:TrK)(hx:x=.ref a)(hy:y=.ref b)(d:DS P w H a kvs)(t:TrH H k b)(q:Q (.bl (iR (vw kvs) k).isSome) H):SInI P w x y H Q
inductive Pi(P:aI)(w:aY)(x y v:V)(H:Hp)(R:Hp->Prop):Prop where
 |mk(a b:ae)(kvs:List (TrK×ae×V))(k:TrK)(hx:x=.ref a)(hy:y=.ref b)(d:DS P w H a kvs)(t:TrH H k b)(n:kvs.length<aD)(q:R (upd H a (dS P w a (uT kvs k b v)))):Pi P w x y v H R
def Pj(P:aI)(w:aY)(td ty:TE):TE:=fun σ H Q=>td σ H fun x H1=>ty σ H1 fun y H2=>Ph P w x y H2 Q
def tSIn(P:aI)(w:aY)(ty td:TE):TE:=fun σ H Q=>ty σ H fun y H1=>td σ H1 fun x H2=>SInI P w x y H2 Q
def Pk(P:aI)(w:aY)(td ty tv:TE):TS:=fun D σ H=>tv σ H fun v H1=>td σ H1 fun x H2=>ty σ H2 fun y Z=>Pi P w x y v Z (D.nx σ)
section
variable{X:Cx}{o i e value:cK}{pos pos' tpos:Pos}{td ty tv:TE}
theorem KF:PE X (.Dict [] [] pos) (KD X.prog X.w):=fun pins s σ H Q I h=>
 wpAny_Dict_empty ⟨.ref s.heap.objs.size,_,I.laid (a:=s.heap.objs.size) (o:=dS X.prog X.w s.heap.objs.size []) (t':=s.toks) (fun _ _ q=>aE _ q) (ay _)
  (KC (xs:=[]) (aW _) (beq_eq_false_iff_ne.mpr (fb (aM I.big))) .nil {_,#[],0,aU _ rfl,⟨Z9,Z9,Z9⟩,Z9,Z9,(fun x hx=>nomatch hx),iY}),Z9,h _ (I.hok.fresh (ay _))⟩
theorem NI(hu:X.A.units+2<dM)(D:PE X o td)(hi:PE X i ty)(hs:LV i:=by intro _ _;rfl):PE X (.Subscript o i pos) (Pj X.prog X.w td ty):=by
 intro pins s σ H Q I h;refine Ez xX.lookup hs (thn (D pins s σ H _ I h) fun u s1 ⟨x,H1,U,rx,J⟩=>thn (hi pins s1 σ H1 _ U J) fun iv s2 ⟨y,H2,Y,M,a,b,kvs,k,v,ex,O,g,tr,l,t⟩=>?_);subst ex O;obtain rfl:u=Value.ref a:=rx;obtain rfl:iv=Value.ref b:=M;obtain⟨z,hd,xs,Z,dd⟩:=KB Y.hok g;obtain⟨w',hw,V⟩:=p5.some_of (v:=v) (o:=(pA xs k).map (·.2)) (by rw[<- l];exact Z.val k);obtain⟨p,hp,W⟩:=dI.mp hw;refine{dd.typeIs,Qg (knd:=qY X.prog X.w) (show X.A.units+1+1<dM from hu) (tr.is Y.hok) dd hp ?_};rw[W];exact{v,H2,Y.tok _,V,t}
theorem Ru(hu:X.A.units+2<dM)(hi:PE X i ty)(M:PE X o td):PC X .In i o (tSIn X.prog X.w ty td):=by
 intro pins s σ H Q I h;refine thn (hi pins s σ H _ I h) fun iv t ⟨y,H1,W,U,O⟩=>thn (M pins t σ H1 _ W O) fun u s2 ⟨x,H2,Y,rx,a,b,kvs,k,ex,V,g,tr,D⟩=>?_;subst ex V;obtain rfl:u=Value.ref a:=rx;obtain rfl:iv=Value.ref b:=U;obtain⟨z,J,xs,Z,dd⟩:=KB Y.hok g;refine wpAny_in_heap (knd:=qY X.prog X.w) (show X.A.units+1+1<dM from hu) (tr.is Y.hok) J dd ?_;have q:=(Z.val k).isSome_eq;rw[kL]at q;rw[<- q];exact{.bl _,H2,Y.tok _,Z9,D}
theorem NJ(hu:X.A.units+2<dM)(t:PE X o td)(hi:PE X i ty)(hv:PE X value tv)(hs:mE value (Z8 (.Subscript o i pos')) pos.line X.env=pure false) :
  PS X (.Assign [.Subscript o i pos'] value pos) (Pk X.prog X.w td ty tv):=by
 intro pins s σ H D I h;refine IE (thn (hv pins s σ H _ I h) fun r s1 ⟨v,H1,I1,O,q1⟩=>thn (t pins s1 σ H1 _ I1 q1) fun u s2 ⟨x,H2,J,rx,q2⟩=>thn (hi pins s2 σ H2 _ J q2) fun iv s3 ⟨y,H3,W,ry,a,b,kvs,k,ex,V,g,tr,l,q3⟩=>?_) hs;subst ex V;obtain rfl:u=Value.ref a:=rx;obtain rfl:iv=Value.ref b:=ry;obtain⟨z,hd,xs,Z,dd⟩:=KB W.hok g;have hz:xs.length<=aD:=by rw[<- aL Z];exact z
 have U:(uT kvs k b v).length<=aD:=by have:=vv kvs k b v;omega
 refine Qh (knd:=qY X.prog X.w) (hsz:=hz) (show X.A.units+1+1<dM from hu) (tr.is W.hok) dd fun h' Y hs=>{σ,_,?_,q3};have M:∃q,h'.get? a=Z8 q:=let ⟨q,_,_,hq,_⟩:=Y;⟨q,hq⟩;exact vS W (by rw[g.1];exact True.intro) hs M (KC U hd (Z.put k O) Y)
theorem KG(P:aI)(w:aY)(Z:X.prog=P)(hw:X.w=w)(hu:X.A.units+2<dM)(Y:PE X o td)(hi:PE X i ty)(hs:LV i:=by intro _ _;rfl):PE X (.Subscript o i pos) (Pj P w td ty):=by
 subst Z hw;exact NI hu Y hi hs
theorem NK(P:aI)(w:aY)(Z:X.prog=P)(hw:X.w=w)(hu:X.A.units+2<dM)(hi:PE X i ty)(Y:PE X o td):PC X .In i o (tSIn P w ty td):=by
 subst Z hw;exact Ru hu hi Y
theorem KH(P:aI)(w:aY)(Z:X.prog=P)(hw:X.w=w):PE X (.Dict [] [] pos) (KD P w):=by
 subst Z hw;exact KF
theorem KI(P:aI)(w:aY)(Z:X.prog=P)(hw:X.w=w)(hu:X.A.units+2<dM)(Y:PE X o td)(hi:PE X i ty)(hv:PE X value tv)(hs:mE value (Z8 (.Subscript o i pos')) pos.line X.env=pure false) :
  PS X (.Assign [.Subscript o i pos'] value pos) (Pk P w td ty tv):=by
 subst Z hw;exact NJ hu Y hi hv hs
theorem DS.put(e:DS P w H a kvs)(tr:TrH H k b):DS P w (upd H a (dS P w a (uT kvs k b v))) a (uT kvs k b v):=by
 have ht:∀c ys,H c=Z8 (.tup ys)->upd H a (dS P w a (uT kvs k b v)) c=Z8 (.tup ys):=fun c ys Z=>by
  rw[aQ (kg Z e.1 (fun z=>nomatch z))];exact Z
 refine{ak,fun x hx=>?_};unfold uT at hx
 split at hx
 ·obtain⟨y,hy,rfl⟩:=cB.mp hx;have q:=(e.2 y hy).keeps ht
  by_cases c:y.1=k
  ·rw[if_pos c];exact q
  ·rw[if_neg c];exact q
 ·rcases cj.mp hx with hx|hx
  ·exact (e.2 x hx).keeps ht
  ·rcases aq.mp hx with rfl|hx
   ·exact tr.keeps ht
   ·cases hx
end
theorem Fk(h:dQ vs ns):cW (ns.map V.int) vs:=by
 induction h with
 |nil=>exact .nil
 |cons n t _ Z=>exact .cons ⟨t,Z9⟩ Z
section
variable{prog:aI}{w:aY}{A:bJ}{E:af->ai->Prop}{s:ai}
theorem As{K:Type}[DecidableEq K]{knd:Oe prog w K}{d:ae}{kvs:List (K×af)}{M:List Int}{Q:af->ai->Prop}(hh:A.handled=Z7)(lo:(d==eF)=false)(hm:s.heap.DictOf knd d kvs)(D:kvs.length<64)
  (hk:∀vs:List af,vs.length=kvs.length->(∀(j:Nat) (v:af),vs[j]?=Z8 v->∃k x,kvs[j]?=Z8 (k,x)/\knd.is k v=true)->dQ vs M)
  (h:∀(h1 h2:cb) (tk:Nat) (O:List af) (Y:List Int) (e:Nat),(∀b o,s.heap.get? b=Z8 o->h1.get? b=Z8 o)->(∀b o,h1.get? b=Z8 o->h2.get? b=Z8 o)->h2.get? h1.objs.size=Z8 {cls:=.type "list",data:=.seq O.toArray e}->dQ O Y->Y.Perm M->Y.Pairwise (·<=·)->Q (.ref h1.objs.size) {s with heap:=h2,toks:=tk}) :
  aP (aS prog w) A (vz (.builtin "sorted") [.ref d]) Q E s:=by
 obtain⟨ep,I⟩:=hm.dictAt;refine zk AS yj yk (args_sorted1 _) ?_;unfold eK.«sorted»;refine aa (m:=C7 "sorted" 1 1 _) (ax ?_);have sl:64<=aD:=by decide
 refine aa (PySem.W.kdu_collect (A:=A.in1) (GX (knd:=knd) (kvs:=kvs) (ep:=ep) lo) hh I #[2] fun h' tk Z J V=>?_);have z:Z.toList.length=kvs.length:=by rw[bZ];exact V.1
 have hS:dQ Z.toList M:=hk Z.toList z fun j v e=>V.2 j v (by rw[<- jy];exact e);refine aa (nv ?_ (by rw[z];omega));have U:(h'.push (dH "list" Z.toList.toArray 0)).get? h'.objs.size=Z8 (dH "list" Z.toList.toArray 0):=aU _ rfl;refine aa (cU (eE uD {_,U,Z9} sX (list_sort_tree (s:={s with heap:=h'.push (dH "list" Z.toList.toArray 0),toks:=tk}) U hS (by rw[z];exact D) fun out Y b1 g b3=>{_,Z9,?_}) (args_list_sort _)));obtain⟨e,he⟩:=sortedHeap_at (out:=out) U;refine ax {_,Z9,h h' _ tk out.toList Y e J (fun b o t=>?_) he b1 g b3};have lt:=aO t;rw[sortedHeap_old (aM lt) (by rw[gB];exact dY lt)];exact aE _ t
end
section
variable{X:Cx}
theorem GY:∀(kvs:List (Key×V)) (Z:List Int) (Y:List (Key×af)),KV kvs Y->kvs.map (·.1)=Z.map Sum.inl->∀vs:List af,vs.length=Y.length->(∀(j:Nat) (v:af),vs[j]?=Z8 v->∃k x,Y[j]?=Z8 (k,x)/\(cP P w).is k v=true)->dQ vs Z:=by
 intro kvs
 induction kvs with
 |nil=>
  intro Z Y k e vs W _
  cases k
  cases Z with
  |nil=>
   cases vs with
   |nil=>exact .nil
   |cons _ _=>cases W
  |cons _ _=>cases e
 |cons kv r D=>
  intro Z Y k e vs W hv
  cases k with
  |@cons _ w' _ wr z zr=>
   cases Z with
   |nil=>cases e
   |cons x U=>
    rw[bK,bK]at e;injection e with I e2
    cases vs with
    |nil=>cases W
    |cons v vr=>
     obtain⟨O,M,a,b⟩:=hv 0 v rfl;have a:w'=(O,M):=cF a;have g:O=Sum.inl x:=by
      rw[<- I,z.1,a]
     subst g;obtain⟨t,rfl⟩:=uj (show rC x v=true from b);exact .cons x t (D U wr zr e2 vr (zl W) fun j v' J=>hv (j+1) v' J)
theorem Au(hc:X.calm=true):lE X (.builtin "sorted") (fun xs H Q=>∃p Y kvs,xs=[V.ref p]/\H p=Z8 (.dK kvs)/\kvs.map (·.1)=Y.map Sum.inl/\Y.length<64 /\
  ∀(l:ae) (Z:List Int),H l=Z7->Z.Perm Y->Z.Pairwise (·<=·)->Q (.ref l) (upd H l (.lst (Z.map V.int)))):=by
 intro pins s σ H xs us Q I r h;obtain⟨p,Y,kvs,rfl,hp,hk,bo,q⟩:=h;obtain⟨u,rfl,ru⟩:=vals1 r
 cases ru;have sl:64<=aD:=by decide
 obtain⟨_,D,ws,k1,m1⟩:=(show dZ X.prog X.w H s.heap p (.dK kvs) from I.hok p _ hp);have t:=congrArg i5 hk;rw[ah,ah]at t;refine As (knd:=cP X.prog X.w) (I.ok.hd hc) D m1 (by rw[<- k1.length];omega) (GY kvs Y ws k1 hk) fun h1 h2 tk W Z e O U he b1 M g=>?_;have J:Inv X pins σ H {s with heap:=h1,toks:=tk}:=I.kept (t':=tk) O;have z:=J.laid (a:=h1.objs.size) (o:=.lst (Z.map V.int)) (t':=tk) (h':=h2) U (ay _) {by rw[ah,M.length_eq];omega,W,e,Fk b1,he};exact{.ref h1.objs.size,_,z,Z9,q _ Z (J.hok.fresh (ay _)) M g}
end
abbrev yo(xs:Array Nat):Prop:=xs.toList.Pairwise (·<·)
theorem yo.lt(r:yo xs)(h:i<k)(hk:k<xs.size)(d e:Nat):xs.getD i d<xs.getD k e:=by
 have q:=cT.mp r i k (by simpa using jn h hk) (by simpa using hk) h;simpa[iL,hk,jn h hk] using q
theorem KJ(xs:Array Nat)(r:yo xs)(j:Nat):∀(f lo hi:Nat),hi<=xs.size->hi-lo<=f->lo<=hi->(∀k,k<lo->k<xs.size->xs.getD k 0<j)->(∀k,hi<=k->k<xs.size->j<=xs.getD k 0) ->
  j3 xs j f lo hi<=xs.size/\(∀k,k<j3 xs j f lo hi->k<xs.size->xs.getD k 0<j)/\∀k,j3 xs j f lo hi<=k->k<xs.size->j<=xs.getD k 0:=by
 intro f
 induction f with
 |zero=>
  intro lo hi h1 h2 U Z Y;unfold j3;exact{by omega,Z,fun k hk=>Y k #[2]}
 |succ f W=>
  intro lo hi h1 h2 U Z Y;unfold j3
  by_cases c:lo<hi
  ·rw[if_pos c];dsimp only;have V:(lo+hi)/2<xs.size:=by omega
   have e:∀d,xs.getD ((lo+hi)/2) d=xs.getD ((lo+hi)/2) 0:=fun d=>by simp[iL,V]
   rw[e j]
   by_cases q:xs.getD ((lo+hi)/2) 0<j
   ·rw[if_pos q];refine W _ _ h1 #[2] #[2] (fun k hk hz=>?_) Y
    by_cases z:k<(lo+hi)/2
    ·exact jn (r.lt z V 0 0) q
    ·have z:k=(lo+hi)/2:=by omega
     rw[z];exact q
   ·rw[if_neg q];refine W _ _ #[2] #[2] #[2] Z (fun k hk hz=>?_)
    by_cases z:(lo+hi)/2<k
    ·have:=r.lt z hz 0 0;omega
    ·have z:k=(lo+hi)/2:=by omega
     rw[z];omega
  ·rw[if_neg c];exact{by omega,Z,fun k hk=>Y k #[2]}
theorem xK(r:yo xs)(j:Nat):cg xs j<=xs.size/\(∀k,k<cg xs j->k<xs.size->xs.getD k 0<j)/\∀k,cg xs j<=k->k<xs.size->j<=xs.getD k 0:=
 KJ xs r j _ _ _ (ay _) #[2] (aW _) (fun k hk=>by omega) fun k hk hz=>by omega
theorem KL(r:yo xs)(h:xs[cg xs j]?≠Z8 j):yo (SetTable.insertAt xs (cg xs j) j):=by
 obtain⟨M,V,W⟩:=xK r j;show AX _ _;rw[SetTable.toList_insertAt];have hs:(xs.toList.take (cg xs j)++xs.toList.drop (cg xs j)).Pairwise (·<·):=by rw[ij];exact r
 obtain⟨U,p2,J⟩:=fh.mp hs;have up:∀y∈xs.toList.drop (cg xs j),j<y:=fun y hy=>by
  obtain⟨k,hk,e⟩:=rT.mp hy;rw[List.getElem_drop]at e;rw[lN,bZ]at hk;have hz:cg xs j+k<xs.size:=by omega
  have q:=W _ (xp _ k) hz;have Y:xs.getD (cg xs j+k) 0=y:=by rw[<- e];simp[iL,hz]
  rw[Y]at q
  rcases Nat.lt_or_eq_of_le q with q|q
  ·exact q
  ·exfalso
   by_cases z:k=0
   ·subst z;refine h ?_;rw[Nat.add_zero]at hz Y;rw[eR hz];have z:=Y.trans q.symm;simp only[iL,hz,dite_true]at z;exact congrArg Z8 z
   ·have hb:cg xs j<xs.size:=by omega
    have O:=W _ (ay _) hb;have I:=r.lt (i:=cg xs j) (k:=cg xs j+k) #[2] hz 0 0;omega
 refine fh.mpr {U,dv.mpr ⟨up,p2⟩,fun x hx y hy=>?_};have Z:x<j:=by
  obtain⟨k,hk,e⟩:=rT.mp hx;rw[List.getElem_take]at e;rw[bD,bZ]at hk;have hz:k<xs.size:=by omega
  have q:=V k #[2] hz;have Y:xs.getD k 0=x:=by rw[<- e];simp[iL,hz]
  omega
 rcases aq.mp hy with rfl|hy
 ·exact Z
 ·exact jn Z (up y hy)
theorem GZ{t:gb}(h:∀i,t.slot j≠.live i):t.place[cg t.place j]?≠Z8 j:=fun z=>by
 refine h (cg t.place j) ?_;unfold SetTable.slot;dsimp only;rw[if_pos (by rw[z];exact beq_self_eq_true _)]
theorem DK:∀(f:Nat) (p:HD) (j:Nat) (d:Option Nat),(∀k,p.dummy=Z8 k->∀i,t.slot k≠.live i)->qj t g h f p=Z8 (.empty j d)->∀i,t.slot (d.getD j)≠.live i:=by
 intro f
 induction f with
 |zero=>intro p j d _ e;unfold qj at e;cases e
 |succ f Y=>
  intro p j d W e;have Z:∀p:HD,(t.advance p).dummy=p.dummy:=fun p=>by unfold SetTable.advance;split<;>rfl
  unfold qj at e
  cases hs:t.slot p.j with
  |empty=>
   rw[hs]at e;dsimp only at e;injection e with e;injection e with V U;subst V U
   cases hq:p.dummy with
   |none=>intro i z;rw[ve,hs]at z;cases z
   |some k=>rw[Option.getD_some];exact W k hq
  |dummy=>
   rw[hs]at e;dsimp only at e;refine Y _ j d (fun k hk i=>?_) e;rw[Z]at hk;injection hk with hk;subst hk;rw[hs];exact fun z=>by cases z
  |live i=>
   rw[hs]at e;dsimp only at e
   split at e
   ·cases e
   ·exact Y _ j d (fun k hk=>W k (by rw[Z]at hk;exact hk)) e
theorem yp{t:gb}(e:t.freeSlot h=Z8 (j,d)):t.place[cg t.place j]?≠Z8 j:=by
 unfold SetTable.freeSlot at e
 split at e
 ·rename_i j' d' q
  injection e with e;injection e with Z Y;subst Z;exact GZ (DK _ _ j' d' (fun k hk=>by cases hk) q)
 ·cases e
def Tb(b:Bool)(t:gb):Prop:=t.led=b/\(t.plain=true->yo t.place)
theorem Tb.fresh:Tb b (.fresh f m b):={Z9,fun _=>.nil}
theorem Tb.off(h:Tb b t):Tb b {t with plain:=false}:={h.1,fun z=>by cases z}
theorem Tb.stand(h:Tb b t):Tb b (t.standIn n):={h.1,fun z=>by cases z}
theorem Tb.new(h:Tb b t)(es:Array (Int×af))(k:Int)(x:af):Tb b (layNew t es k x).2.1:=by
 unfold layNew
 split
 ·rename_i slot d q
  show Tb b ((t.put slot).1.orStandIn _);have g:Tb b (t.put slot).1:={h.1,fun z=>KL (h.2 z) (yp q)};unfold SetTable.orStandIn
  split
  ·exact g
  ·exact g.stand
 ·exact h.stand
theorem Tb.relay(h:Tb b t)(es:Array (Int×af))(n:Nat):Tb b (yq t es n).2.1:=by
 unfold yq
 split
 ·rename_i t' order q
  dsimp only
  split
  ·unfold SetTable.relaid SetTable.laid at q
   cases hl:SetTable.layClean (SetTable.sizeAbove n-1) (es.map (·.1)) with
   |none=>rw[hl]at q;cases q
   |some owner=>
    rw[hl]at q;injection q with q;injection q with Y U;subst Y;refine{h.1,fun _=>?_};show AX _ (qh _).toList;rw[List.map_filterMap];refine List.Pairwise.filterMap (R:=(·<·)) _ (fun a W lt b hb V Z=>?_) List.pairwise_lt_range;simp only[dI]at hb Z;obtain⟨_,⟨_,_,rfl⟩,rfl⟩:=hb;obtain⟨_,⟨_,_,rfl⟩,rfl⟩:=Z;exact lt
  ·exact h.stand
 ·exact h.stand
def iv:af->Int
 |.int n _=>n
 |_=>0
section
variable{P:aI}{w:aY}{A:bJ}{E:af->ai->Prop}{s:ai}
def SeT(P:aI)(w:aY)(h:cb)(a:ae)(l:List Int)(b:Bool):Prop:=
 ∃o es ep t,h.get? a=Z8 o/\o.ExactSet/\o.data=.set es ep t/\KM (fi P w) es.toList/\(es.toList.map fun e=>iv e.2).Perm l/\es.size<ko/\t.fits es.size=true/\Tb b t
theorem KN(h:(fi P w).is k v=true):∃t,v=.int k t:=uj (show rC k v=true from h)
theorem Rv(h:KM (fi P w) es)(k:Int):(∃e∈es,(fi P w).is k e.2=true)↔k∈es.map fun e=>iv e.2:=by
 constructor
 ·rintro⟨e,Z,q⟩;obtain⟨t,ev⟩:=KN q;exact cB.mpr {e,Z,by rw[ev];rfl}
 ·intro m;obtain⟨e,Z,q⟩:=cB.mp m;obtain⟨⟨Y,hk,_⟩,_⟩:=h e Z;obtain⟨t,ev⟩:=KN hk;refine{e,Z,?_};rw[ev]at q;rw[<- show Y=k from q];exact hk
theorem SeT.kept(x:SeT P w h a l b)(k:∀o,h.get? a=Z8 o->h'.get? a=Z8 o):SeT P w h' a l b:=
 let ⟨o,es,ep,t,h1,r⟩:=x;{o,es,ep,t,k o h1,r}
theorem KO{g:Bool->Sem Unit}
  (hg:∀(b:Bool) (W:ai) (z:Unit->ai->Prop),z () W->aP (aS P w) A (g b) z E W)
  (h1:s.heap.get? a=Z8 o) (h2:o.ExactSet) (J:o.data=.set es ep t) (I:KM (fi P w) Z.toList) (D:(Z.toList.map fun e=>iv e.2).Perm l) (O:Z.size<ko) (f1:t1.fits Z.size=true) (tb:Tb b t1)
  (h:∀h',gU a s.heap h'->SeT P w h' a l b->R (Z8 true) {s with heap:=h'}) :
  aP (aS P w) A (do
    storeSet a Z t1
    if (!c&&t1.tooFull)=true then do
      g (yq t1 Z (jC Z.size)).2.2
      storeSet a (yq t1 Z (jC Z.size)).1 (yq t1 Z (jC Z.size)).2.1
      pure (Z8 true)
     else pure (Z8 true)) R E s:=by
 have put:∀{hp:cb} {o:Obj} {es:Array (Int×af)} {ep:Nat} {t:gb} (Y:Array (Int×af)) (t':gb),hp.get? a=Z8 o->o.data=.set es ep t->(hp.update a (KP Y t')).get? a=Z8 {o with data:=.set Y (ep+1) t'}:=by
  intro hp o es ep t Y t' q1 q2;have q:=dP (KP Y t') q1 (by rw[putSet_of Y t' q2];rfl);rw[putSet_of Y t' q2]at q;exact q
 refine aa (R3 h1 J ?_ (qm O));have U:=put Z t1 h1 J;have V:=gx s.heap a (KP Z t1)
 split
 ·have p2:=relayAll_perm t1 Z (jC Z.size);have f2:=relayAll_fits t1 Z (jC Z.size);have M:=tb.relay Z (jC Z.size);have z2:(yq t1 Z (jC Z.size)).1.size<ko:=by
   rw[<- bZ,p2.length_eq,bZ];exact O
  refine aa (hg _ _ _ (aa (R3 U rfl ?_ (qm z2))));exact ax (h _ (V.trans (gx _ a _)) {_,_,_,_,put _ _ U rfl,h2,Z9,I.perm p2,(p2.map _).trans D,z2,f2,M})
 ·exact ax (h _ V {_,_,_,_,U,h2,Z9,I,D,O,f1,tb})
theorem Rw(hS:SeT P w s.heap a l b)(room:l.length+1<ko)
  (h:∀r h',gU a s.heap h'->SeT P w h' a (xM l k) b->Q r {s with heap:=h'}):aP (aS P w) A (setAddHashed a (.int k tok) ((fi P w).hash k)) Q E s:=by
 obtain⟨o,es,ep,t,h1,h2,W,O,M,b0,J,tb⟩:=hS;have key:(fi P w).is k (.int k tok)=true:=intKind_is _ _ _ _;have sz:es.size=l.length:=by rw[<- M.length_eq,ah,bZ]
 unfold setAddHashed setAddHashedIn;refine cU (aa (eN h1 W J ?_));dsimp only;rw[byScan_of (knd:=fi P w) rfl b0 O];simp only[↓reduceIte];unfold setAddByScan;refine aa (aa (pB (aa (wpAny_setScan_of key h1 W J O ?_))));have mem:(l.any (·==k))=true↔∃e∈es.toList,(fi P w).is k e.2=true:=by
  rw[Rv O,M.mem_iff,pY];exact{fun⟨x,hx,z⟩=>by rw[<- eq_of_beq z];exact hx,fun z=>{k,z,beq_self_eq_true _}}
 cases hr:List.findIdx? (fun e=>(fi P w).is k e.2) es.toList with
 |some j=>
  dsimp only;obtain⟨hj,hp,_⟩:=List.findIdx?_eq_some_iff_getElem.mp hr;have m:=mem.mpr {es.toList[j],lO hj,hp};refine ax (ax ?_);have q:=h false s.heap (Heap.SameBut.refl a s.heap) (by unfold xM;rw[if_pos m];exact⟨o,es,ep,t,h1,h2,W,O,M,b0,J,tb⟩);exact q
 |none=>
  dsimp only;have m:¬(l.any (·==k))=true:=fun z=>by
   obtain⟨e,he,hp⟩:=mem.mp z;have q:=List.findIdx?_eq_none_iff.mp hr e he;rw[hp]at q
   cases q
  have q:∀h',gU a s.heap h'->SeT P w h' a (l++[k]) b->aP (aS P w) A (pure true) Q E {s with heap:=h'}:=fun h' U z=>ax (h true h' U (by unfold xM;rw[if_neg m];exact z));have hp:=layNew_perm t es ((fi P w).hash k) (.int k tok);have V:=layNew_fits t es ((fi P w).hash k) (.int k tok);have ht:=tb.new es ((fi P w).hash k) (.int k tok);generalize layNew t es ((fi P w).hash k) (.int k tok)=L at hp V ht |-;obtain⟨Y,t1,c,gv⟩:=L;dsimp only at hp V ht |-;rw[HE]at hp;have g:KM (fi P w) Y.toList:=(O.push key rfl).perm hp;have p1:(Y.toList.map fun e=>iv e.2).Perm (l++[k]):=by
   refine (hp.map _).trans ?_;rw[bA];exact M.append_right _
  have b1:Y.size<ko:=by
   rw[<- bZ,hp.length_eq,au,bZ,sz];exact room
  have I:∀(b:Bool) (Z:ai) (D:Unit->ai->Prop),D () Z->aP (aS P w) A (match b with|true=>HX "set.scan.the-table-gave-way" | false=>pure ()) D E Z:=fun b Z D z=>by
   cases b
   ·exact ax z
   ·exact pB z
  refine aa (I _ _ _ ?_)
  split
  ·refine aa ?_;rw[hashByValue_scannable 8 rfl];refine ax ?_;refine KO (l:=l++[k]) (b:=b) I h1 h2 W g p1 b1 ?_ ?_ fun h' U z=>q h' U z
   ·split
    ·exact V
    ·exact SetTable.fits_plain_off V
   ·split
    ·exact ht
    ·exact ht.off
  ·refine aa (ax ?_);simp only[↓reduceIte];exact KO (l:=l++[k]) (b:=b) I h1 h2 W g p1 b1 V ht fun h' U z=>q h' U z
end
section
variable{P:aI}{w:aY}{A:bJ}{E:af->ai->Prop}{s:ai}
theorem NM{St:Nat->ai->Prop}(W:WalksS P w A.in1 I fp wr G n C St)(a:ae)(ha:a∉fp)
  (val:Nat->Int) (U:∀i v,C i v->∃t,v=.int (val i) t) (hb:n+1<ko) :
  ∀(k i:Nat) (s:ai),n-i=k->i<=n->St i s->SeT P w s.heap a (rG val i) b->(∀s',Moved (a::wr) G s s'->SeT P w s'.heap a (rG val n) b->R (.ok (.ret .none)) s') ->
   kS (aS P w) A (.builtin "set.update.loop" {[.ref a,.ref I],[]}) R s:=by
 have V:a∉wr:=fun h=>ha (W.sub _ h);have sub:∀c∈wr,c∈a::wr:=fun c hc=>aj _ hc;intro k
 induction k with
 |zero=>
  intro i s hk hi st hS g;obtain rfl:i=n:=by omega
  refine gj o7 ?_;rw[gu jx _];refine aa (m:=o9 (.ref I)) (W.done s _ _ st fun s' O=>?_);exact ax (g s' (O.mono sub) (hS.kept fun o q=>O.heap a _ V q))
 |succ k ih=>
  intro i s hk hi st hS g;have Z:i<n:=by omega
  refine gj o7 ?_;rw[gu jx _];refine aa (m:=o9 (.ref I)) (W.item i s _ _ Z st fun v s' hC bn O=>?_);obtain⟨t,rfl⟩:=U i v hC;have J:SeT P w s'.heap a (rG val i) b:=hS.kept fun o q=>O.heap a _ V q;have le:=Rx val i;refine aa (m:=qb [Value.int (val i) t] (setAdd a (.int (val i) t))) (cU ?_);unfold setAdd;refine cU (aa ((fi P w).pyHash (k:=val i) (intKind_is _ _ _ _) ?_));refine Rw (s:={s' with toks:=s'.toks+1}) J #[2] fun r h' sb Y=>?_;rw[<- firstMet_succ]at Y;have old:∀c,c≠a->∀o,s'.heap.get? c=Z8 o->h'.get? c=Z8 o:=fun c hc o q=>(sb.2 c hc).trans q;refine ax {kP jx _,ih (i+1) _ #[2] Z (W.frame _ s' _ _ bn (eD _) fun c hc o q=>old c (fun z=>ha (z ▸ hc)) o q) Y fun M m2 D=>?_};exact g M (Moved.trans W.gtrans ((O.mono sub).then_heap (eD _) fun c o hc q=>old c (fun z=>hc (z ▸ aB)) o q) m2) D
theorem Ry(v:af)(h:Q (.ref s.heap.objs.size) {s with heap:=s.heap.push {cls:=.type "set",dict:=Z7,data:=.set #[] 0 (.fresh 0 0 (!w.params.followText "set-order"))}}) :
  kS (aS P w) A (.call (.builtin "set.__new__") {[.type "set",v],[]}) (wants Q E) s:=by
 refine codeAny_of_tree ?_;show aP _ A.in1 (do checkBuiltinCall "set.__new__" {[.type "set",v],[]};again (.builtin "set.__new__" {[.type "set",v],[]})) _ _ s;refine aa (NO (PySem.F.newCall_set_1 v) (ax {kP AY _,gj PySem.F.entry_set_new ?_}));rw[gu AY _];unfold eK.«set.__new__» NP;have Z:=sub_set_self;obtain⟨hp,g,d,tk,Y⟩:=s;dsimp only
 wp_walk
 refine kr (ax ?_);dsimp only;simp only[newObj];refine aa (wpAny_alloc (ax ?_));exact ax h
theorem NQ(hh:A.handled=Z7)(hl:s.heap.IsList l vs.toArray)(hi:dQ vs ns)(hb:vs.length+1<ko)
  (h:∀(h':cb) (tk:Nat),SeT P w h' s.heap.objs.size (rG (fun i=>ns.getD i 0) vs.length) (!w.params.followText "set-order")->(∀c o,s.heap.get? c=Z8 o->h'.get? c=Z8 o)->Q (.ref s.heap.objs.size) {s with heap:=h',toks:=tk}) :
  aP (aS P w) A (vz (.type "set") [.ref l]) Q E s:=by
 obtain⟨c,tl,cl⟩:=gc.mro;have cr:=gc.made;have cn:=gc.sub;refine w5 (codeAny_of_tree ?_);show aP _ _ (callAny (.type "set") _) _ _ _;refine ax {ug _ #[1],gj PySem.F.entry_type_call ?_};rw[Around.under_plain (weight_type_call_type "set" [.ref l] []) rfl];have h1:=gc.notType;have h2:=gc.canCreate;have ck:=PySem.F.typeCall_set_1 (.ref l)
 repeat (any_goals (first|assumption|wp_step))
 let Y:Obj:={cls:=.type "set",dict:=Z7,data:=.set #[] 0 (.fresh 0 0 (!w.params.followText "set-order"))}
 refine jD (Ry (.ref l) (E:=E) (Q:=fun v W=>v=.ref s.heap.objs.size/\W={s with heap:=s.heap.push Y}) ⟨Z9,Z9⟩) fun r W hr=>?_
 cases r with
 |error e=>exact hr
 |ok fl=>
  cases fl with
  |ret obj=>
   obtain⟨rfl,rfl⟩:=hr;have hS:(s.heap.push Y).get? s.heap.objs.size=Z8 Y:=aU _ rfl;have hT:Shared.TypeIs {s with heap:=s.heap.push Y} (.ref s.heap.objs.size) "set":={_,hS,Z9};have cd:=gc.init.lookup;have ci:=gc.init.bind (.ref s.heap.objs.size)
   repeat (any_goals (first|assumption|wp_step))
   refine jD (codeAny_call_builtin (R:=wants (fun r V=>r=.none/\∃h' tk,V={s with heap:=h',toks:=tk} /\
     SeT P w h' s.heap.objs.size (rG (fun i=>ns.getD i 0) vs.length) (!w.params.followText "set-order")/\∀c o,s.heap.get? c=Z8 o->h'.get? c=Z8 o) E) gc.init.plain PySem.F.entry_set_init (check_set_init_1 hT ?_)) fun M V Z=>?_
   ·obtain⟨⟨oc,od,ce,os⟩,g1,g2,n1,g3⟩:=hl;simp only at g2 g3;subst g2 g3;have t:(s.heap.push Y).get? l=Z8 {cls:=.type "list",dict:=od,data:=.seq vs.toArray n1,slots:=os}:=aE _ g1;have f1:=PySem.F.sub_list_set;have f2:=PySem.F.sub_list_frozenset;have f3:(Value.type "list"==Value.type "dict")=false:=by decide
    have J:(s.heap.push Y).IsList l vs.toArray:={_,t,Z9,n1,Z9};unfold eK.«set.__init__» noKeywords NR;generalize hPI:HP=PI
    wp_walk
    subst hPI;refine x8 J (aa (wpAny_runValue ?_));have lt:l<s.heap.objs.size:=aO g1;have n2:l≠(s.heap.push Y).objs.size:=by rw[gB];exact aM (dY lt)
    have n3:s.heap.objs.size∉[(s.heap.push Y).objs.size,l]:=by
     rw[gB];simp only[aq,aV,or_false,not_or];exact{aM (ia _),gW lt}
    refine NM (b:=!w.params.followText "set-order") ((Walks.list (by simp[hh]) _ l n2 vs.toArray).toS) s.heap.objs.size n3 (fun i=>ns.getD i 0) (fun i v q=>IntsAre.int_at hi i v (by simpa using q)) (by simpa using hb) (vs.toArray.size-0) 0 _ #[2] (aW _)
     {{_,aU _ rfl,Z9,Z9},J.push _} {_,_,_,_,aE _ hS,⟨Z9,Z9,Z9⟩,Z9,(fun e he=>by simp at he),.nil,by unfold ko;simp,Z9,Tb.fresh} fun s' I U=>?_
    obtain⟨h',g',d',g,D⟩:=s';have eg:g'=s.gens:=I.gens;have ed:d'=s.drawn:=I.drawn;have eo:D=s.os:=I.os;subst eg ed eo;show aP _ _ _ _ _ _;refine ax ?_;show aP _ _ (ret Value.none) _ _ _;refine ax {Z9,h',g,Z9,by simpa using U,fun c o q=>?_};have z:=aO q;refine I.heap c o ?_ (aE _ (aE _ q));rw[gB];simp only[aq,aV,or_false,not_or];exact{aM z,aM (dY z)}
   ·cases M with
    |error e=>exact Z
    |ok O=>
     cases O with
     |ret r=>
      obtain⟨rfl,h',tk,rfl,U,cp⟩:=Z
      repeat (any_goals (first|assumption|wp_step))
      exact h _ _ U cp
     |_=>exact Z.elim
  |_=>exact hr.elim
end
theorem eW:Slot "set_iterator" "__next__" "set_iterator.__next__":=
 .of (owner:="set_iterator") (n:="__next__") (by rw[Bk,tN];kernel_rfl) #[1] #[1] #[1]
  (by first|exact .inl #[1]|exact .inr #[1]) (by rw[DQ];kernel_rfl)
theorem kK:CT RM "set_iterator.__next__"=Z8 eK.«set_iterator.__next__»:=entryFor_of_fast (by kernel_rfl)
theorem lB(a:af):argsOk "set_iterator.__next__" {[a],[]}:=by unfold argsOk;kernel_rfl
def Sit(h:cb)(I a:ae)(f:af)(i n ep:Nat):Prop:=∃o t1 Z Y,h.get? I=Z8 o/\o.cls=.type "set_iterator"/\o.data=.fields #[f,.int i t1,.ref a,.int n Z,.int ep Y]
section
variable{P:aI}{w:aY}{A:bJ}{E:af->ai->Prop}{s:ai}
theorem Sit.typeIs(x:Sit s.heap I a f i n ep):s.TypeIs (.ref I) "set_iterator":=let ⟨o,_,_,_,h1,h2,_⟩:=x;⟨o,h1,h2⟩
theorem BM(h1:s.heap.get? a=Z8 o)(V:o.data=.set es ep t)(U:t.fits es.size=true)
  (W:w.params.followText "set-order"=false) (Z:t.led=true) (pl:t.plain=true\/es.size<=1)
  (q:Q (match es[cg t.place sl]?,t.place[cg t.place sl]? with|some (_,x),Z8 j=>Z8 (x,j+1)|_,_=>Z7) s):aP (aS P w) A (Cb a sl i Y) Q E s:=by
 unfold Cb DV;refine aa (eN h1 V U ?_);dsimp only;refine aa (aa (kr (ax ?_)));refine gm (fun c=>absurd (show w.params.followText "set-order"=true from c) (by rw[W];exact aT)) (fun _=>?_);refine gm (fun c=>absurd (show (!t.plain&&decide (es.size>1))=true from c) ?_) (fun _=>?_)
 ·rcases pl with z|z
  ·rw[z];exact aT
  ·rw[decide_eq_false #[2],Ou];exact aT
 ·refine aa (m:=(if (!t.led&&!es.isEmpty)=true then unsupported "set:maker-not-led" else pure ())) ?_;rw[if_neg (by rw[Z];exact aT)];exact ax (ax q)
theorem BN(h1:s.heap.get? a=Z8 o)(Y:o.data=.set es ep t)(W:t.fits es.size=true)
  (Z:w.params.followText "set-order"=true) (q:Q (((rH (w.params.setOrder a ep) es)[i]?).map fun e=>(e.2,sl)) s):aP (aS P w) A (Cb a sl i ep) Q E s:=by
 unfold Cb DV;refine aa (eN h1 Y W ?_);dsimp only;refine aa (aa (kr (ax ?_)));refine gm (fun _=>?_) (fun c=>absurd (show w.params.followText "set-order"=true from Z) c);rw[if_neg #[5]];refine aa ?_;unfold setWalk DV;refine aa (eN h1 Y W ?_);dsimp only;refine aa (aa (kr (ax ?_)));refine gm (fun _=>?_) (fun c=>absurd (show w.params.followText "set-order"=true from Z) c);exact aa (kr (ax (ax q)))
theorem BO{sl j i n ep:Nat}(Z:Sit s.heap I a (.int sl J) i n ep)(h1:s.heap.get? a=Z8 o)(V:o.data=.set es ep t)(O:t.fits es.size=true)(M:es.size=n)
  (nx:∀(A:bJ) (E:af->ai->Prop) (Q:Option (af×Nat)->ai->Prop),Q (Z8 (v,j)) s->aP (aS P w) A (Cb a sl i ep) Q E s)
  (q:∀h',Sit h' I a (.int j 0) (i+1) n ep->gU I s.heap h'->Q (Z8 v) {s with heap:=h'}):aP (aS P w) A (o9 (.ref I)) Q E s:=by
 obtain⟨g,t1,z,U,W,D,Y⟩:=id Z;unfold o9;refine aa (wG (jk (name:=gy "__next__") Z.typeIs eW
  (eE eW Z.typeIs kK ?_ (lB _))))
 unfold eK.«set_iterator.__next__»;refine aa (ax ?_);refine aa (uU W Y ?_);dsimp only;refine aa ?_;unfold xO;refine aa (eN h1 V O (ax ?_));dsimp only;rw[if_neg (by rw[M];simp)];simp only[gL];refine aa (nx _ _ _ ?_);dsimp only;refine aa (jo W Y #[5] ?_);have u1:=dP (iS (·.setIfInBounds 0 (gN (j:Int)))) W (iq (dA Y _));refine aa (jo u1 (dA Y _) #[5] ?_);have u2:=dP (iS (·.setIfInBounds 1 (gN ((i:Int)+1)))) u1 (iq (dA (dA Y _) _));refine ax {_,Z9,ax (q _ {_,0,z,U,u2,?_,?_} ((gx ..).trans (gx ..)))}
 ·rw[o6,o6];exact D
 ·rw[dA (dA Y _)];simp[gN]
theorem BP(W:A.handled=Z7)(Y:s.heap.get? I=Z8 Z)(V:Z.data=.fields fs)(hi:2<fs.size)(U:rV I h0 s.heap)
  (q:∀h',rV I h0 h'->Q Z7 {s with heap:=h'}) :
  aP (aS P w) A.in1 (do setField (.ref I) 2 .none;let x <- newExc (.type "StopIteration") [];raiseNew x:Sem Fin) (fun fin s'=>∃v,fin=Fin.done (Flow.ret v)/\aP (aS P w) A (pure (Z8 v)) Q E s')
   (fun e s'=>aP (aS P w) A (do let b <- isInstance e (Value.type "StopIteration");if b=true then pure Z7 else throw e) Q E s') s:=by
 refine aa (jo Y V hi ?_);refine aa ?_;simp only[newExc,newTuple];refine aa (eM ?_ (by size_fits));refine aa (m:=firstArgMember _ _) (NO (a:=Value.none) (by first|rfl|(simp only[firstArgMember];rfl)) ?_);refine eM ?_ (by size_fits);simp only[raiseNew];refine aa (wpAny_handled ?_);rw[show A.in1.handled=Z7 from W];refine aa (ax (wpAny_throw ?_));refine aa (rF (T:="StopIteration") (b:=true) {_,aU _ rfl,Z9} isSubtype_stop ?_);exact ax (q _ (fun b o n e=>((((gx ..).extBut).push _).push _) b o n (U b o n e)))
theorem Fl{sl i n ep:Nat}(U:A.handled=Z7)(Z:Sit s.heap I a (.int sl J) i n ep)(h1:s.heap.get? a=Z8 o)(V:o.data=.set es ep t)(O:t.fits es.size=true)(M:es.size=n)
  (nx:∀(A:bJ) (E:af->ai->Prop) (Q:Option (af×Nat)->ai->Prop),Q Z7 s->aP (aS P w) A (Cb a sl i ep) Q E s)
  (q:∀h',rV I s.heap h'->Q Z7 {s with heap:=h'}):aP (aS P w) A (o9 (.ref I)) Q E s:=by
 obtain⟨z,t1,t2,D,Y,g,W⟩:=id Z;unfold o9;refine aa (wG (jk (name:=gy "__next__") Z.typeIs eW
  (eE eW Z.typeIs kK ?_ (lB _))))
 unfold eK.«set_iterator.__next__»;refine aa (ax ?_);refine aa (uU Y W ?_);dsimp only;refine aa ?_;unfold xO;refine aa (eN h1 V O (ax ?_));dsimp only;rw[if_neg (by rw[M];simp)];simp only[gL];refine aa (nx _ _ _ ?_);dsimp only;exact BP U Y W #[5] (fun b o _ e=>e) q
theorem Ha{j i n ep J:Nat}(Z:Sit s.heap I a (.ref T) i n ep)(h1:s.heap.get? a=Z8 o)(V:o.data=.set es ep t)(U:t.fits es.size=true)(z:es.size=n)
  (k1:s.heap.get? T=Z8 O) (k2:O.data=.seq ds J) (k3:ds[i]?=Z8 (.int j tj)) (M:es[j]?=Z8 (hs,v))
  (q:∀h',Sit h' I a (.ref T) (i+1) n ep->gU I s.heap h'->Q (Z8 v) {s with heap:=h'}):aP (aS P w) A (o9 (.ref I)) Q E s:=by
 obtain⟨ob,t1,t2,D,W,g,Y⟩:=id Z;unfold o9;refine aa (wG (jk (name:=gy "__next__") Z.typeIs eW
  (eE eW Z.typeIs kK ?_ (lB _))))
 unfold eK.«set_iterator.__next__»;refine aa (ax ?_);refine aa (uU W Y ?_);dsimp only;refine aa ?_;unfold xO;refine aa (eN h1 V U (ax ?_));dsimp only;rw[if_neg (by rw[z];simp)];simp only[gL];refine aa (uy k1 k2 ?_);dsimp only;rw[k3];dsimp only;refine aa ?_;unfold setNextDrawn;refine aa (eN h1 V U ?_);dsimp only;rw[if_neg #[5]];simp only[gL];rw[M];dsimp only;refine ax (aa (jo W Y #[5] ?_));have u2:=dP (iS (·.setIfInBounds 1 (gN ((i:Int)+1)))) W (iq (dA Y _));refine ax {_,Z9,ax (q _ {_,0,t2,D,u2,?_,?_} (gx ..))}
 ·rw[o6];exact g
 ·rw[dA Y];simp[gN]
theorem KQ{o V:Obj}(M:A.handled=Z7)(Z:Sit s.heap I a (.ref T) i n ep)(h1:s.heap.get? a=Z8 o)(U:o.data=.set es ep t)(J:t.fits es.size=true)(D:es.size=n)
  (k1:s.heap.get? T=Z8 V) (k2:V.data=.seq ds O) (k3:ds[i]?=Z7)
  (q:∀h',rV I s.heap h'->Q Z7 {s with heap:=h'}):aP (aS P w) A (o9 (.ref I)) Q E s:=by
 obtain⟨g,t1,t2,z,W,g2,Y⟩:=id Z;unfold o9;refine aa (wG (jk (name:=gy "__next__") Z.typeIs eW
  (eE eW Z.typeIs kK ?_ (lB _))))
 unfold eK.«set_iterator.__next__»;refine aa (ax ?_);refine aa (uU W Y ?_);dsimp only;refine aa ?_;unfold xO;refine aa (eN h1 U J (ax ?_));dsimp only;rw[if_neg (by rw[D];simp)];simp only[gL];refine aa (uy k1 k2 ?_);dsimp only;rw[k3];dsimp only;refine aa (jo W Y #[5] ?_);have u1:=dP (iS (·.setIfInBounds 0 (gN 0))) W (iq (dA Y _));exact BP (h0:=s.heap) (s:={s with heap:=s.heap.update I (iS (·.setIfInBounds 0 (gN 0)))}) M u1 (dA Y _) #[5] (gx ..).extBut q
end
theorem xP:CT RM "set.__iter__"=Z8 eK.«frozenset.__iter__»:=
 C2 (id':="frozenset.__iter__") (by kernel_rfl) rfl #[1] (by kernel_rfl)
section
variable{P:aI}{w:aY}{A:bJ}{E:af->ai->Prop}{s:ai}
theorem Av{α:Type}:∀(xs:List α) (i:Nat) (h:i<xs.length),(xs[i]::xs.eraseIdx i).Perm xs
 |x::xs,0,_=>.refl _
 |x::xs,i+1,h=>(List.Perm.swap x (xs[i]'(jr h)) _).trans ((Av xs i (jr h)).cons x)
theorem DX(Y:n≠0)(q:∀i d,i<n->Q i {s with drawn:=d}):aP (aS P w) A (choose Z n) Q E s:=fun Γ p _=>by
 unfold choose;rw[Sem.wp_choose];refine{Y,?_};rw[Sem.wp_pure];exact q _ _ (JM _ (Nat.pos_of_ne_zero Y))
theorem KU{α:Type}{Q:List α->ai->Prop}:∀(n:Nat) (xs:List α) (s:ai),xs.length=n->(∀ys d,ys.Perm xs->Q ys {s with drawn:=d})->aP (aS P w) A (drawOrder n xs) Q E s:=by
 intro n
 induction n generalizing Q with
 |zero=>
  intro xs s Z q
  cases xs with
  |nil=>unfold drawOrder;exact ax (q [] s.drawn .nil)
  |cons x xs=>cases Z
 |succ n Y=>
  intro xs s Z q
  cases xs with
  |nil=>cases Z
  |cons x xs=>
   unfold drawOrder;refine aa (DX #[5] fun i d hi=>?_);rw[aw hi];dsimp only;refine aa (Y _ _ (by rw[zm hi];simpa using Z) fun ys d' p=>?_);refine ax (q _ d' ?_);exact (p.cons _).trans (Av _ i hi)
inductive Wk(w:aY)(h:cb)(I a T:ae)(es:Array (Int×af))(ep:Nat)(t:gb)(i:Nat):List af->Prop
 |text{sl:Nat}{t0:Tok}(nb:w.params.followText "set-order"=true)(it:Sit h I a (.int sl t0) i es.size ep):Wk w h I a T es ep t i ((rH (w.params.setOrder a ep) es).toList.map (·.2))
 |plain{sl:Nat}{t0:Tok}(nb:w.params.followText "set-order"=false)(pl:t.plain=true\/es.size<=1)(it:Sit h I a (.int sl t0) i es.size ep)(b:cg t.place sl=i):Wk w h I a T es ep t i (es.toList.map (·.2))
 |drawn{ds:List Nat}{o:Obj}{n:Nat}(it:Sit h I a (.ref T) i es.size ep)(k1:h.get? T=Z8 o)(k2:o.data=.seq (ds.map fun (j:Nat)=>gN j).toArray n)(p:ds.Perm (gK es.size)):Wk w h I a T es ep t i (ds.map fun j=>((es[j]?).map (·.2)).getD .none)
theorem Fn(tb:Tb b t)(Z:t.fits n=true)(pl:t.plain=true\/n<=1):yo t.place:=by
 rcases pl with z|z
 ·exact tb.2 z
 ·have hs:t.place.size=n:=by
   simp only[KW,gi,beq_iff_eq]at Z;exact Z.1
  show AX _ _
  match h:t.place.toList with
  | []=>exact .nil
  | [x]=>exact eG _ _
  |x::y::r=>
   have q:=congrArg i5 h;rw[bZ,hs]at q;simp at q;omega
theorem NS(r:yo xs):cg xs 0=0:=by
 obtain⟨Y,Z,_⟩:=xK r 0
 cases h:cg xs 0 with
 |zero=>rfl
 |succ k=>
  rw[h]at Y Z;exact absurd (Z 0 (nU _) #[2]) (jz _)
theorem DY(r:yo xs)(h:xs[i]?=Z8 j):cg xs (j+1)=i+1:=by
 obtain⟨V,Z,Y⟩:=xK r (j+1);have hi:i<xs.size:=by
  rcases jq i xs.size with z|z
  ·exact z
  ·rw[kO z]at h;cases h
 have e:xs.getD i 0=j:=by simp[iL,hi];rw[eR hi]at h;exact cF h
 have W:i<cg xs (j+1):=by
  rcases jq i (cg xs (j+1)) with z|z
  ·exact z
  ·have:=Y i z hi;omega
 rcases jq (i+1) (cg xs (j+1)) with z|z
 ·have U:=Z (i+1) z #[2];have O:=r.lt (i:=i) (k:=i+1) #[2] #[2] 0 0;omega
 ·omega
theorem NT(h1:s.heap.get? a=Z8 o)(h2:o.ExactSet)(Y:o.data=.set es ep t)(Z:t.fits es.size=true)(hb:es.size<ko)(tb:Tb b t)
  (q:∀I T h' d vs,Wk w h' I a T es ep t 0 vs->(∀b W,s.heap.get? b=Z8 W->h'.get? b=Z8 W)->I∉[a,T]->s.heap.objs.size<=I->(T=a\/s.heap.objs.size<=T)->Q (.ref I) {s with heap:=h',drawn:=d}):aP (aS P w) A (HP (.ref a)) Q E s:=by
 have U:s.TypeIs (.ref a) "set":=⟨o,h1,h2.1⟩;refine lT U AZ (eE AZ U xP ?_ (PySem.F.args_set_iter_1 _));unfold eK.«frozenset.__iter__»;refine aa (m:=NU "__iter__" {[.ref a],[]}) (NO (a:=a) rfl ?_);refine aa (m:=sS a) ?_;unfold sS xO;refine aa (aa (eN h1 Y Z (ax (ax ?_))));dsimp only;refine aa ?_;unfold setDrawn DV;refine aa (eN h1 Y Z ?_);dsimp only;refine aa (aa (kr (ax (ax ?_))));have sl:es.size<=aD:=qm hb;have lt:=aO h1;refine gm (fun c=>?_) (fun c=>?_)
 ·refine aa (KU _ _ _ o4 fun ds d p=>?_);have O:(ds.map fun (j:Nat)=>gN j).length<=aD:=by rw[ah,p.length_eq,o4];exact sl
  refine aa (C5 ?_ O);refine aa (R4 (aE _ h1) Y Z ?_);refine aa (eM ?_ (by size_fits));refine ax {_,Z9,"set_iterator",_,{_,aU _ rfl,Z9},eW.lookup,?_};refine q _ s.heap.objs.size _ d _ (.drawn (ds:=ds) {_,0,0,0,aU _ rfl,Z9,Z9} (aE _ (aU _ rfl)) rfl p) (fun b W e=>aE _ (aE _ e)) ?_ ?_ (.inr (ay _))
  ·rw[gB];simp only[aq,aV,or_false,not_or];exact{gW (dY lt),gW (ia _)}
  ·rw[gB];exact eD _
 ·refine aa (ax ?_);refine aa (R4 h1 Y Z ?_);refine aa (eM ?_ (by size_fits));refine ax {_,Z9,"set_iterator",_,{_,aU _ rfl,Z9},eW.lookup,?_};have go:∀vs,Wk w (s.heap.push {cls:=.type "set_iterator",data:=.fields [gN 0,gN 0,.ref a,gN es.size,gN ep].toArray}) s.heap.objs.size a a es ep t 0 vs->_:=fun vs k=>q s.heap.objs.size a _ s.drawn vs k (fun b W e=>aE _ e) (by
   simp only[aq,aV,or_false,not_or];exact{gW lt,gW lt}) (ay _) (.inl rfl)
  have it:Sit (s.heap.push {cls:=.type "set_iterator",data:=.fields [gN 0,gN 0,.ref a,gN es.size,gN ep].toArray}) s.heap.objs.size a (.int ((0:Nat):Int) 0) 0 es.size ep:={_,0,0,0,aU _ rfl,Z9,Z9}
  cases nb:w.params.followText "set-order" with
  |true=>exact go _ (.text nb it)
  |false=>
   have pl:t.plain=true\/es.size<=1:=by
    have V:¬((!w.params.followText "set-order"&&(!t.plain&&decide (es.size>1)))=true):=c;rw[nb]at V
    cases hp:t.plain with
    |true=>exact .inl rfl
    |false=>
     rw[hp]at V;refine .inr ?_;simp at V;omega
   exact go _ (.plain nb pl it (NS (Fn tb Z pl)))
end
theorem NV{α:Type}(nx:Nat->Nat):∀(f k:Nat) (l:List α) (out:Array α),l.length=f->(yt nx f k l out).toList.Perm (out.toList++l):=by
 intro f
 induction f with
 |zero=>
  intro k l out h
  cases l with
  |nil=>unfold yt;rw[cO]
  |cons _ _=>cases h
 |succ f Z=>
  intro k l out h;unfold yt;have hi:nx k%l.length<l.length:=JM _ #[2];rw[aw hi];dsimp only;refine (Z _ _ _ (by rw[zm hi];omega)).trans ?_;rw[HE,jM];exact (Av l _ hi).append_left _
theorem Hc{α:Type}(nx:Nat->Nat)(xs:Array α):(rH nx xs).toList.Perm xs.toList:=by
 have q:=NV nx xs.size 0 xs.toList #[] #[5];simpa[rH] using q
theorem rW:Slot "set_iterator" "__iter__" "set_iterator.__iter__":=
 .of (owner:="set_iterator") (n:="__iter__") (by rw[Bk,tN];kernel_rfl) #[1] #[1] #[1]
  (by first|exact .inl #[1]|exact .inr #[1]) (by rw[DQ];kernel_rfl)
theorem xQ:CT RM "set_iterator.__iter__"=Z8 eK.«dict_keyiterator.__iter__»:=
 C2 (id':="dict_keyiterator.__iter__") (by kernel_rfl) rfl #[1] (by kernel_rfl)
theorem yu(a:af):argsOk "set_iterator.__iter__" {[a],[]}:=by unfold argsOk;kernel_rfl
section
variable{P:aI}{w:aY}{A:bJ}{E:af->ai->Prop}{s:ai}{h:cb}{I a T:ae}{es:Array (Int×af)}{ep i:Nat}{t:gb}{vs:List af}{b:Bool}
theorem Wk.perm(k:Wk w h I a T es ep t i vs):vs.Perm (es.toList.map (·.2)):=by
 cases k with
 |text Y it=>exact (Hc _ es).map _
 |plain Y pl it b=>exact .refl _
 |@drawn ds _ _ it k1 k2 p=>
  refine (p.map _).trans ?_;have e:((gK es.size).map fun j=>((es[j]?).map (·.2)).getD .none)=es.toList.map (·.2):=by
   apply wH
   ·simp
   ·intro j W Z;simp at Z;simp[Z]
  rw[e]
theorem Wk.kept(k:Wk w h I a T es ep t i vs)(q:∀c∈[I,a,T],∀o,h.get? c=Z8 o->h'.get? c=Z8 o):Wk w h' I a T es ep t i vs:=by
 have Y:∀{f:af} {n:Nat},Sit h I a f i n ep->Sit h' I a f i n ep:=fun {f n} ⟨o,t1,O,W,V,U⟩=>{o,t1,O,W,q I #[5] o V,U}
 cases k with
 |text Z it=>exact .text Z (Y it)
 |plain Z pl it b=>exact .plain Z pl (Y it) b
 |drawn it k1 k2 p=>exact .drawn (Y it) (q T #[5] _ k1) k2 p
theorem Wk.sit(k:Wk w h I a T es ep t i vs):∃f,Sit h I a f i es.size ep:=by
 cases k with
 |text _ it=>exact{_,it}
 |plain _ _ it _=>exact{_,it}
 |drawn it _ _ _=>exact{_,it}
theorem KY(hh:A.handled=Z7)(U:o.data=.set es ep t)(Z:t.fits es.size=true)(tb:Tb (!w.params.followText "set-order") t)(nI:I∉[a,T]) :
  Walks P w A I [I,a,T] [I] es.size (fun i v=>vs[i]?=Z8 v) (fun i h=>h.get? a=Z8 o/\Wk w h I a T es ep t i vs) where
 sub:=fun b hb=>by simp at hb;simp[hb]
 frame:=fun _ _ _ st hk=>{hk a #[5] o st.1,st.2.kept hk}
 item:=fun i s Q E hi st O=>by
  obtain⟨h1,k⟩:=st;have na:a≠I:=fun z=>nI (by simp[z]);have nT:T≠I:=fun z=>nI (by simp[z]);have keep:∀{h':cb},gU I s.heap h'->∀b o,b∉[I]->s.heap.get? b=Z8 o->h'.get? b=Z8 o:=fun Y b o hb e=>(Y.2 b (fun z=>hb (by simp[z]))).trans e;have g:i<vs.length:=by rw[k.perm.length_eq];simpa using hi
  cases k with
  |@text sl t0 W it=>
   have hp:i<(rH (w.params.setOrder a ep) es).size:=by simpa using g
   refine BO (v:=(rH (w.params.setOrder a ep) es)[i].2) (j:=sl) it h1 U Z rfl (fun A E Q q=>BN h1 U Z W (by rw[eR hp];exact q)) fun h' V Y=>?_;exact O _ h' s.toks (by simp[hp]) {keep Y a _ (by simp[na]) h1,.text W V} (keep Y)
  |@plain sl t0 W pl it b=>
   have hr:=Fn tb Z pl;have hs:t.place.size=es.size:=by
    simp only[KW,gi,beq_iff_eq]at Z;exact Z.1
   have M:t.place[i]?=Z8 t.place[i]:=eR #[2];refine BO (v:=es[i].2) (j:=t.place[i]+1) it h1 U Z rfl (fun A E Q q=>BM h1 U Z W (by rw[tb.1,W];rfl) pl (by rw[b,eR hi,M];exact q)) fun h' V Y=>?_;exact O _ h' s.toks (by simp[hi]) {keep Y a _ (by simp[na]) h1,.plain W pl V (DY hr M)} (keep Y)
  |@drawn ds oT nt it k1 k2 p=>
   have D:i<ds.length:=by simpa using g
   have M:ds[i]<es.size:=iX.mp (p.mem_iff.mp (lO D));refine Ha (j:=ds[i]) (tj:=0) (v:=es[ds[i]].2) (hs:=es[ds[i]].1) it h1 U Z rfl k1 k2 (by simp[D,gN]) (by rw[eR M]) fun h' V Y=>?_;exact O _ h' s.toks (by simp[D,M]) {keep Y a _ (by simp[na]) h1,.drawn V (keep Y T _ (by simp[nT]) k1) k2 p} (keep Y)
 done:=fun s Q E st O=>by
  obtain⟨h1,k⟩:=st;have keep:∀{h':cb},rV I s.heap h'->∀b o,b∉[I]->s.heap.get? b=Z8 o->h'.get? b=Z8 o:=fun Y b o hb e=>Y b o (fun z=>hb (by simp[z])) e;have g:=k.perm.length_eq
  cases k with
  |@text sl t0 W it=>
   have hp:(rH (w.params.setOrder a ep) es).size<=es.size:=by simp at g;omega
   exact Fl hh it h1 U Z rfl (fun A E Q q=>BN h1 U Z W (by rw[kO hp];exact q)) fun h' J=>O h' s.toks (keep J)
  |@plain sl t0 W pl it b=>
   exact Fl hh it h1 U Z rfl (fun A E Q q=>BM h1 U Z W (by rw[tb.1,W];rfl) pl (by rw[b,kO (ay _)];exact q)) fun h' J=>O h' s.toks (keep J)
  |@drawn ds oT nt it k1 k2 p=>
   have D:ds.length=es.size:=by rw[p.length_eq,o4]
   exact KQ hh it h1 U Z rfl k1 k2 (by simp[D]) fun h' J=>O h' s.toks (keep J)
 self:=fun _ s _ _ st O=>by
  obtain⟨f,it⟩:=st.2.sit;refine lT it.typeIs rW (eE rW it.typeIs xQ ?_ (yu _));show aP _ _ (ret (.ref I)) _ _ s;exact ax {_,Z9,"set_iterator",_,it.typeIs,eW.lookup,O}
end
end L2
namespace L2
open PySem PySem.Calls PySem.W PySem.Spec PyProof.Rows PyProof.V
section
variable{P:aI}{w:aY}{A:bJ}{E:af->ai->Prop}{s:ai}
theorem NW(Y:s.TypeIs (.ref a) "set")(h:Q false s):aP (aS P w) A (ua (.ref a)) Q E s:=by
 unfold ua;refine aa (Ba Y PySem.F.slot_set_len.lookup ?_);generalize hid:("set.__len__":String)=id0
 wp_delta
 rw[show splitId id0=Z8 ("set","__len__") from by subst hid;decide +kernel];subst hid;refine aa (rF (T:="set") (b:=true) Y (by rw[DQ];kernel_rfl) ?_);refine gm (fun Z=>absurd Z (by decide)) (fun _=>?_);refine gm (fun _=>?_) (fun Z=>absurd #[1] Z);refine aa (sF Y ?_);exact ax h
theorem NX:∀{vs:List af} {es:List (Int×af)},KM (fi P w) es->vs.Perm (es.map (·.2))->dQ vs (vs.map iv):=by
 intro vs es Y p;have all:∀v∈vs,∃k t,v=Value.int k t:=fun v hv=>by
  obtain⟨e,W,rfl⟩:=cB.mp (p.mem_iff.mp hv);obtain⟨⟨k,hk,_⟩,_⟩:=Y e W;obtain⟨t,ev⟩:=KN hk;exact⟨k,t,ev⟩
 clear p
 induction vs with
 |nil=>exact .nil
 |cons v vs Z=>
  obtain⟨k,t,rfl⟩:=all v aB;exact .cons k t (Z fun u hu=>all u (aj _ hu))
theorem Hd(hh:A.handled=Z7)(hS:SeT P w s.heap a l (!w.params.followText "set-order"))(J:S≠a)(g:s.heap.get? S=Z8 {cls:=.type "list",data:=.seq #[] U})
  (q:∀h' tk d Z c ms,(∀b o,b≠S->s.heap.get? b=Z8 o->h'.get? b=Z8 o)->h'.get? S=Z8 {cls:=.type "list",dict:=Z7,data:=.seq Z c,slots:=#[]}->dQ Z.toList ms->ms.Perm l->R (.ok (.ret res)) {s with heap:=h',toks:=tk,drawn:=d}) :
  aP (aS P w) A.in1 (lC (.ref S) (.ref a) res)
   (fun fin s'=>match fin with|.done f=>R (.ok f) s' | .again c'=>c'.quiet=true/\kS (aS P w) A c' R s') (fun e s'=>R (.error e) s') s:=by
 obtain⟨o,es,ep,t,h1,h2,h3,e0,p0,b0,f0,tb⟩:=hS;have sl:es.size<=aD:=qm b0;have hT:s.TypeIs (.ref a) "set":=⟨o,h1,h2.1⟩;unfold lC;refine aa (sF (T:="set") hT ?_);have n1:vx (.ref S) (.ref a)=false:=by simp[vx,J]
 simp only[n1,show (Value.type "set"==Value.type "list")=false by decide,show (Value.type "set"==Value.type "tuple")=false by decide,Qa,jf,if_false];refine aa (NT h1 h2 h3 f0 b0 tb fun I T h' d vs k kp nI le bF=>?_);have lt:=aO g;have W:=KY (P:=P) (A:=A.in1) (vs:=vs) (o:=o) (by simpa using hh) h3 f0 tb nI;refine aa (cU (NW {o,kp _ _ h1,h2.1} ?_));have nf:S∉[I,a,T]:=by
  simp only[aq,aV,or_false,not_or];refine{aM (bf lt le),J,?_}
  rcases bF with z|z
  ·rw[z];exact J
  ·exact aM (bf lt z)
 have key:∀(hx:cb) (Y:Nat),(hx.get? a=Z8 o/\Wk w hx I a T es ep t 0 vs)->(∀b o,b≠S->s.heap.get? b=Z8 o->hx.get? b=Z8 o)->hx.get? S=Z8 {cls:=.type "list",data:=.seq #[] Y} ->
   kS (aS P w) A (.builtin "list.extend.loop" {[.ref S,.ref I,res],[]}) R {s with heap:=hx,drawn:=d}:=by
  intro hx Y st old gS;refine codeAny_extend_loopS W.toS sl S nf res es.size 0 _ #[] Y rfl (aW _) st gS (ItemsOf.nil _) fun s' Z c hm D O=>?_;rw[Moved.eq_with hm];have ev:Z.toList=vs:=by
   apply wH
   ·rw[bZ,O.1,k.perm.length_eq,ah,bZ]
   ·intro j g1 M;have z:vs[j]?=Z8 (Z.toList[j]):=O.2 j (Z.toList[j]) (by rw[<- jy];exact aw g1);rw[aw M]at z;exact (cF z).symm
  refine q s'.heap s'.toks d Z c (vs.map iv) (fun b V hb e=>?_) D (by rw[ev];exact NX e0 k.perm) ?_
  ·refine hm.heap b V (fun z=>?_) (old b V hb e)
   rcases aq.mp z with z|z
   ·exact hb z
   ·have lb:=aO e;rw[aK.mp z]at lb;exact absurd (bf lb le) (hU _)
  ·refine (k.perm.map iv).trans ?_;rw[dC];exact p0
 have g':=kp _ _ g;refine gm (fun _=>?_) (fun _=>ax {kP xZ _,key h' U {kp _ _ h1,k} (fun b o _ e=>kp b o e) g'});refine aa (pB (aa ?_));show aP _ _ (updateSeq S (·.push .none) >>= fun _=>updateSeq S (·.pop)) _ _ _;refine aa (wpAny_updateSeq g' rfl ?_);have M:=dP (cN (·.push Value.none)) g' rfl;refine wpAny_updateSeq (hz:=by seq_fits) M rfl ?_;have g3:=dP (cN (·.pop)) M rfl;have old:∀b V,b≠S->h'.get? b=Z8 V->((h'.update S (cN (·.push Value.none))).update S (cN (·.pop))).get? b=Z8 V:=fun b V hb e=>
  (d9 _ _ (fb hb)).trans ((d9 _ _ (fb hb)).trans e)
 refine ax {kP xZ _,key _ _ {old a _ (fb J) (kp _ _ h1),k.kept fun b hb V e=>old b V (fun z=>nf (z ▸ hb)) e} (fun b V hb e=>old b V hb (kp b V e)) g3}
theorem DZ(O:A.handled=Z7)(V:SeT P w s.heap a l (!w.params.followText "set-order"))
  (q:∀h' tk d vs ms,(∀b o,s.heap.get? b=Z8 o->h'.get? b=Z8 o)->dQ vs ms->ms.Perm l->R vs {s with heap:=h',toks:=tk,drawn:=d}):aP (aS P w) A (collect (.ref a)) R E s:=by
 have J:a<s.heap.objs.size:=let ⟨_,_,_,_,h1,_⟩:=V;aO h1;unfold collect;refine aa (wpAny_runValue (gj entry_proto_collect' ?_));rw[gu PySem.F.plain_proto_collect _];show aP _ A.in1 (newList [] >>= fun l=>again (.builtin "list.__iadd__" {[l,.ref a],[]})) _ _ s;refine aa (eM ?_);refine ax {kP zo _,gj entry_list_iadd' ?_};rw[gu zo _];have g:(s.heap.push {cls:=.type "list",data:=.seq ([]:List af).toArray}).get? s.heap.objs.size=Z8 {cls:=.type "list",data:=.seq #[]}:=aU _ rfl;show aP _ A.in1 (lC (.ref s.heap.objs.size) (.ref a) (.ref s.heap.objs.size)) _ _ _;have key:=Hd (P:=P) (w:=w) (A:=A) (s:={s with heap:=s.heap.push {cls:=.type "list",data:=.seq ([]:List af).toArray}}) (a:=a) (S:=s.heap.objs.size) (l:=l) (res:=.ref s.heap.objs.size)
  (R:=fun r s'=>∃h' tk d Z c ms,r=.ok (.ret (.ref s.heap.objs.size))/\s'={s with heap:=h',toks:=tk,drawn:=d}/\(∀b o,s.heap.get? b=Z8 o->h'.get? b=Z8 o) /\
   h'.get? s.heap.objs.size=Z8 {cls:=.type "list",dict:=Z7,data:=.seq Z c,slots:=#[]}/\dQ Z.toList ms/\ms.Perm l)
  O (V.kept fun o e=>aE _ e) (gW J) g
  (fun h' tk d Z c ms old Y hi hp=>{h',tk,d,Z,c,ms,Z9,Z9,fun b o e=>old b o (aM (aO e)) (aE _ e),Y,hi,hp})
 refine eQ key (fun fin s' x=>?_) fun e s' x=>?_
 ·cases fin with
  |done f=>
   obtain⟨h',tk,d,Z,c,ms,e,rfl,old,Y,hi,hp⟩:=x
   cases e;show aP _ A (load s.heap.objs.size >>= _) _ _ _;refine aa (PZ Y ?_);exact ax (q h' tk d _ ms old hi hp)
  |again U=>
   refine{x.1,jD x.2 fun r W y=>?_};obtain⟨h',tk,d,Z,c,ms,rfl,rfl,old,Y,hi,hp⟩:=y;show aP _ A (load s.heap.objs.size >>= _) _ _ _;refine aa (PZ Y ?_);exact ax (q h' tk d _ ms old hi hp)
 ·obtain⟨_,_,_,_,_,_,M,_⟩:=x
  cases M
theorem He(I:A.handled=Z7)(t:SeT P w s.heap a l (!w.params.followText "set-order"))(V:l.length<64)
  (h:∀(h1 h2:cb) (tk:Nat) (d:Drawn) (W:List af) (Z:List Int) (e:Nat),(∀b o,s.heap.get? b=Z8 o->h1.get? b=Z8 o)->(∀b o,h1.get? b=Z8 o->h2.get? b=Z8 o)->h2.get? h1.objs.size=Z8 {cls:=.type "list",data:=.seq W.toArray e}->dQ W Z->Z.Perm l->Z.Pairwise (·<=·)->Q (.ref h1.objs.size) {s with heap:=h2,toks:=tk,drawn:=d}) :
  aP (aS P w) A (vz (.builtin "sorted") [.ref a]) Q E s:=by
 refine zk AS yj yk (args_sorted1 _) ?_;unfold eK.«sorted»;refine aa (m:=C7 "sorted" 1 1 _) (ax ?_);have sl:64<=aD:=by decide
 refine aa (DZ (A:=A.in1) I t fun h' tk d vs ms old hi hp=>?_);have O:vs.length=l.length:=by rw[KZ hi,hp.length_eq]
 refine aa (nv ?_ (by rw[O];omega));have Y:(h'.push (dH "list" vs.toArray 0)).get? h'.objs.size=Z8 (dH "list" vs.toArray 0):=aU _ rfl;refine aa (cU (eE uD {_,Y,Z9} sX (list_sort_tree (s:={s with heap:=h'.push (dH "list" vs.toArray 0),toks:=tk,drawn:=d}) Y hi (by rw[O];exact V) fun out Z z M J=>{_,Z9,?_}) (args_list_sort _)));obtain⟨e,D⟩:=sortedHeap_at (out:=out) Y;refine ax {_,Z9,h h' _ tk d out.toList Z e old (fun b o U=>?_) D z (M.trans hp) J};have lt:=aO U;rw[sortedHeap_old (aM lt) (by rw[gB];exact dY lt)];exact aE _ U
end
end L2
namespace L2
open PySem PySem.Spec PyProof.Rows
def K0(X:Cx)(a:ae)(l:List Int):HO:=.ext fun h=>SeT X.prog X.w h a l (!X.w.params.followText "set-order")
theorem Fo:∀{ns:List Int} {us:List af},cW (ns.map V.int) us->dQ us ns
 | [],_,r=>by rw[kU]at r;cases r;exact .nil
 |n::ns,_,r=>by
  rw[bK]at r
  cases r with
  |@cons _ u _ _ h t=>
   obtain⟨t',rfl⟩:∃t',u=.int n t':=h;exact .cons n t' (Fo t)
theorem BQ{k:Int}(h:l.Nodup):(xM l k).Nodup:=by
 unfold xM
 split
 ·exact h
 ·rename_i c
  refine gI.mpr {h,eG _ _,fun x hx y hy e=>c ?_};rw[aK]at hy;rw[e,hy]at hx;exact pY.mpr {k,hx,beq_self_eq_true _}
theorem zp(val:Nat->Int):∀i,(rG val i).Nodup
 |0=>iY
 |i+1=>by rw[firstMet_succ];exact BQ (zp val i)
theorem NY(ns:List Int)(k:Int):k∈rG (fun i=>ns.getD i 0) ns.length↔k∈ns:=by
 have e:(gK ns.length).map (fun i=>ns.getD i 0)=ns:=by
  apply wH
  ·simp
  ·intro j Y Z;simp[Z]
 have q:=firstMet_any (fun i=>ns.getD i 0) ns.length k;rw[e]at q;have m:∀l:List Int,k∈l↔l.any (·==k)=true:=fun l=>by
  rw[pY];exact{fun h=>{k,h,beq_self_eq_true _},fun⟨x,hx,z⟩=>by rw[<- eq_of_beq z];exact hx}
 rw[m,m,q]
section
variable{X:Cx}{pins:List (ae×Obj)}{σ:St}{H:Hp}{s:ai}{h':cb}
theorem Inv.keptD(I:Inv X pins σ H s)(k:∀b u,s.heap.get? b=Z8 u->h'.get? b=Z8 u):Inv X pins σ H {s with heap:=h',toks:=t',drawn:=d'}:=
 I.step (g':=s.gens) (d':=d') (ch:=[]) (fun _ z=>nomatch z) (fun b o _ _ _ e _=>k b o e) (fun b o _ _ _ e _=>{o.slots,k b o e}) (fun _ _ _ _ n=>n) (fun b o _ e=>{o,k b o e}) (fun _ _ e=>e) (fun _ _ _ e=>e) (fun b ps e=>{#[],by rw[e];simp})
  (fun m ⟨o,es,ep,Z,r⟩=>{o,es,ep,k _ o Z,r}) (I.hok.kept k) I.bare
theorem Hf(hc:X.calm=true):lE X (.type "set") (fun xs H Q=>∃(p:ae) (ns:List Int),xs=[V.ref p]/\H p=Z8 (.lst (ns.map V.int))/\ns.length+1<ko /\
  ∀(a:ae) (l:List Int),H a=Z7->l.Nodup->(∀k,k∈l↔k∈ns)->l.length<=ns.length->Q (.ref a) (upd H a (K0 X a l))):=by
 intro pins s σ H xs us Q I r h;obtain⟨p,ns,rfl,hp,hb,q⟩:=h;obtain⟨u,rfl,O⟩:=vals1 r
 cases O;obtain⟨_,Z,n,W,e⟩:=(show dZ X.prog X.w H s.heap p (.lst (ns.map V.int)) from I.hok p _ hp);have hi:=Fo W;have U:Z.length=ns.length:=KZ hi;refine NQ (I.ok.hd hc) (l:=p) (vs:=Z) {_,e,Z9,n,Z9} hi #[2] fun h' tk Y kp=>?_;rw[U]at Y;have z:=I.laid (a:=s.heap.objs.size) (o:=K0 X s.heap.objs.size (rG (fun i=>ns.getD i 0) ns.length)) (t':=tk) (h':=h') kp (ay _) {Y,(let ⟨o,_,_,_,h1,_⟩:=Y;⟨o,h1⟩),fun h1 h2 x k=>SeT.kept x k};exact{.ref s.heap.objs.size,_,z,Z9,q _ _ (I.hok.fresh (ay _)) (zp _ _) (NY ns) (Rx _ _)}
theorem xR(hc:X.calm=true):lE X (.builtin "sorted") (fun xs H Q=>∃(p:ae) (l:List Int),xs=[V.ref p]/\H p=Z8 (K0 X p l)/\l.length<64 /\
  ∀(b:ae) (Y:List Int),H b=Z7->Y.Perm l->Y.Pairwise (·<=·)->Q (.ref b) (upd H b (.lst (Y.map V.int)))):=by
 intro pins s σ H xs us Q I r h;obtain⟨p,l,rfl,hp,W,q⟩:=h;obtain⟨u,rfl,ru⟩:=vals1 r
 cases ru;have sl:64<=aD:=by decide
 obtain⟨hS,_,_⟩:=(show dZ X.prog X.w H s.heap p (K0 X p l) from I.hok p _ hp);refine He (I.ok.hd hc) hS W fun h1 h2 tk d U Z e M O g b1 J t=>?_;have D:Inv X pins σ H {s with heap:=h1,toks:=tk,drawn:=d}:=I.keptD (t':=tk) M;have z:=D.laid (a:=h1.objs.size) (o:=.lst (Z.map V.int)) (t':=tk) (h':=h2) O (ay _) {by rw[ah,J.length_eq];omega,U,e,Fk b1,g};exact{.ref h1.objs.size,_,z,Z9,q _ Z (D.hok.fresh (ay _)) J t}
end
def Itk(d:ae)(od:Obj)(kvs:List (Key×V)):It:=
 {fun i H=>H d=Z8 (.frz od (.dK kvs))/\i<kvs.length,fun i H x H'=>H'=H/\∃Z,kvs[i]?=Z8 Z/\x=kV Z.1,fun i H=>H d=Z8 (.frz od (.dK kvs))/\kvs.length<=i}
section
variable{P:aI}{w:aY}{K:ag}
theorem Hg(d it:ae)(od:Obj)(kvs:List (Key×V)):A4 P w K tg (Itk d od kvs) [it] it (fun i h=>h.IsKeyIter it d i kvs.length (IT od)) where
 mem:=by simp
 obj:=fun i h st b hb=>by
  have e:b=it:=by simpa using hb
  subst e;obtain⟨o,e,c,d⟩:=st;exact{o,e,fun v z=>by rw[d]at z;cases z}
 keep:=fun i h h' st k=>st.at fun o e=>k it #[5] o e
 item:=by
  intro X O hw J hc i pins s σ H E I W st hg;subst O hw J;obtain⟨g,hi⟩:=hg;obtain⟨vs,r,M⟩:=uB I g;have U:=r.length;have Z:kvs[i]?=Z8 kvs[i]:=aw hi;obtain⟨u,hu,ru⟩:=r.at_ Z;obtain⟨f0,f1,f2,D,f4,t⟩:=W it #[5];rw[U]at st;refine wpAny_pyNext_dict_item st M hu fun key h' hk Y sb=>?_;have I1:Inv X pins σ H {s with heap:=h'}:=I.turned (t':=s.toks) (fun b o hb e=>(sb.2 b hb).trans e) f0 f1 D f4 t;obtain⟨o,e,c,dd⟩:=id Y;exact{key,Z9,A5 (s:={s with heap:=h'}) e c dd (by decide) {kV kvs[i].1,H,I1,C1 hk,{Z9,_,Z,Z9},by rw[U];exact Y,fun b hb=>(W b hb).1}}
 done:=by
  intro X O hw J hc i pins s σ H E I W st hg;subst O hw J;obtain⟨g,hi⟩:=hg;obtain⟨vs,r,M⟩:=uB I g;have U:=r.length;obtain⟨f0,f1,f2,D,f4,t⟩:=W it #[5];rw[U]at st;exact wpAny_pyNext_dict_end (I.ok.hd hc) st M (dB #[2]) fun h' eb=>{Z9,I.turned (t':=s.toks) (fun b o hb e=>eb b o hb e) f0 f1 D f4 t}
 self:=fun _ _ _ _ _ st h=>wpAny_pyIter_keyiter st h
end
section
variable{X:Cx}{o:cK}{to:TE}{tg:cK}
def Pl(X:Cx)(to:TE):TI:=fun σ H R=>to σ H fun x H1=>∃d kvs,x=.ref d/\H1 d=Z8 (.dK kvs)/\(∀Z u,X.H₀ d≠Z8 (.frz Z u))/\∀od,R (Itk d od kvs) (upd H1 d (.frz od (.dK kvs)))
theorem NZ(J:PE X o to):PI X tg o (Pl X to):=by
 intro pins s σ H R I h;refine thn (J pins s σ H _ I h) fun v Y ⟨x,H1,W,D,d,kvs,ex,V,O,q⟩=>?_;subst ex
 cases D;obtain⟨hz,U,t,k1,m1⟩:=(show dZ X.prog X.w H1 Y.heap d (.dK kvs) from W.hok d _ V);obtain⟨od,g,Z⟩:=W.freeze V O;obtain⟨vs,r,M⟩:=uB Z (ak:upd H1 d (.frz od (.dK kvs)) d=_);refine wpAny_pyIter_dict U M ?_;refine{Y.heap.objs.size,[Y.heap.objs.size],_,_,_,Z9,Z.kept (t':=Y.toks) fun b z q=>aE _ q,Hg d _ od kvs,?_,fun b hb=>?_,q od}
 ·rw[r.length];exact{_,aU _ rfl,Z9,Z9}
 ·have e:b=_:=aK.mp hb;subst e;exact Z.fpOk (ay _) (Z.hok.fresh (ay _))
end
theorem boot_set:eV "set"=Z8 (.type "set"):=by decide +kernel
section
variable{X:Cx}
theorem Hh:∀(kvs:List (Key×V)) (Z:List (Key×af)),KV kvs Z->∀vs:List af,vs.length=Z.length->(∀(j:Nat) (v:af),vs[j]?=Z8 v->∃k x,Z[j]?=Z8 (k,x)/\(cP P w).is k v=true)->cW (kvs.map fun x=>kV x.1) vs:=by
 intro kvs
 induction kvs with
 |nil=>
  intro Z k vs Y _
  cases k
  cases vs with
  |nil=>exact .nil
  |cons _ _=>cases Y
 |cons W r I=>
  intro Z k vs Y hv
  cases k with
  |@cons _ D _ wr z M=>
   cases vs with
   |nil=>cases Y
   |cons v t=>
    obtain⟨U,O,a,b⟩:=hv 0 v rfl;have a:D=(U,O):=cF a;refine .cons ?_ (I wr M t (zl Y) fun j g J=>hv (j+1) g J);have e:W.1=U:=by rw[z.1,a]
    show RelV (kV W.1) v;rw[e];exact C1 b
theorem D0(hc:X.calm=true):lE X (.type "list") (fun xs H Q=>∃p kvs,xs=[V.ref p]/\H p=Z8 (.dK kvs)/\∀l:ae,H l=Z7->Q (.ref l) (upd H l (.lst (kvs.map fun x=>kV x.1)))):=by
 intro pins s σ H xs us Q I r h;obtain⟨p,kvs,rfl,hp,q⟩:=h;obtain⟨u,rfl,ru⟩:=vals1 r
 cases ru;obtain⟨hz,M,O,k1,g⟩:=(show dZ X.prog X.w H s.heap p (.dK kvs) from I.hok p _ hp);obtain⟨ep,U⟩:=g.dictAt;have hl:=k1.length;refine PySem.W.kdl_call (GX (knd:=cP X.prog X.w) (kvs:=O) (ep:=ep) M) (I.ok.hd hc) U #[2] fun h' tk Y t kp D Z=>?_;have J:cW (kvs.map fun x=>kV x.1) Y.toList:=Hh (P:=X.prog) (w:=X.w) kvs O k1 Y.toList (by rw[bZ];exact Z.1) fun j v e=>Z.2 j v (by rw[<- jy];exact e);have z:=I.laid (a:=s.heap.objs.size) (o:=.lst (kvs.map fun x=>kV x.1)) (t':=tk) (h':=h') kp (ay _) {by rw[ah];exact hz,Y.toList,t,J,by rw[Array.toArray_toList];exact D};exact{.ref s.heap.objs.size,_,z,Z9,q _ (I.hok.fresh (ay _))}
def Pn(X:Cx)(t:TE):TE:=fun σ H Q=>t σ H fun v H'=>∃d od kvs,H' d=Z8 (.frz od (.dK kvs))/\(∀Z u,X.H₀ d≠Z8 (.frz Z u))/\Q v (upd H' d (.dK kvs))
theorem N0(h:PE X e t):PE X e (Pn X t):=fun pins s σ H Q I q=>
 thn (h pins s σ H _ I q) fun _ _ ⟨x,_,Z,W,_,_,_,e,Y,q⟩=>{x,_,Z.thaw e Y,W,q}
end
theorem Hi{g:TG}{tc:TT}{te:TE}{σ:St}{Q:VK}(Y:Nat->List V->Hp->Prop)(h0:Y 0 [] H)(t:∀i ys H,i<=kvs.length->Y i ys H->H d=Z8 (.frz od (.dK kvs))/\ys.length<aD)
  (hs:∀i M ys G,kvs[i]?=Z8 M->Y i ys G->g (kV M.1) (cy n Z7++σ) G fun Z H2=>Z.drop n=σ/\tc Z H2 fun b O=>if b=true then te Z O fun y J=>Y (i+1) (ys++[y]) J else Y (i+1) ys O)
  (z:∀ys G,Y kvs.length ys G->∀p,G p=Z7->Q (.ref p) (upd G p (.lst ys))) :
  ∃W:Nat->Nat->List V->Hp->Prop,(∃m,W 0 m [] H)/\∀i m ys H,W i m ys H->ys.length<aD /\
   (((Itk d od kvs).stop i H/\∀p,H p=Z7->Q (.ref p) (upd H p (.lst ys))) \/
    ((Itk d od kvs).go i H/\∃N:List V->Hp->Prop,(∀U H',N U H'->∃I,I<m/\W (i+1) I U H')/\∀x H',(Itk d od kvs).yld i H x H'->g x (cy n Z7++σ) H' fun Z H2=>Z.drop n=σ/\tc Z H2 fun b O=>
     if b=true then te Z O fun y J=>N (ys++[y]) J else N ys O)):=by
 refine{fun i m ys H=>m=kvs.length-i/\i<=kvs.length/\Y i ys H,{kvs.length,by simp,aW _,h0},?_};rintro i m ys H ⟨rfl,hi,p⟩;have q:=t i ys H hi p;refine{q.2,?_}
 by_cases lt:i<kvs.length
 ·refine .inr {⟨q.1,lt⟩,Y (i+1),fun U H' D=>{kvs.length-(i+1),by omega,Z9,lt,D},fun x H' y=>?_};obtain⟨rfl,M,hk,rfl⟩:=y;exact hs i M ys H' hk p
 ·have e:i=kvs.length:=by omega
  subst e;exact .inl {{q.1,ay _},z ys H p}
theorem Ea(hi:∀R:VK,R (.ref d) H->to σ H R)(I:H d=Z8 (.dK kvs))(M:∀W u,X.H₀ d≠Z8 (.frz W u))(Z:Obj->Nat->List V->Hp->Prop)(h0:∀od,Z od 0 [] (upd H d (.frz od (.dK kvs))))
  (D:∀od i ys G,i<=kvs.length->Z od i ys G->G d=Z8 (.frz od (.dK kvs))/\ys.length<aD)
  (hs:∀od i O ys G,kvs[i]?=Z8 O->Z od i ys G->g (kV O.1) (cy n Z7++σ) G fun Y H2=>Y.drop n=σ/\tc Y H2 fun b U=>if b=true then te Y U fun y J=>Z od (i+1) (ys++[y]) J else Z od (i+1) ys U)
  (hq:∀od ys G,Z od kvs.length ys G->∀p,G p=Z7->∃d od kvs,upd G p (.lst ys) d=Z8 (.frz od (.dK kvs))/\(∀W u,X.H₀ d≠Z8 (.frz W u))/\Q (.ref p) (upd (upd G p (.lst ys)) d (.dK kvs))):Pn X (vh n (Pl X to) g tc te) σ H Q:=
 hi _ {d,kvs,Z9,I,M,fun od=>Hi (Q:=fun v H'=>∃d od kvs,H' d=Z8 (.frz od (.dK kvs))/\(∀W u,X.H₀ d≠Z8 (.frz W u))/\Q v (upd H' d (.dK kvs))) (Z od) (h0 od) (D od) (hs od) (hq od)}
end L2
namespace My
open PySem L2
def insI(x:Int):List Int->List Int
 | []=>[x]
 |y::ys=>if x<y then x::y::ys else if x=y then y::ys else y::insI x ys
def Aw(ns:List Int):List Int:=ns.foldr insI []
theorem Ax:∀{ys:List Int},k∈insI x ys↔(k=x\/k∈ys)
 | []=>by simp[insI]
 |y::ys=>by
  unfold insI
  split
  ·simp
  ·split
   ·rename_i e
    subst e;simp
   ·rw[aq,Ax,aq]
    constructor
    ·rintro (h|h|h)
     ·exact .inr (.inl h)
     ·exact .inl h
     ·exact .inr (.inr h)
    ·rintro (h|h|h)
     ·exact .inr (.inl h)
     ·exact .inl h
     ·exact .inr (.inr h)
theorem K1:∀{ys:List Int},ys.Pairwise (·<·)->(insI x ys).Pairwise (·<·)
 | [],_=>eG _ _
 |y::ys,h=>by
  obtain⟨h1,h2⟩:=dv.mp h;unfold insI
  split
  ·rename_i c
   exact dv.mpr {fun z hz=>(aq.mp hz).elim (fun e=>e ▸ c) fun m=>Int.lt_trans c (h1 z m),h}
  ·split
   ·exact h
   ·rename_i c1 c2
    exact dv.mpr {fun z hz=>(Ax.mp hz).elim (fun e=>by omega) (h1 z),K1 h2}
theorem Ay:∀{ns:List Int},k∈Aw ns↔k∈ns
 | []=>Iff.rfl
 |n::ns=>by
  show k∈insI n (Aw ns)↔_;rw[Ax,Ay,aq]
theorem K2:∀(ns:List Int),(Aw ns).Pairwise (·<·)
 | []=>List.Pairwise.nil
 |n::ns=>K1 (K2 ns)
theorem Fp:∀{xs ys:List Int},xs.Pairwise (·<·)->ys.Pairwise (·<·)->(∀k,k∈xs↔k∈ys)->xs=ys
 | [],[],_,_,_=>rfl
 | [],y::ys,_,_,m=>nomatch (m y).mpr aB
 |x::xs,[],_,_,m=>nomatch (m x).mp aB
 |x::xs,y::ys,h,g,m=>by
  obtain⟨h1,h2⟩:=dv.mp h;obtain⟨Z,Y⟩:=dv.mp g;have e:x=y:=by
   rcases aq.mp ((m x).mp aB) with z|z
   ·exact z
   ·rcases aq.mp ((m y).mpr aB) with q|q
    ·exact q.symm
    ·have:=Z x z;have:=h1 y q;omega
  subst e;rw[Fp h2 Y fun k=>{fun a=>?_,fun a=>?_}]
  ·rcases aq.mp ((m k).mp (aj _ a)) with z|z
   ·subst z;exact absurd (h1 k a) (R5 _)
   ·exact z
  ·rcases aq.mp ((m k).mpr (aj _ a)) with z|z
   ·subst z;exact absurd (Z k a) (R5 _)
   ·exact z
theorem K3(Y:Z.Nodup)(up:Z.Pairwise (·<=·))(m:∀k,k∈Z↔k∈ns):Z=Aw ns:=
 Fp (List.Pairwise.imp (fun h=>by have:=h.1;have:=h.2;omega) (List.pairwise_and_iff.mpr ⟨up,Y⟩)) (K2 _) fun k=>(m k).trans Ay.symm
theorem N1{xs:List Int}:∀{ys:List Int},xs.Nodup->(∀x∈xs,x∈ys)->xs.length<=ys.length:=by
 induction xs with
 |nil=>intro ys _ _;exact aW _
 |cons x xs V=>
  intro ys Z s;obtain⟨Y,W⟩:=cH.mp Z;have hx:x∈ys:=s x aB;have:=V (ys:=ys.erase x) W fun z hz=>(EN (fun e=>Y (by rw[<- e];exact hz))).mpr (s z (aj _ hz));rw[AU hx]at this;have:=B9 hx;rw[aX];omega
theorem rB{xs:List Int}{n:Nat}(Z:xs.Nodup)(h:∀x∈xs,0<=x/\x<n):xs.length<=n:=by
 have:=N1 (ys:=(gK n).map fun i:Nat=>(i:Int)) Z fun x hx=>cB.mpr {x.toNat,iX.mpr (by have:=h x hx;omega),by have:=h x hx;omega};rw[ah,o4]at this;exact this
def trN(at_:Int)(x:Str):TrK:=.inl [.inr "name",.inl at_,.inr x]
def cnT(at_:Int)(dr Z:Nat)(se Y:Int):List TrK:=(if dr<Z then [.inl [.inr "draws",.inl at_]] else [])++(if se<Y then [.inl [.inr "signs",.inl at_]] else [])
def nmW(w:Wk):List Str:=w.qn++w.rk.flatMap nmF
def foT(at_:Int)(h:Ev)(w:Wk):List TrK:=[.inr h.key]++(nmW w).map (trN at_)
def leT(at_:Int)(w:Wk):List TrK:=w.out.map (fun e=>.inr e.key)++w.wr.map (trN at_)
def plI:V->Int
 |.int n=>n
 |_=>0
def Az(lt:List (TrK×V))(Z:List TrK):List Int:=Z.filterMap fun t=>(iR lt t).map plI
def yv(lt:List (TrK×V))(Z:List TrK)(v:V):List (TrK×V):=Z.foldl (fun l t=>iV l t v) lt
structure LS where
 sts:List Sta
 lt:List (TrK×V)
 fd:List (List Int)
def Wk.sta(w:Wk):Sta:=⟨w.bx,w.qu,w.dr,w.se⟩
def lnW(L:LS)(h:Ev)(s:Sta)(w:Wk):LS:={L.sts.set h.to.toNat w.sta,yv L.lt (leT h.to w++cnT h.to s.dr w.dr s.se w.se) (.int L.fd.length),L.fd++[Aw (Az L.lt (foT h.to h w++cnT h.to s.dr w.dr s.se w.se))]}
def AA(Ms:List MD)(L:LS)(h:Ev):LS:=match Ms[h.to.toNat]?,L.sts[h.to.toNat]? with
 |some M,Z8 s=>(match doS h M.ds (j5 M.hs h.sg) s.w with
  |.ok w=>lnW L h s w
  |.error _=>L)
 |_,_=>L
def lnP(Ms:List MD)(rs:List Rec):LS:=rs.foldl (fun L r=>AA Ms L r.h) {Ms.map st0,[],[]}
theorem uc(Ms:List MD)(rs:List Rec)(r:Rec):lnP Ms (rs++[r])=AA Ms (lnP Ms rs) r.h:=by
 unfold lnP;rw[jL];rfl
structure Eb(Ms:List MD)(sts:List Sta)(h:Ev)(M:MD)(s:Sta)(w:Wk):Prop where
 hM:Ms[h.to.toNat]?=Z8 M
 hs:sts[h.to.toNat]?=Z8 s
 q:doS h M.ds (j5 M.hs h.sg) s.w=.ok w
 ev:Al Ms.length h
theorem Eb.step(k:Eb Ms L.sts h M s w):AA Ms L h=lnW L h s w:=by
 unfold AA;rw[k.hM,k.hs];dsimp only;rw[k.q]
def rJ(Ms:List MD)(rs:List Rec):Prop:=∀(i:Nat) (r:Rec),rs[i]?=Z8 r->∃M s w,Eb Ms (lnP Ms (rs.take i)).sts r.h M s w
theorem rJ.take(h:rJ Ms rs)(k:Nat):rJ Ms (rs.take k):=fun i r Z=>by
 have lt:=(aC.mp Z).1;rw[bD]at lt;rw[iN #[2]]at Z;rw[oq,yw #[2]];exact h i r Z
theorem rJ.snoc(h:rJ Ms rs)(k:Eb Ms (lnP Ms rs).sts r.h M s w):rJ Ms (rs++[r]):=fun i x hx=>by
 rcases jq i rs.length with lt|ge
 ·rw[d8 lt]at hx;rw[List.take_append_of_le_length #[2]];exact h i x hx
 ·have lt:=(aC.mp hx).1;rw[au]at lt;have e:i=rs.length:=by simp at lt;omega
  subst e;rw[dh (ay _),vH]at hx
  cases hx;rw[List.take_left];exact⟨M,s,w,k⟩
theorem rJ.fd(h:rJ Ms rs):∀k,k<=rs.length->(lnP Ms (rs.take k)).fd.length=k
 |0,_=>rfl
 |k+1,l=>by
  have Z:=aw (show k<rs.length by omega);obtain⟨M,s,w,z⟩:=h k _ Z;rw[cm,Z];show (lnP Ms (rs.take k++[_])).fd.length=_;rw[uc,z.step];show (_++[_]).length=_;rw[au,h.fd k #[2]];rfl
theorem BR(Y:DH Ms):∀(j:Nat),(∀i,i<j->ROk Ms.length (itR Ms r i).1/\(itR Ms r i).1.pd≠[]/\(itR Ms r i).1.sp=Z7)->r.sts=Ms.map st0->rJ Ms (itR Ms r j).2/\(lnP Ms (itR Ms r j).2).sts=(itR Ms r j).1.sts
 |0,_,e=>{fun i x hx=>(by cases hx),e.symm}
 |j+1,h,e=>by
  obtain⟨h1,h2⟩:=BR Y j (fun i hi=>h i #[2]) e;obtain⟨Z,pd,_⟩:=h j #[2];show rJ Ms ((itR Ms r j).2++(iK Ms (itR Ms r j).1).2)/\(lnP Ms ((itR Ms r j).2++(iK Ms (itR Ms r j).1).2)).sts=(iK Ms (itR Ms r j).1).1.sts
  cases wC Y Z pd with
  |err x M s W d q eq=>
   rw[eq,cO];exact⟨h1,h2⟩
  |ok x M s w d q N eq=>
   rw[eq];have k:Eb Ms (lnP Ms (itR Ms r j).2).sts x M s w:={d.hM,by rw[h2];exact d.hs,q,Z.ev x (by rw[d.pd];exact bL _ (aK.mpr rfl))};refine{h1.snoc (r:={x,_,_,_}) k,?_};rw[uc,k.step];show (lnP Ms (itR Ms r j).2).sts.set _ _=_;rw[h2];rfl
theorem BU(W:DH Ms)(h:E5 Ms (vI Ms es) Z i e):rJ Ms (itR Ms (vI Ms es) i).2:=
 (BR W i (fun j Y=>{(h.1 j Y).1,(oZ (h.1 j Y).2).2.1,(oZ (h.1 j Y).2).1}) rfl).1
theorem lL(xs:List Fm)(f:Fm):((xs++[f]).flatMap nmF).length=(xs.flatMap nmF).length+(nmF f).length:=by
 rw[ng,au];simp
mutual
theorem N2{m:Int}{h:Ev}{ds:List Int}:∀(D:Dd) (w Z:Wk),D.toOk m->doD h ds D w=.ok Z->(Z.rk.flatMap nmF).length<=(w.rk.flatMap nmF).length+12*D.size
 |.put x f,w,Z,to,e=>by
  simp only[doD]at e;simp only[Dd.toOk]at to;obtain⟨n,e⟩:=kJ e
  cases e;show ((w.rk++[f]).flatMap nmF).length<=_+12*1;rw[lL];omega
 |.push q f,w,Z,to,e=>by
  simp only[doD]at e;simp only[Dd.toOk]at to;obtain⟨n,e⟩:=kJ e;try dsimp only at e
  split at e
  ·cases e
  ·cases e;show ((w.rk++[f]).flatMap nmF).length<=_+12*1;rw[lL];omega
 |.pull q x o,w,Z,to,e=>by
  simp only[doD]at e;simp only[Dd.toOk]at to;simp only[Dd.size]
  split at e
  ·have:=ue o _ _ to e;dsimp only at this;omega
  ·cases e;dsimp only;omega
 |.draw x f,w,Z,to,e=>by
  simp only[doD]at e;simp only[Dd.toOk]at to;obtain⟨n,e⟩:=kJ e;try dsimp only at e
  split at e
  ·cases e
  ·split at e
   ·cases e
   ·cases e;show ((w.rk++[f]).flatMap nmF).length<=_+12*1;rw[lL];omega
 |.send to V sp rk a b,w,Z,Y,e=>by
  simp only[doD]at e;simp only[Dd.toOk]at Y;obtain⟨n,e⟩:=kJ e;try dsimp only at e
  split at e
  ·cases e
  ·rename_i c
   obtain⟨x,e⟩:=kJ e;obtain⟨y,e⟩:=kJ e;try dsimp only at e
   split at e
   ·cases e
   ·cases e;show ((w.rk++[sp]++[a]++[b]).flatMap nmF).length<=_+12*1;rw[lL,lL,lL];omega
 |.ife f t W,w,Z,to,e=>by
  simp only[doD]at e;simp only[Dd.toOk]at to;obtain⟨n,e⟩:=kJ e;try dsimp only at e
  simp only[Dd.size]
  split at e
  ·have:=ue W _ _ to.1.2 e;dsimp only at this;rw[lL]at this;omega
  ·have:=ue t _ _ to.1.1 e;dsimp only at this;rw[lL]at this;omega
 |.fin,w,Z,_,e=>by
  simp only[doD]at e
  cases e;dsimp only;omega
theorem ue{m:Int}{h:Ev}{ds:List Int}:∀(D:Ds) (w Z:Wk),D.toOk m->doS h ds D w=.ok Z->(Z.rk.flatMap nmF).length<=(w.rk.flatMap nmF).length+12*D.size
 |.nil,w,Z,_,e=>by
  simp only[doS]at e
  cases e;omega
 |.cons d r,w,Z,to,e=>by
  simp only[doS]at e;simp only[Ds.toOk]at to;simp only[Ds.size]
  split at e
  ·rename_i w1 e1
   have a:=N2 d _ _ to.1 e1;have b:=ue r _ _ to.2 e;omega
  ·cases e
end
theorem Eb.few(V:DH Ms)(k:Eb Ms Y h M s w):(w.rk.flatMap nmF).length<=1440/\w.out.length<=120:=by
 have W:=wB (P:=fun D=>D.toOk (Ms.length:Int)/\D.deep<=4/\D.size<=3*ddz 3) (V M (bC k.hM)) {by simp only[Ds.toOk],by simp only[Ds.deep];omega,by simp only[Ds.size];omega} h.sg;have O:3*ddz 3=120:=by decide
 have a:=ue _ _ _ W.1 k.q;obtain⟨new,Z,J,_⟩:=(m8 _ _ _ W.1 k.q).ex;have U:(s.w.rk.flatMap nmF).length=0:=rfl;have Z:w.out=new:=Z;rw[Z];omega
section
variable{P:aI}{w:aY}{K:ag}{mg:Str->Option af}{base:cb}{f:ae}{fd:bY}{bs qs:List Str}
seal PS PSs PE PA PT PW PI PG PGs PC
abbrev nNi:List Str:=["formula"]
abbrev pNi:List Str:=["formula"]
theorem scNi:bM nNi pNi (aR mV):=e7
inductive Po(bs qs:List Str)(n:Nat)(vs:List V)(H:Hp)(Q:VK)(_e:XK):Prop where
 |mk(v:V)(F:Fm)(_:vs=[v])(_:kf bs qs H v F)(_:F.depth<=n)(_:∀(l:ae) (G:Hp),bj H G->H l=Z7->G l=Z8 (.lst ((nmF F).map V.str))->Q (.ref l) G):Po bs qs n vs H Q _e
def N3(bs qs:List Str)(n:Nat):Sp:=fun vs H Q Z=>Po bs qs n vs H Q Z
theorem N4(hn:n<15)(D:Df K mg "names_in" mV pNi f fd)(B:Bl mg)(I:bN P w K mg base CX0 n f fd pNi (N3 bs qs n)):bN P w K mg base CX0 (n+1) f fd pNi (N3 bs qs (n+1)):=by
 refine D.F.ok scNi #[3] (fun bw A outer s H vs Q E J h=>?_)
 ·obtain⟨v,F,rfl,_⟩:=h;rfl
 obtain⟨v,F,rfl,hF,dF,k⟩:=h;refine⟨_,ar (cR ((HJ (bO ff (bR cv (pv 0) aA) bX) (Cd (bO ff (bR cv (pv 0) aA) bX))).pt) (aF (bQ (eO (m9 (bR cv (pv 0) aA) ao)))) b9)
  (ar (cR (bO ff (cS (e9 K #[7]) #[7] B.len cA (bE (pv 0) ao)) aA) (aF (bQ (cM sJ (pcl I J D (m9 (bR cv (pv 0) aA) ao)) (pcl I J D (m9 (bR cv (pv 0) aA) ao))))) b9)
  (aF (bQ (eO ao)))),?_⟩
 dsimp only[cxA,cxB];have nx:∀{a b:Str} {U p2:Prop},¬a=b->p2->(if decide (V.str a=V.str b)=true then U else p2):=fun z q=>mj (uJ z) (gz q);have M:∀{a:Str} {U p2:Prop},U->(if decide (V.str a=V.str a)=true then U else p2):=fun q=>mj (Di _) (iU q);have one:∀(x:Str) (l:ae),nmF F=[x]->H l=Z7->Q (.ref l) (upd H l (.lst [.str x])):=fun x l e Y=>k l _ (aG Y _) Y (by rw[e];exact ak)
 cases hF with
 |@box t x ht _=>
  have Z:=SqT.of (K:=K) ht;refine cJ (gs {_,Z9,t,_,_,_,Z9,Z9,Z,Z9,Z9,_,Z9,M (iU ?_)});exact eZ {_,Z9,t,_,_,_,Z9,Z9,Z,Z9,yl,fun l Y=>one x l rfl Y}
 |@long t x ht _=>
  have Z:=SqT.of (K:=K) ht;refine cJ (gs {_,Z9,t,_,_,_,Z9,Z9,Z,Z9,Z9,_,Z9,nx #[1] ?_});refine{_,Z9,t,_,_,_,Z9,Z9,Z,Z9,Z9,_,Z9,M ?_};exact eZ {_,Z9,t,_,_,_,Z9,Z9,Z,Z9,yl,fun l Y=>one x l rfl Y}
 |@two t kk u v f g ht h7 h1 h2=>
  have Z:=SqT.of (K:=K) ht;have n7:=Jo kk h7;refine cJ (gs {_,Z9,t,_,_,_,Z9,Z9,Z,Z9,Z9,_,Z9,nx n7.2.1 ?_});refine{_,Z9,t,_,_,_,Z9,Z9,Z,Z9,Z9,_,Z9,nx n7.2.2.1 ?_};have dF:max f.depth g.depth+1<=n+1:=dF;have n1:=xw f 14 #[2];have n2:=xw g 14 #[2];have sl:100000<=aD:=by decide
  have bv:2^14=16384:=by decide
  dsimp only[lV];refine cJ (gs {_,Z9,t,_,Z9,.inr Z,Z9,_,Z9,iU ?_});refine eZ {_,Z9,t,_,_,_,Z9,Z9,Z,Z9,u,f,Z9,h1,by omega,fun l1 G1 O _ e1=>?_};refine{_,Z9,t,_,_,_,Z9,Z9,SqT.of (O _ _ ht),Z9,v,g,Z9,h2.same O,by omega,fun l2 G2 s2 _ e2=>?_};refine{l1,l2,_,_,Z9,Z9,s2 _ _ e1,e2,by rw[ah,ah];omega,fun l Y=>?_};have W:=O.trans s2;exact k l _ (W.trans (aG Y _)) (none_of W Y) (by rw[ak];show _=Z8 (HO.lst ((nmF f++nmF g).map V.str));rw[bA])
 |@num t n ht _=>
  have Z:=SqT.of (K:=K) ht;refine cJ (gs {_,Z9,t,_,_,_,Z9,Z9,Z,Z9,Z9,_,Z9,nx #[1] ?_});refine{_,Z9,t,_,_,_,Z9,Z9,Z,Z9,Z9,_,Z9,nx #[1] ?_};dsimp only[lV];refine cJ (gs {_,Z9,t,_,Z9,.inr Z,Z9,_,Z9,gz ?_});dsimp only[lV];exact eZ {aW _,fun l Y=>k l _ (aG Y _) Y ak}
 |@got t j ht=>
  have Z:=SqT.of (K:=K) ht;refine cJ (gs {_,Z9,t,_,_,_,Z9,Z9,Z,Z9,Z9,_,Z9,nx #[1] ?_});refine{_,Z9,t,_,_,_,Z9,Z9,Z,Z9,Z9,_,Z9,nx #[1] ?_};dsimp only[lV];refine cJ (gs {_,Z9,t,_,Z9,.inr Z,Z9,_,Z9,gz ?_});dsimp only[lV];exact eZ {aW _,fun l Y=>k l _ (aG Y _) Y ak}
 |@now t ht=>
  have Z:=SqT.of (K:=K) ht;refine cJ (gs {_,Z9,t,_,_,_,Z9,Z9,Z,Z9,Z9,_,Z9,nx #[1] ?_});refine{_,Z9,t,_,_,_,Z9,Z9,Z,Z9,Z9,_,Z9,nx #[1] ?_};dsimp only[lV];refine cJ (gs {_,Z9,t,_,Z9,.inr Z,Z9,_,Z9,gz ?_});dsimp only[lV];exact eZ {aW _,fun l Y=>k l _ (aG Y _) Y ak}
theorem zq(F:Fm):1<=F.depth:=by cases F<;>simp[Fm.depth]
theorem Pp(D:Df K mg "names_in" mV pNi f fd)(B:Bl mg):∀n:Nat,n<=15->bN P w K mg base CX0 n f fd pNi (N3 bs qs n)
 |0,_=>⟨fun vs H Q E h=>by
   obtain⟨v,F,_,_,h,_⟩:=h;have:=zq F;omega,fun A outer s H args us vs Q E _ _ _ _ h=>by
   obtain⟨v,F,_,_,h,_⟩:=h;have:=zq F;omega⟩
 |n+1,Z=>N4 #[2] D B (Pp D B n #[2])
end
def TrV(H:Hp)(v:V)(k:TrK):Prop:=∃a,v=.ref a/\TrH H k a
theorem TrV.same(s:bj H G)(h:TrV H v k):TrV G v k:=by
 obtain⟨a,e,t⟩:=h;exact{a,e,t.keeps fun b ys z=>s _ _ z}
theorem Fq(h:H t=Z8 (.tup [.str "name",.int at_,.str x])):TrV H (.ref t) (trN at_ x):=⟨t,Z9,h,by
 intro z;have z:(Sum.inr ("name":Str):Key)=Sum.inr ("sign":Str):=cF z;exact absurd (iu z) #[1]⟩
theorem Fs{e:Ev}(h:H t=Z8 (.tup [.str "sign",.ref k]))(hk:H k=Z8 (.tup [.int e.t,.int e.r,.int e.fr,.int e.c])):TrV H (.ref t) (.inr e.key):=⟨t,Z9,k,h,hk⟩
theorem K4(xs:List Str):((wrK xs).map fun x=>kV x.1)=xs.map V.str:=by
 unfold wrK;rw[dC];rfl
theorem Rz{i:Nat}(h:(wrK xs)[i]?=Z8 Z):∃x,xs[i]?=Z8 x/\Z=(Sum.inr x,.bl true):=by
 unfold wrK at h;rw[bT]at h;obtain⟨x,h1,rfl⟩:=dI.mp h;exact⟨x,h1,Z9⟩
theorem BV(xs:List Fm)(i:Nat):((xs.take i).flatMap nmF).length<=(xs.flatMap nmF).length:=by
 have e:xs.flatMap nmF=(xs.take i).flatMap nmF++(xs.drop i).flatMap nmF:=by rw[<- ng,ij]
 rw[e,au];omega
theorem jU{α Z:Type}{R:α->Z->Prop}{xs:List α}{ys:List Z}(p:aN R xs ys):∀{i:Nat} {x:α},xs[i]?=Z8 x->∃y,ys[i]?=Z8 y/\R x y:=by
 induction p with
 |nil=>intro i x h;cases i<;>cases h
 |cons a _ Y=>
  intro i x h
  cases i with
  |zero=>cases h;exact{_,Z9,a}
  |succ i=>exact Y h
theorem nj{α W:Type}{R:α->W->Prop}{xs Y:List α}{ys Z:List W}(a:aN R xs ys)(b:aN R Y Z):aN R (xs++Y) (ys++Z):=by
 induction a with
 |nil=>exact b
 |cons x _ V=>exact .cons x V
section
variable{P:aI}{w:aY}{K:ag}{mg:Str->Option af}{base:cb}{f fN CD CS:ae}{fd fdN:bY}{bs qs:List Str}
seal PS PSs PE PA PT PW PI PG PGs PC
abbrev nTf:List Str:=["at","doing","names","formula"]
abbrev pTf:List Str:=["at","doing"]
theorem RA:bM nTf pTf (aR iz):=e7
theorem ndTf:((["name"]:List Str)++nTf).Nodup:=by decide +kernel
inductive Pq(CD CS:ae)(bs qs:List Str)(vs:List V)(H:Hp)(Q:VK)(_e:XK):Prop where
 |mk(H0:Hp)(L:Lay)(h:Ev)(ds:List Int)(w:Wk)(at_:Int)(_:vs=[.int at_,.ref L.d])(_:Dg CD CS bs qs H0 H L h ds w)(_:(w.rk.flatMap nmF).length<=2000)(_:∀(l:ae) (G:Hp) (vs:List V),bj H G->G l=Z8 (.lst vs)->aN (TrV G) vs (foT at_ h w)->Q (.ref l) G):Pq CD CS bs qs vs H Q _e
def spTf(CD CS:ae)(bs qs:List Str):Sp:=fun vs H Q Z=>Pq CD CS bs qs vs H Q Z
theorem Pr(D:Df K mg "traces_followed" iz pTf f fd)(DN:Df K mg "names_in" mV pNi fN fdN)(T:DT K mg CD)(B:Bl mg):bN P w K mg base CX0 16 f fd pTf (spTf CD CS bs qs):=by
 have GN:bN P w K mg base CX0 15 fN fdN pNi (N3 bs qs 15):=Pp DN B 15 (by decide);refine D.F.ok RA #[3] (fun ce A outer s H vs Q E hr h=>?_)
 ·obtain⟨H0,L,h,ds,w,at_,rfl,_⟩:=h;rfl
 obtain⟨H0,L,h,ds,w,at_,rfl,g,few,k⟩:=h;have cs:dJ 15 _:=hr;refine⟨_,ar (pst 2 RA (iQ (D0 rfl) #[7] B.list boot_list (av (iC K #[7] (pv 1) #[7]) ao)))
  (ar (iE cw rfl (hV (iC K #[7] (pv 1) #[7])) (pgn 3 RA) (aF (eU (mO bV PySem.F.slot_list_extend PySem.F.type_list_extend FR (pv 2) (jA (pcl GN cs DN (bE (pv 3) ao)) ao)))))
  (aF (bQ (cM sJ (eO (sQ (dX (dR bX (m9 (bR cv (iC K #[7] (pv 1) #[7]) aA) ao))) ao)) (kZ ["name"] (iG.open (NN:=nTf) (N:=nTf) (sc:=aR iz) rfl rfl #[1] rfl #[1] #[1] rfl #[1]) rfl (hV (pv 2)) (fun _ _ _ _=>iM (i:=0) ndTf rfl (Or.inl rfl)) (fun _ _ _ _=>jP) (fun _ _ _ _=>dX (dR bX (bE (pv 1) (bE (pv 0) ao))))))))),?_⟩
 dsimp only[cxA,cxB];have big:=eJ;have sl:100000<=aD:=by decide
 have fq:=g.ok.few2;refine cJ (cV {_,Z9,L.d,CD,L.dx,_,_,Z9,g.hd,T.cl,T.nQ,dF_u _ _ _ _ _ _ _ _,L.ud,_,Z9,g.hu,fun l hl=>bU ?_});rw[K4];dsimp only;obtain⟨rs,I,M⟩:=g.hr;have s0:=aG hl (.lst (w.qn.map V.str));have hd:=g.hd;refine cJ {_,Z9,L.d,CD,L.dx,_,_,Z9,s0 _ _ g.hd,T.cl,T.nR,dF_r _ _ _ _ _ _ _ _,L.rd,Z9,{_,SqL.of (s0 _ _ I)},?_};have nl:∀{G:Hp} {o:HO},bj H G->bj H (upd G l o):=fun Y=>qQ Y hl _;refine kx (K:=K) (a:=L.rd) (xs:=rs) (fun i σ G=>∃(u:Option V),σ=[Z8 (.int at_),Z8 (.ref L.d),Z8 (.ref l),u]/\G l=Z8 (.lst ((w.qn++(w.rk.take i).flatMap nmF).map V.str))/\bj H G)
  {_,Z9,by rw[jW,List.flatMap_nil,cO];exact ak,s0} ?_ ?_ ?_
 ·rintro i σ G _ ⟨u,rfl,_,Y⟩;exact SqL.of (Y _ _ I)
 ·rintro i v σ G hi ⟨u,rfl,U,Y⟩;obtain⟨F,hF,fI⟩:=jU M hi;refine bU ?_;dsimp only;have ci:=BV w.rk i;have f5:=BV w.rk (i+1);rw[cm,hF,ng,au]at f5;have f6:([F].flatMap nmF).length=(nmF F).length:=by simp
  have f5:((w.rk.take i).flatMap nmF).length+([F].flatMap nmF).length<=(w.rk.flatMap nmF).length:=f5;refine{_,Z9,.inl {Z9,_,SqL.of U},_,Z9,v,F,Z9,(fI.same (g.sm.trans Y)).1,fI.2,fun l1 G1 s1 n1 e1=>?_};refine{l,l1,_,_,Z9,Z9,s1 _ _ U,e1,?_,?_}
  ·rw[ah,ah,au];omega
  ·refine{_,Z9,?_,nl (Y.trans s1)};rw[ak,<- bA,cm,hF,ng,jM];simp
 ·rintro σ G ⟨u,rfl,U,Y⟩;rw[aL M,cu]at U;dsimp only;obtain⟨th,kh,cx,db,da⟩:=g.hh;have O:=Y _ _ (g.sm _ _ db);have J:=Y _ _ (g.sm _ _ da);refine eZ {_,Z9,L.d,CD,L.dx,_,_,Z9,Y _ _ g.hd,T.cl,T.nH,Jw _ _ _ _ _ _ _ _,th,_,_,_,cx,Z9,SqT.of O,Z9,lt2,fun t1 cn=>{yl,fun l1 ck=>?_}};have s1:=aG cn (.tup [.str "sign",.ref kh]);have s2:=aG ck (.lst [.ref t1]);have s3:=s1.trans s2;refine nc (K:=K) (a:=l) (xs:=(w.qn++w.rk.flatMap nmF).map V.str) (fun R hR=>{_,Z9,hR}) (SqL.of (s3 _ _ U)) (fun i ys G'=>bj (upd (upd G t1 (.tup [.str "sign",.ref kh])) l1 (.lst [.ref t1])) G'/\aN (TrV G') ys (((nmW w).take i).map (trN at_))) {bj.refl _,.nil} ?_ ?_ ?_
  ·rintro i ys G' hi ⟨Z,W⟩;have:=aL W;rw[ah,bD]at this;rw[ah,au]at hi;exact{SqL.of (Z _ _ (s3 _ _ U)),by omega}
  ·rintro i v ys G' hi ⟨Z,W⟩;obtain⟨x,hx,rfl⟩:=wF hi;refine{Z9,?_};unfold tM;refine iU {_,Z9,_,Z9,by show 3<=aD;omega,fun t ht=>?_};have st:=aG ht (.tup [.str "name",.int at_,.str x]);refine{Z.trans st,?_};have hx:(nmW w)[i]?=Z8 x:=hx;rw[cm,hx,bA];exact dy (Paired.mono (fun _ _ z=>z.same st) W) (Fq ak)
  ·rintro ys G' ⟨Z,W⟩ l2 cp;rw[ah]at W;rw[show (w.qn++w.rk.flatMap nmF).length=(nmW w).length from rfl,cu]at W;have s4:=aG cp (.lst ys);have ly:=aL W;rw[ah,show (nmW w).length=(w.qn++w.rk.flatMap nmF).length from rfl,au]at ly;refine{l1,l2,_,_,Z9,Z9,s4 _ _ (Z _ _ ak),ak,by show 1+_<=_;omega,fun l3 cr=>?_};have s5:=aG cr (.lst ([.ref t1]++ys));have s6:=(Z.trans s4).trans s5;refine k l3 _ _ ((Y.trans s3).trans s6) ak (.cons ?_ (Paired.mono (fun _ _ z=>z.same (s4.trans s5)) W));exact Fs (s6 _ _ (s2 _ _ ak)) (s6 _ _ (s3 _ _ J))
abbrev nTl:List Str:=["at","doing","signs"]
abbrev pTl:List Str:=["at","doing"]
theorem scTl:bM nTl pTl (aR jg):=e7
theorem ndTl:((["sent"]:List Str)++nTl).Nodup:=by decide +kernel
theorem ndTl2:((["name"]:List Str)++nTl).Nodup:=by decide +kernel
inductive Pt(CD:ae)(vs:List V)(H:Hp)(Q:VK)(_e:XK):Prop where
 |mk(L:Lay)(w:Wk)(at_:Int)(us:List V)(_:vs=[.int at_,.ref L.d])(_:H L.d=Z8 (.ins CD L.dx (dF L.m L.hv L.st L.wd L.od w.en L.rd L.ud)))(_:H L.od=Z8 (.lst us))(_:aN (iW H) us w.out)(_:H L.wd=Z8 (.dK (wrK w.wr)))(_:w.wr.length<100)(_:w.out.length<=2000)(_:∀(l:ae) (G:Hp) (vs:List V),bj H G->G l=Z8 (.lst vs)->aN (TrV G) vs (leT at_ w)->Q (.ref l) G):Pt CD vs H Q _e
def spTl(CD:ae):Sp:=fun vs H Q Z=>Pt CD vs H Q Z
theorem Pu(D:Df K mg "traces_left" jg pTl f fd)(T:DT K mg CD)(B:Bl mg):bN P w K mg base CX0 1 f fd pTl (spTl CD):=by
 refine D.F.ok scTl #[3] (fun bF A outer s H vs Q E hr h=>?_)
 ·obtain⟨L,w,at_,us,rfl,_⟩:=h;rfl
 obtain⟨L,w,at_,vs,rfl,M,g,U,cd,fw,few,k⟩:=h;refine⟨_,ar (vW (i:=2) ["sent"] (iG.open (NN:=nTl) (N:=nTl) (sc:=aR jg) rfl rfl #[1] rfl #[1] #[1] rfl #[1]) rfl scTl.nd rfl (Or.inl rfl) (hV (iC K #[7] (pv 1) #[7])) (fun _ _ _ _=>iM (i:=0) ndTl rfl (Or.inl rfl)) (fun _ _ _ _=>jP) (fun _ _ _ _=>dX (dR bX (m9 (bR (mB K #[7]) (pv 0) aA) ao))))
  (aF (bQ (cM sJ (pv 2) (N0 (kZ ["name"] (iG.open (NN:=nTl) (N:=nTl) (sc:=aR jg) rfl rfl #[1] rfl #[1] #[1] rfl #[1]) rfl (NZ (iC K #[7] (pv 1) #[7])) (fun _ _ _ _=>iM (i:=0) ndTl2 rfl (Or.inl rfl)) (fun _ _ _ _=>jP) (fun _ _ _ _=>dX (dR bX (bE (pv 1) (bE (pv 0) ao))))))))),?_⟩
 dsimp only[cxA,cxB];have big:=eJ;have sl:100000<=aD:=by decide
 refine cJ (cV ?_);refine nc (K:=K) (a:=L.od) (xs:=vs) (fun R hR=>{_,Z9,L.d,CD,L.dx,_,_,Z9,M,T.cl,T.nO,QE _ _ _ _ _ _ _ _,hR}) (SqL.of g) (fun i ys G=>bj H G/\aN (TrV G) ys ((w.out.take i).map fun e=>.inr e.key)) {bj.refl _,.nil} ?_ ?_ ?_
 ·rintro i ys G' hi ⟨Z,W⟩;have:=aL W;rw[ah,bD]at this;exact{SqL.of (Z _ _ g),by omega}
 ·rintro i v ys G hi ⟨I,W⟩;obtain⟨e,he,t,kk,rfl,ht,hk⟩:=jU U hi;refine{Z9,?_};unfold tM;refine iU {_,Z9,t,_,_,_,Z9,Z9,SqT.of (I _ _ ht),Z9,lt2,fun t1 bI=>?_};have st:=aG bI (.tup [.str "sign",.ref kk]);refine{I.trans st,?_};rw[cm,he,bA];exact dy (Paired.mono (fun _ _ z=>z.same st) W) (Fs ak (st _ _ (I _ _ hk)))
 rintro ys G ⟨I,W⟩ l1 bG;rw[aL U,cu]at W;refine bU ?_;dsimp only;have s1:=aG bG (.lst ys);have Y:=I.trans s1;have gd:=Y _ _ cd;have bH:=aL W;rw[ah]at bH;refine eZ {_,Z9,?_};have nf:∀(ob:Obj) (u:HO),H L.wd≠Z8 (.frz ob u):=fun ob u z=>by
  rw[cd]at z
  cases z
 refine Ea (d:=L.wd) (kvs:=wrK w.wr) (fun R hR=>{_,Z9,L.d,CD,L.dx,_,_,Z9,Y _ _ M,T.cl,T.nW,Gj _ _ _ _ _ _ _ _,hR}) gd nf (fun od i zs G'=>bj (upd (upd G l1 (.lst ys)) L.wd (.frz od (.dK (wrK w.wr)))) G'/\aN (TrV G') zs ((w.wr.take i).map (trN at_))) (fun od=>{bj.refl _,.nil}) ?_ ?_ ?_
 ·rintro od i zs G' hi ⟨Z,V⟩;have:=aL V;rw[ah,bD]at this;exact{Z _ _ ak,by omega}
 ·rintro od i kv zs G' hi ⟨Z,V⟩;obtain⟨x,hx,rfl⟩:=Rz hi;refine bU {Z9,?_};unfold tM;refine iU {_,Z9,_,Z9,by show 3<=aD;omega,fun t ht=>?_};have st:=aG ht (.tup [.str "name",.int at_,.str x]);refine{Z.trans st,?_};rw[cm,hx,bA];exact dy (Paired.mono (fun _ _ z=>z.same st) V) (Fq ak)
 rintro od zs G' ⟨Z,V⟩ O bW;rw[Ac,cu]at V;have lz:=aL V;rw[ah]at lz;have s2:=aG bW (.lst zs);have frz:=s2 _ _ (Z _ _ (ak (H:=upd G l1 (.lst ys)) (a:=L.wd) (o:=.frz od (.dK (wrK w.wr)))));refine{L.wd,od,_,frz,nf,?_}
 -- thawed
 have s3:bj (upd G l1 (.lst ys)) (upd (upd G' O (.lst zs)) L.wd (.dK (wrK w.wr))):=fun a o e=>by
  by_cases c:a=L.wd
  ·subst c;rw[gd]at e
   cases e;exact ak
  ·rw[aQ c];exact s2 _ _ (Z _ _ (by rw[aQ c];exact e))
 have J:upd (upd G' O (.lst zs)) L.wd (.dK (wrK w.wr)) O=Z8 (.lst zs):=by
  rw[aQ (kg ak frz (fun z=>by cases z))];exact ak
 have ca:aN (TrV (upd (upd G' O (.lst zs)) L.wd (.dK (wrK w.wr)))) zs (w.wr.map (trN at_)):=Paired.mono (fun v q ⟨a,e,z⟩=>⟨a,e,z.keeps fun b ys y=>by
  have y:=s2 _ _ y;rw[aQ (kg y frz (fun z=>by cases z))];exact y⟩) V
 refine{l1,O,_,_,Z9,Z9,s3 _ _ ak,J,by omega,fun l3 cc=>?_};have s4:=aG cc (.lst (ys++zs));refine k l3 _ _ ((Y.trans s3).trans s4) ak ?_;exact nj (Paired.mono (fun _ _ z=>z.same ((s1.trans s3).trans s4)) W) (Paired.mono (fun _ _ z=>z.same s4) ca)
abbrev nTc:List Str:=["at","before","after","found"]
abbrev pTc:List Str:=["at","before","after"]
theorem scTc:bM nTc pTc (aR iA):=e7
inductive Pw(CS:ae)(vs:List V)(H:Hp)(Q:VK)(_e:XK):Prop where
 |mk(at_:Int)(a b:ae)(bx bx':List (Str×Int))(qu qu':List (Str×List Int))(dr dr':Nat)(se se':Int)(_:vs=[.int at_,.ref a,.ref b])(_:jT CS H a bx qu dr se)(_:jT CS H b bx' qu' dr' se')(_:∀(l:ae) (G:Hp) (vs:List V),bj H G->H l=Z7->G l=Z8 (.lst vs)->aN (TrV G) vs (cnT at_ dr dr' se se')->Q (.ref l) G):Pw CS vs H Q _e
def spTc(CS:ae):Sp:=fun vs H Q Z=>Pw CS vs H Q Z
theorem Px(D:Df K mg "traces_of_counting" iA pTc f fd)(W:MdT K mg CM CS)(B:Bl mg):bN P w K mg base CX0 1 f fd pTc (spTc CS):=by
 refine D.F.ok scTc #[3] (fun bv A outer s H vs Q E hr h=>?_)
 ·obtain⟨at_,a,b,bx,ca,qu,bW,dr,Z,se,Y,rfl,_⟩:=h;rfl
 obtain⟨at_,a,b,bx,ca,qu,bW,dr,Z,se,Y,rfl,ha,hb,k⟩:=h;refine⟨_,ar (pst 3 scTc (eO ao))
  (ar (cR (bO rL (iC K #[7] (pv 2) #[7]) (iC K #[7] (pv 1) #[7])) (aF (eU (mO bV cD cE ip (pv 3) (sQ (dX (dR bX (bE (pv 0) ao))) ao) (hs:=t7)))) b9)
  (ar (cR (bO rL (iC K #[7] (pv 2) #[7]) (iC K #[7] (pv 1) #[7])) (aF (eU (mO bV cD cE ip (pv 3) (sQ (dX (dR bX (bE (pv 0) ao))) ao) (hs:=t7)))) b9)
  (aF (bQ (pv 3))))),?_⟩
 dsimp only[cxA,cxB];have big:=eJ;obtain⟨cc,br,bu,bt,I,_⟩:=ha;obtain⟨O,bz,bw,bq,cd,_⟩:=hb;refine cJ (cV {aW _,fun l hl=>bU ?_});dsimp only;have nl:∀{G:Hp} {o:HO},bj H G->bj H (upd G l o):=fun U=>qQ U hl _;refine xJ (fun V G=>∃vs,V=[Z8 (.int at_),Z8 (.ref a),Z8 (.ref b),Z8 (.ref l)]/\bj H G/\G l=Z8 (.lst vs)/\aN (TrV G) vs (if dr<Z then [.inl [.inr "draws",.inl at_]] else [])) ?_ ?_
 rotate_left
 ·intro N M;have s0:=aG hl (.lst []);refine gs {_,Z9,b,CS,O,_,_,Z9,s0 _ _ cd,W.clS,W.nD,Jx _ _ _ _,_,Z9,a,CS,cc,_,_,Z9,s0 _ _ I,W.clS,W.nD,Jx _ _ _ _,_,_,Z9,Z9,_,Z9,gA (fun c=>?_) (fun c=>?_)}
  ·have c:(dr:Int)<Z:=of_decide_eq_true c;refine{_,Z9,.inl {Z9,_,SqL.of ak},_,Z9,lt2,fun t ht=>?_};have st:=aG ht (.tup [.str "draws",.int at_]);refine{l,_,_,Z9,Z9,st _ _ ak,by show 0<aD;omega,M _ _ {_,Z9,nl (s0.trans st),ak,?_}};rw[if_pos #[2]];have J:t≠l:=fun z=>by
    subst z;rw[ak]at ht
    cases ht
   exact .cons ⟨t,Z9,by rw[aQ J];exact ak,by
    intro z;exact absurd (iu (cF z)) #[1]⟩ .nil
  ·have c:¬(dr:Int)<Z:=fun z=>c (decide_eq_true z);exact M _ _ {[],Z9,s0,ak,by rw[if_neg #[2]];exact .nil}
 rintro _ G ⟨vs,rfl,U,g,pG⟩;have bB:vs.length<=1:=by
  rw[aL pG]
  split
  ·exact ay _
  ·exact aW _
 refine xJ (fun V G=>∃vs,V=[Z8 (.int at_),Z8 (.ref a),Z8 (.ref b),Z8 (.ref l)]/\bj H G/\G l=Z8 (.lst vs)/\aN (TrV G) vs (cnT at_ dr Z se Y)) ?_ ?_
 rotate_left
 ·intro N M;refine gs {_,Z9,b,CS,O,_,_,Z9,U _ _ cd,W.clS,W.nS,Jy _ _ _ _,_,Z9,a,CS,cc,_,_,Z9,U _ _ I,W.clS,W.nS,Jy _ _ _ _,_,_,Z9,Z9,_,Z9,gA (fun c=>?_) (fun c=>?_)}
  ·have c:se<Y:=of_decide_eq_true c;refine{_,Z9,.inl {Z9,_,SqL.of g},_,Z9,lt2,fun t ht=>?_};have st:=aG ht (.tup [.str "signs",.int at_]);refine{l,_,_,Z9,Z9,st _ _ g,by omega,M _ _ {_,Z9,nl (U.trans st),ak,?_}};have J:t≠l:=fun z=>by
    subst z;rw[g]at ht
    cases ht
   unfold cnT;rw[if_pos c];have kt:∀b ys,upd G t (.tup [.str "signs",.int at_]) b=Z8 (.tup ys)->upd (upd G t (.tup [.str "signs",.int at_])) l (.lst (vs++[.ref t])) b=Z8 (.tup ys):=fun b ys e=>by
    rw[aQ (kg e (st _ _ g) (fun z=>by cases z))];exact e
   refine nj (Paired.mono (fun v q ⟨a,e,z⟩=>{a,e,z.keeps fun b ys y=>kt _ _ (st _ _ y)}) pG) (.cons {t,Z9,kt _ _ ak,?_} .nil);intro z;exact absurd (iu (cF z)) #[1]
  ·have c:¬se<Y:=fun z=>c (decide_eq_true z);refine M _ _ {vs,Z9,U,g,?_};unfold cnT;rw[if_neg c,cO];exact pG
 rintro _ G' ⟨bG,rfl,bI,bF,bH⟩;exact eZ {_,Z9,k l G' bG bI hl bF bH}
end
end My
namespace L2
open PySem PySem.Spec PyProof.Rows
theorem BX{K:ag}{g:TG}{tb:TS}{D:lD}(Z:Nat->St->Hp->Prop)(h0:Z 0 σ H)(z:∀i σ H,i<=xs.length->Z i σ H->SqL K H a xs)
  (hs:∀i x t σ H,xs[i]?=Z8 x->Z i σ H->H t=Z7->g (.ref t) σ (upd H t (.tup [.int i,x])) fun Y H2=>tb {D with nx:=Z (i+1),ct:=Z (i+1),bk:=D.nx} Y H2) (I:∀σ H,Z xs.length σ H->D.nx σ H) :
  ∃W:Nat->Nat->St->Hp->Prop,(∃m,W 0 m σ H)/\∀i m σ H,W i m σ H ->
   ((Ite K a).stop i H/\D.nx σ H)\/((Ite K a).go i H/\∃N:St->Hp->Prop,(∀U H',N U H'->∃M,M<m/\W (i+1) M U H')/\∀x H',(Ite K a).yld i H x H'->g x σ H' fun Y H2=>tb {D with nx:=N,ct:=N,bk:=D.nx} Y H2):=by
 refine{fun i m σ H=>m=xs.length-i/\i<=xs.length/\Z i σ H,{xs.length,by simp,aW _,h0},?_};rintro i m σ H ⟨rfl,hi,p⟩;have q:=z i σ H hi p
 by_cases O:i<xs.length
 ·refine .inr {{xs,xs[i],q,by simp[O]},Z (i+1),fun U H' J=>{xs.length-(i+1),by omega,Z9,O,J},fun x H' y=>?_};obtain⟨t,v,rfl,ht,hv,rfl⟩:=y;exact hs i v t σ H (hv xs q) p ht
 ·have e:i=xs.length:=by omega
  subst e;exact .inl {{xs,q,ay _},I σ H p}
theorem Hj{K:ag}{g:TG}{tb:TS}{D:lD}(Z:Nat->St->Hp->Prop)(h0:Z 0 σ H)(J:∀i σ H,i<=xs.length->Z i σ H->SqL K H a xs)
  (hs:∀(N:Nat->St->Hp->Prop) (B:St->Hp->Prop),(∀i σ H,Z i σ H->N i σ H)->∀i x t σ H,xs[i]?=Z8 x->Z i σ H->H t=Z7->g (.ref t) σ (upd H t (.tup [.int i,x])) fun Y H2=>tb {D with nx:=N (i+1),ct:=N (i+1),bk:=B} Y H2) (M:∀σ H,Z xs.length σ H->D.nx σ H) :
  ∃W:Nat->Nat->St->Hp->Prop,(∃m,W 0 m σ H)/\∀i m σ H,W i m σ H ->
   ((Ite K a).stop i H/\D.nx σ H)\/((Ite K a).go i H/\∃N:St->Hp->Prop,(∀U H',N U H'->∃O,O<m/\W (i+1) O U H')/\∀x H',(Ite K a).yld i H x H'->g x σ H' fun Y H2=>tb {D with nx:=N,ct:=N,bk:=D.nx} Y H2):=BX Z h0 J (hs Z D.nx fun _ _ _ z=>z) M
end L2
namespace My
open PySem L2
def vL(lt:List (TrK×V))(n:Nat):Prop:=∀k v,iR lt k=Z8 v->∃j:Nat,v=.int j/\j<n
theorem vL.le(h:vL lt n)(l:n<=m):vL lt m:=fun k v e=>by
 obtain⟨j,e,z⟩:=h k v e;exact{j,e,by omega}
theorem vL.put(h:vL lt n)(l:i<n)(Z:List TrK):vL (yv lt Z (.int i)) n:=by
 unfold yv
 induction Z generalizing lt with
 |nil=>exact h
 |cons t Z Y=>
  refine Y fun k v e=>?_;rw[IC]at e
  split at e
  ·cases e;exact⟨i,Z9,l⟩
  ·exact h k v e
theorem BY(lt:List (TrK×V))(Z:List TrK)(t:TrK):Az lt (Z++[t])=Az lt Z++((iR lt t).map plI).toList:=by
 unfold Az;rw[List.filterMap_append]
 cases e:iR lt t<;>simp[e]
theorem K5(lt:List (TrK×V))(Z:List TrK)(t:TrK)(v:V):yv lt (Z++[t]) v=iV (yv lt Z v) t v:=by
 unfold yv;rw[jL];rfl
theorem Ft(lt:List (TrK×V))(Z:List TrK):(Az lt Z).length<=Z.length:=List.length_filterMap_le _ _
theorem K6(h:vL lt n)(m:x∈Az lt Z):0<=x/\x<n:=by
 obtain⟨t,_,e⟩:=nX.mp m;obtain⟨v,hv,rfl⟩:=dI.mp e;obtain⟨j,rfl,z⟩:=h t v hv;show 0<=(j:Int)/\(j:Int)<n;omega
abbrev LnIn(G:Hp):ae->List Int->Prop:=fun a ns=>G a=Z8 (.lst (ns.map V.int))
theorem RB(at_:Int)(dr Z:Nat)(se Y:Int):(cnT at_ dr Z se Y).length<=2:=by
 unfold cnT;rw[au]
 split<;>split<;>simp
theorem zt(n:∀a∈l,F a=Z7)(s:bj F G):bj F (Hid {l,fun _=>Z7} G):=fun a o e=>by
 rw[gp fun m=>m.elim (fun z=>by rw[n a z]at e;cases e) fun⟨o,z,_⟩=>by cases z];exact s _ _ e
theorem in3{P:ae->Prop}(ha:P a)(hb:P b)(hc:P c):∀x∈[a,b,c],P x:=fun x hx=>by
 simp only[aq,aV,or_false]at hx
 rcases hx with rfl|rfl|rfl
 ·exact ha
 ·exact hb
 ·exact hc
structure LnG(P:aI)(w:aY)(CS:ae)(Ms:List MD)(H G:Hp)(sl la fo:ae)(L:LS)(i:Nat):Prop where
 sm:bj H (Hid {[sl,la,fo],fun _=>Z7} G)
 nH:H sl=Z7/\H la=Z7/\H fo=Z7
 nn:sl≠la/\sl≠fo/\la≠fo
 hs:∃ss:List ae,G sl=Z8 (.lst (ss.map V.ref))/\aN (StA CS (Hid {[sl,la,fo],fun _=>Z7} G)) ss L.sts
 hl:∃kvs,DS P w G la kvs/\vw kvs=L.lt/\kvs.length<=300*i
 hi:vL L.lt i
 hf:∃fls:List ae,G fo=Z8 (.lst (fls.map V.ref))/\aN (LnIn (Hid {[sl,la,fo],fun _=>Z7} G)) fls L.fd/\∀a∈fls,H a=Z7
 wk:∀(j:Nat) (M:MD) (s:Sta),Ms[j]?=Z8 M->L.sts[j]?=Z8 s->qO M.bs M.qs s.w
 ln:L.sts.length=Ms.length
theorem LnG.all(g:LnG P w CS Ms H G sl Z Y L i):bj H G:=fun a o e=>gF _ _ (g.sm a o e)
end My
namespace L2
open PySem PySem.Spec PyProof.Rows
theorem passO:mI (CXo X.prog X.w) X E0:=fun pins σ H s e s' I h=>by
 obtain⟨Z,C,H',B,_,z,_⟩:=h;exact z.elim
end L2
namespace My
open PySem L2
theorem LnG.same(g:LnG P w CS Ms H G sl W Y L i)(s:bj G G'):LnG P w CS Ms H G' sl W Y L i:=by
 have f:=fK (ex:={[sl,W,Y],fun _=>Z7}) s;obtain⟨V,M,s2⟩:=g.hs;obtain⟨kvs,k1,k2⟩:=g.hl;obtain⟨Z,f1,O,U⟩:=g.hf;exact{g.sm.trans f,g.nH,g.nn,{V,s _ _ M,Paired.mono (fun _ _ z=>jT.same' f z) s2},{kvs,k1.keeps (by rw[k1.1];exact s _ _ k1.1) (fun b ys e=>s _ _ e),k2},g.hi,{Z,s _ _ f1,Paired.mono (fun _ _ z=>f _ _ z) O,U},g.wk,g.ln}
section
variable{P:aI}{w:aY}{K:ag}{mg:Str->Option af}{base:cb}{f fF fDo fTc fTf fTl CM CD CS:ae}{fd fdF fdDo fdTc fdTf fdTl:bY}{cf:Flt->ae}
seal PS PSs PE PA PT PW PI PG PGs PC
theorem AB(h:t σ H fun x H1=>Z σ H1 fun xs H2=>Q (x::xs) H2):oI t Z σ H Q:=h
theorem Py(h:Z σ H fun xs H1=>r xs H1 Q):tCB r Z σ H Q:=h
abbrev nLn:List Str:=["model","records","states","latest","found","place","record","at","doing","counted","followed","trace"]
abbrev pLn:List Str:=["model","records"]
theorem xT:bM nLn pLn (aR jK):=e7
abbrev N5:List Str:=["model","records","states","latest","found","place","record","-","doing","counted","followed","--"]
theorem ndLn:((["at"]:List Str)++N5).Nodup:=by decide +kernel
theorem ndLn2:((["trace"]:List Str)++N5).Nodup:=by decide +kernel
inductive Pz(CM:ae)(vs:List V)(H:Hp)(Q:VK)(_e:XK):Prop where
 |mk(Ms:List MD)(m rl:ae)(rvs:List V)(rs:List Rec)(_:vs=[.ref m,.ref rl])(_:qU CM Ms H m)(_:Ms.length<1000)(_:H rl=Z8 (.lst rvs))(_:aN (RcIn H) rvs rs)(_:rs.length<=60)(_:rJ Ms rs)(_:∀(G:Hp) (fo:ae) (fls:List ae),bj H G->H fo=Z7->G fo=Z8 (.lst (fls.map V.ref))->(∀a∈fls,H a=Z7)->aN (LnIn G) fls (lnP Ms rs).fd->Q (.ref fo) G):Pz CM vs H Q _e
def RC(CM:ae):Sp:=fun vs H Q Z=>Pz CM vs H Q Z
theorem PB(D:Df K mg "leanings" jK pLn f fd)(DF:Df K mg "first_state" j4 ["model","at"] fF fdF)(GF:bN P w K mg base CX0 3 fF fdF ["model","at"] (xl CM CS))
  (nw:Df K mg "doing_of" mU ["model","state","happening"] fDo fdDo) (my:∀bs qs,bN P w K mg base (CXo P w) 36 fDo fdDo ["model","state","happening"] (JU cf CM CD CS bs qs 5))
  (kh:Df K mg "traces_of_counting" iA pTc fTc fdTc) (ii:bN P w K mg base CX0 1 fTc fdTc pTc (spTc CS)) (jp:Df K mg "traces_followed" iz pTf fTf fdTf) (ld:∀bs qs,bN P w K mg base CX0 16 fTf fdTf pTf (spTf CD CS bs qs)) (io:Df K mg "traces_left" jg pTl fTl fdTl) (kB:bN P w K mg base CX0 1 fTl fdTl pTl (spTl CD))
  (T:DT K mg CD) (TM:MdT K mg CM CS) (B:Bl mg) (ME:mg "enumerate"=Z7) (MS:mg "sorted"=Z7) (ka:mg "set"=Z7):bN P w K mg base CX0 37 f fd pLn (RC CM):=by
 have hX:=bN.some (ι:=List Str×List Str) (fun i=>my i.1 i.2);have jl:=bN.some (ι:=List Str×List Str) (fun i=>ld i.1 i.2);refine D.F.ok xT #[3] (fun ke A outer s H vs Q E hr h=>?_)
 ·obtain⟨Ms,m,rl,lw,rs,rfl,_⟩:=h;rfl
 obtain⟨Ms,m,rl,lw,rs,rfl,hM,lM,ly,mf,hN,rd,k⟩:=h;have nt:=jm (tI (by decide:2<=50) _) (IS hr);have r1:dJ 1 _:=hr.mono (by decide);have r3:dJ 3 _:=hr.mono (by decide);have ih:dJ 16 _:=hr.mono (by decide);have kw:dJ 36 _:=hr;refine⟨_,ar (vW (i:=2) ["at"] (iG.open (NN:=N5) (N:=nLn) (sc:=aR jK) rfl rfl #[1] rfl #[1] #[1] rfl #[1]) rfl xT.nd rfl (Or.inl rfl) (je #[7] B.range (jA (cS (e9 K #[7]) #[7] B.len cA (av (iC K #[7] (pv 0) #[7]) ao)) ao)) (fun _ _ _ _=>iM (i:=0) ndLn rfl (Or.inl rfl)) (fun _ _ _ _=>jP) (fun _ _ _ _=>pcl GF r3 DF (bE (pv 1) (bE (pv 0) ao))))
  (ar (HM (i:=3) xT.nd rfl (Or.inr rfl) (KH P w #[7] #[7]))
  (ar (pst 4 xT (eO ao))
  (ar (iE cw rfl (z7 #[7] ME (bE (pv 1) ao)) (rY rfl (iw (pgn 5 xT) (iw (pgn 6 xT) o8))) (ar (pst 7 xT (bR cv (pv 6) aA))
  (ar (pst 8 xT (gO hX kw #[7] nw.m nw.F.kp nw.b .nil passO (bE (pv 0) (m9 (bR dD (pv 2) (pv 7)) (m9 (jG Il (pv 6) kC (kD aA)) ao)))))
  (ar (pst 9 xT (pcl ii r1 kh (bE (pv 7) (m9 (bR dD (pv 2) (pv 7)) (av (iC K #[7] (pv 8) #[7]) ao)))))
  (ar (pst 10 xT (cM sJ (pcl jl ih jp (bE (pv 7) (bE (pv 8) ao))) (pv 9)))
  (ar (eU (mO bV cD cE ip (pv 4) (jA (cS (xR rfl) #[7] MS vy (jA (iQ (Hf rfl) #[7] ka boot_set (av (kZ ["trace"] (iG.open (NN:=N5) (N:=nLn) (sc:=aR jK) rfl rfl #[1] rfl #[1] #[1] rfl #[1]) rfl (hV (pv 10)) (fun _ _ _ _=>iM (i:=0) ndLn2 rfl (Or.inl rfl)) (fun _ _ _ _=>L8 (qq (NK P w #[7] #[7] (by exact nt) (pv 0) (pv 4)))) (fun _ _ _ _=>KG P w #[7] #[7] (by exact nt) (pv 4) (pv 0))) ao)) ao)) ao)))
  (ar (iE cw rfl (hV (cM sJ (pcl kB r1 io (bE (pv 7) (bE (pv 8) ao))) (pv 9))) (pgn 11 xT) (aF (KI P w #[7] #[7] (by exact nt) (pv 3) (pv 11) (pv 5) rfl)))
  (aF (rZ (iC K #[7] (pv 8) #[7]) (wR (pv 2) (pv 7) qC))))))))))
  (aF (bQ (pv 4)))))),?_⟩
 dsimp only[cxA,cxB];obtain⟨mq,ml,fs,hm,mS,xs,na,ou⟩:=id hM;have lj:xs.length=Ms.length:=aL ou;have big:=eJ;have hO:100000<=aD:=by decide
 have mo:=hM.ok;refine jX fun _ zK=>cV ?_;refine za (K:=K) (ms:=xs) rfl hm TM.clM TM.nM mS na #[2] (fun i ys G=>∃ss:List ae,ys=ss.map V.ref/\bj H G/\aN (StA CS G) ss ((Ms.take i).map st0)) {[],Z9,bj.refl _,by rw[jW];exact .nil} ?_ ?_ ?_
 ·rintro i ys G hi ⟨ss,rfl,s1,p1⟩;have:=aL p1;rw[ah,bD]at this;rw[ah];omega
 ·rintro i ys G hi ⟨ss,rfl,s1,p1⟩;obtain⟨Mi,lg⟩:∃M,Ms[i]?=Z8 M:={_,aw #[2]};obtain⟨x,hx,mo⟩:=gC ou lg;obtain⟨t,bl,ql,n0,x3,x4,vb,rfl,g1,g2,g3,g4⟩:=mo.fs;refine{Z9,?_};unfold tM;refine iU ?_;have lb:Mi.ps.length<=100:=by
   have e:=congrArg i5 mo.kb;rw[ah]at e;have:=mo.lb;omega
  have lq:Mi.qs.length<=100:=by
   have:=mo.lq;omega
  refine{_,Z9,_,Z9,m,mq,ml,t,bl,ql,fs,n0,x3,x4,i,xs,vb,Mi.ps,Mi.qs,by rw[vJ];rfl,s1 _ _ hm,mS,s1 _ _ na,hx,s1 _ _ g1,s1 _ _ g2,g3.same s1,lb,s1 _ _ g4,lq,fun st dx bd qd ls G' N=>?_};refine{ss++[st],by rw[bA];rfl,s1.trans N.same,?_};rw[cm,lg,bA];exact dy (Paired.mono (fun _ _ z=>jT.same' N.same z) p1) (N.sta (by rw[mo.kb];exact mo.nb) mo.nq)
 rintro ys G ⟨ss,rfl,s1,p1⟩;rw[lj,cu]at p1;intro sl pg;refine gk zK ?_;refine jX fun _ zK=>cV fun O qo=>gk zK ?_;refine jX fun _ zK=>cV {aW _,fun Y ri=>gk zK ?_};have ra:=aG pg (.lst (ss.map V.ref));have rf:=aG qo (dS P w O []);have oT:=aG ri (.lst []);have g0:LnG P w CS Ms H (upd (upd (upd G sl (.lst (ss.map V.ref))) O (dS P w O [])) Y (.lst [])) sl O Y (lnP Ms (rs.take 0)) 0:=by
  have nG:∀a∈[sl,O,Y],G a=Z7:=in3 pg (none_of ra qo) (none_of (ra.trans rf) ri);have sA:=(ra.trans rf).trans oT;refine{zt (fun a ha=>none_of s1 (nG a ha)) (s1.trans sA),{none_of s1 pg,none_of s1 (none_of ra qo),none_of s1 (none_of (ra.trans rf) ri)},{aJ ak qo,aJ (rf _ _ ak) ri,aJ ak ri},{ss,oT _ _ (rf _ _ ak),Paired.mono (fun _ _ z=>jT.same' (zt nG sA) z) p1},{[],{oT _ _ ak,fun x hx=>(by cases hx)},Z9,aW _},(fun k v e=>by cases e),{[],ak,.nil,fun a ha=>(by cases ha)},fun j M W hj hs=>?_,ah _};have hs:(Ms.map st0)[j]?=Z8 W:=hs;rw[bT,hj]at hs
  cases hs;obtain⟨x,_,mo⟩:=gC ou hj;exact mo.wk0
 revert g0;clear oT rf ra ri qo p1 pg;generalize upd (upd (upd G sl (.lst (ss.map V.ref))) O (dS P w O [])) Y (.lst [])=G0;intro g0;clear s1 lM lj big;refine jX fun _ zK=>{_,Z9,rl,Z9,{_,SqL.of (g0.all _ _ ly)},?_};refine Hj (K:=K) (a:=rl) (xs:=lw) (fun i σ G=>∃u5 u6 u7 u8 u9 nB rz:Option V,σ=[Z8 (.ref m),Z8 (.ref rl),Z8 (.ref sl),Z8 (.ref O),Z8 (.ref Y),u5,u6,u7,u8,u9,nB,rz]/\LnG P w CS Ms H G sl O Y (lnP Ms (rs.take i)) i) {_,_,_,_,_,_,_,Z9,g0} ?_ ?_ ?_
 ·rintro i σ G _ ⟨_,_,_,_,_,_,_,rfl,g⟩;exact SqL.of (g.all _ _ ly)
 ·rintro zN zB zH i v t σ G hi ⟨u5,u6,u7,u8,u9,nB,rz,rfl,g⟩ ht;obtain⟨r,ph,rc,kk,wl,od,hH,hI,hC,hE,rfl,h1,h2,_⟩:=jU mf hi;obtain⟨M,W,Z,so⟩:=rd i r ph;have il:i<60:=by
   have:=(aC.mp ph).1;omega
  have st:=aG ht (.tup [.int i,.ref rc]);refine{t,_,Z9,SqT.of ak,Z9,_,_,Z9,bU {_,_,Z9,bU {Z9,?_}}};dsimp only;have g1:=g.same st;revert g1;clear st ht g;generalize upd G t (.tup [.int i,.ref rc])=G1;intro g1;have pr:=rd.fd i (by have:=(aC.mp ph).1;omega);have nI:lnP Ms (rs.take (i+1))=lnW (lnP Ms (rs.take i)) r.h W Z:=by
   rw[cm,ph];show lnP Ms (rs.take i++[r])=_;rw[uc,so.step]
  have wk0:=g1.wk _ _ _ so.hM so.hs;obtain⟨hK,hG⟩:=so.few mo;revert pr nI g1 so;generalize lnP Ms (rs.take i)=L;intro so g1 pr nI
  -- at
  refine jX fun _ zK=>cV {_,Z9,rc,_,_,_,Z9,Z9,SqT.of (g1.all _ _ h1),Z9,gk zK ?_};obtain⟨j,ej⟩:∃j:Nat,r.h.to=(j:Int):={r.h.to.toNat,by have:=so.ev.to0;omega};have nO:r.h.to.toNat=j:=by omega
  have os:=so.hM;have ll:=so.hs;rw[nO]at os ll;obtain⟨ss,py,mx⟩:=g1.hs;obtain⟨a,ha,sta⟩:=gC mx ll;have lf:atI (ss.map V.ref) r.h.to=Z8 (.ref a):=by
   rw[ej];exact iO (by rw[bT,ha];rfl)
  obtain⟨mv,ku,moI⟩:=gC ou os
  -- doing
  refine jX fun _ zK=>cV {_,Z9,_,Z9,_,Z9,sl,_,_,_,Z9,Z9,SqL.of py,lf,_,Z9,?_};refine{_,Z9,rc,_,Z9,SqT.of (g1.all _ _ h1),(by show ¬(HT.sIx 7 0 Z7=0/\HT.sIx 7 7 (Z8 5)=7);decide),fun t5 kI=>?_};have s5:=aG kI (.tup (me [.ref kk,.int r.h.to,.str r.h.sg,.int r.h.a,.int r.h.b,.ref wl,.ref od] Z7 (Z8 5)));have g2:=g1.same s5;have he:iW (upd G1 t5 (.tup (me [.ref kk,.int r.h.to,.str r.h.sg,.int r.h.a,.int r.h.b,.ref wl,.ref od] Z7 (Z8 5)))) (.ref t5) r.h:={t5,kk,Z9,ak,g2.all _ _ h2};have sf:=jT.same' (fK (ex:={[sl,O,Y],fun _=>Z7}) s5) sta;have si:=s5 _ _ py;revert g2 he sf si;clear s5 kI g1 sta py mx;generalize upd G1 t5 (.tup (me [.ref kk,.int r.h.to,.str r.h.sg,.int r.h.a,.int r.h.b,.ref wl,.ref od] Z7 (Z8 5)))=G2;intro g2 he sf si;have eq:doS r.h M.ds (j5 M.hs r.h.sg) (w0 W.bx W.qu W.dr W.se)=.ok Z:=so.q;have dk:=wB (P:=fun D=>D.toOk (Ms.length:Int)/\D.deep<=4/\D.size<=3*ddz 3) (mo M (bC so.hM)) {by simp only[Ds.toOk],by simp only[Ds.deep];omega,by simp only[Ds.size];omega} r.h.sg;have dz:3*ddz 3=120:=by decide
  refine{(M.bs,M.qs),m,mq,ml,a,fs,xs,.ref t5,mv,r.h,M.ds,M.hs,W.bx,W.qu,W.dr,W.se,Z9,g2.all _ _ hm,mS,g2.all _ _ na,he,by rw[ej];exact iO ku,moI.ma.same g2.all,jT.same' gF sf,wk0,so.ev.wt,so.ev.wa,so.ev.wb,by omega,by omega,?_};rw[eq];clear dk dz;intro H0 G3 Ly s0 dg em;refine gk zK ?_;have pc:=s0.trans dg.sm;have g3:=g2.same pc;have oc:=jT.same' (fK (ex:={[sl,O,Y],fun _=>Z7}) pc) sf;have qr:=pc _ _ si;obtain⟨hP,lx,_⟩:=g2.hl;obtain⟨hS,lp,_⟩:=g2.hf;have nE:∀b∈Ly.all,b∉({[sl,O,Y],fun _=>Z7}:Ex):=fun b hb z=>by
   rcases z with z|⟨o,e,_⟩
   ·have n:=dg.fr b hb;have z:b∈[sl,O,Y]:=z;simp only[aq,aV,or_false]at z
    rcases z with rfl|rfl|rfl
    ·rw[s0 _ _ si]at n
     cases n
    ·rw[s0 _ _ lx.1]at n
     cases n
    ·rw[s0 _ _ lp]at n
     cases n
   ·cases e
  have nh:=dg.sta nE
  -- counted
  refine jX fun _ zK=>cV {_,Z9,_,Z9,_,Z9,sl,_,_,_,Z9,Z9,SqL.of qr,lf,_,Z9,Ly.d,CD,Ly.dx,_,_,Z9,dg.hd,T.cl,T.nS,vG _ _ _ _ _ _ _ _,?_};refine{r.h.to,a,Ly.st,W.bx,Z.bx,W.qu,Z.qu,W.dr,Z.dr,W.se,Z.se,Z9,jT.same' gF oc,jT.same' gF nh,fun l9 G4 U s4 n9 mW p9=>gk zK ?_};have lh:l9≠Y:=fun z=>by
   subst z;obtain⟨_,e,_⟩:=g3.hf;rw[e]at n9
   cases n9
  -- followed
  have mb:=dg.same s4;have c2:=RB r.h.to W.dr Z.dr W.se Z.se;have lc:=aL p9;have lq:=dg.ok.few2;refine jX fun _ zK=>cV {_,Z9,_,Z9,(M.bs,M.qs),H0,Ly,r.h,M.ds,Z,r.h.to,Z9,mb,by omega,fun ki G5 sq s5 nR nD=>?_};have hQ:=aL nD;have hD:(foT r.h.to r.h Z).length<=1600:=by
   show ([_]++(nmW Z).map _).length<=_;rw[au,ah,show (nmW Z).length=(Z.qn++Z.rk.flatMap nmF).length from rfl,au];show 1+_<=_;omega
  refine{_,Z9,ki,l9,sq,U,Z9,Z9,nR,s5 _ _ mW,by omega,fun ru ob=>gk zK ?_};have rb:=aG ob (.lst (sq++U));have qt:aN (TrV (upd G5 ru (.lst (sq++U)))) (sq++U) (foT r.h.to r.h Z++cnT r.h.to W.dr Z.dr W.se Z.se):=nj (Paired.mono (fun _ _ z=>z.same rb) nD) (Paired.mono (fun _ _ z=>(z.same s5).same rb) p9);have ro:=(s4.trans s5).trans rb;have g6:=g3.same ro;have sr:upd G5 ru (.lst (sq++U)) ru=Z8 (.lst (sq++U)):=ak;have pG:=rb _ _ (s5 _ _ mW);have no:=Paired.mono (fun _ _ z=>(TrV.same s5 z).same rb) p9;have ol:=ro _ _ qr;have pw:=jT.same' (fK (ex:={[sl,O,Y],fun _=>Z7}) ro) nh
  -- what stays of the doing, in sight
  have kG:=fK (ex:={[sl,O,Y],fun _=>Z7}) ro;have pa:∀{b:ae} {o:HO},b∈Ly.all->G3 b=Z8 o->Hid {[sl,O,Y],fun _=>Z7} (upd G5 ru (.lst (sq++U))) b=Z8 o:=fun hb e=>kG _ _ (by rw[gp (nE _ hb)];exact e);have vd:=pa in_d dg.hd;have vw:=pa OO dg.hw;obtain⟨mt,mz,lz⟩:=dg.ho;have vo:=pa JA mz;have pu:=Paired.mono (fun _ _ z=>iW.same ro z) lz;have im:=dg.ok.few;have kq:=dg.ok.clean;have su:=g6.hs;revert g6 qt sr pG no ol pw vd vw vo pu su;clear pa kG ro rb ob nR nD mb p9 mW s4 s5 nh nE lp lx qr oc g3 pc em dg s0 sf si he g2 mz lz lq;generalize upd G5 ru (.lst (sq++U))=G6;intro qt g6 sr pG no ol pw vd ja vo pu su;obtain⟨kvs,re,ow,hL⟩:=g6.hl;obtain⟨I,pi,lk,jb⟩:=g6.hf;have hY:=aL lk;have ix:=aL qt;rw[au,au]at ix;refine jX fun _ zK=>{_,Z9,.inl {Z9,_,SqL.of pi},AB (Py (AB (Py (AB ?_))))};refine nc (K:=K) (a:=ru) (xs:=sq++U) (fun R hR=>{_,Z9,hR}) (SqL.of sr) (fun n ys G'=>G'=G6/\ys=(Az L.lt ((foT r.h.to r.h Z++cnT r.h.to W.dr Z.dr W.se Z.se).take n)).map V.int) ⟨Z9,Z9⟩ ?_ ?_ ?_
  ·rintro n ys G' hn ⟨rfl,rfl⟩;have:=Ft L.lt ((foT r.h.to r.h Z++cnT r.h.to W.dr Z.dr W.se Z.se).take n);rw[bD,au]at this;exact{SqL.of sr,by rw[ah];omega}
  ·rintro n v ys G' hn ⟨rfl,rfl⟩;obtain⟨tk,nf,b,rfl,oD⟩:=jU qt hn;refine{Z9,_,Z9,_,Z9,O,b,kvs,tk,Z9,Z9,re,oD,_,Z9,?_};have e1:(foT r.h.to r.h Z++cnT r.h.to W.dr Z.dr W.se Z.se).take (n+1)=(foT r.h.to r.h Z++cnT r.h.to W.dr Z.dr W.se Z.se).take n++[tk]:=by
    rw[cm,nf];rfl
   cases e:iR (L2.vw kvs) tk with
   |none=>
    refine gz {Z9,?_};rw[e1,BY,<- ow,e,Option.map_none,Option.toList_none,cO]
   |some v=>
    refine iU {_,Z9,_,Z9,O,b,kvs,tk,v,Z9,Z9,re,oD,e,Z9,?_};obtain⟨q,rfl,_⟩:=g6.hi tk v (by rw[<- ow];exact e);rw[e1,BY,<- ow,e,bA];rfl
  rintro ys G' ⟨rfl,rfl⟩ mc nQ;rw[aL qt,cu];have nz:=aG nQ (.lst ((Az L.lt (foT r.h.to r.h Z++cnT r.h.to W.dr Z.dr W.se Z.se)).map V.int));have sb:ko=4096:=rfl;refine{mc,_,Z9,ak,by have:=Ft L.lt (foT r.h.to r.h Z++cnT r.h.to W.dr Z.dr W.se Z.se);rw[au]at this;omega,fun as ls has nd mm _=>?_};refine{as,ls,Z9,ak,?_,fun b5 pb pf pm up=>?_}
  ·have:=rB (n:=i) nd fun x hx=>K6 g6.hi ((mm x).mp hx);omega
  have e5:pb=Aw (Az L.lt (foT r.h.to r.h Z++cnT r.h.to W.dr Z.dr W.se Z.se)):=K3 (pm.nodup_iff.mpr nd) up fun k=>(pm.mem_iff).trans (mm k);have mM:=aG has (K0 (rE CX0 P w K mg base nLn (gy "leanings") (aR jK) f ke A outer s H E).nox as ls);have s5:=aG pf (.lst (pb.map V.int));have sv:=(nz.trans mM).trans s5;have rr:=oF pf (.lst (pb.map V.int));refine{Y,I.map V.ref,.ref b5,Z9,Z9,sv _ _ pi,by rw[ah,hY,pr];omega,zK _ _ ?_};have ry:G' b5=Z7:=none_of (nz.trans mM) pf;revert sv rr;clear s5 mM nz pf pm up has nQ;generalize upd (upd (upd G' mc _) as _) b5 _=G7;intro sv rr;obtain⟨ov,pp,su⟩:=su;obtain⟨n1,n2,n3⟩:=g6.nn;have lr:Y∈({[sl,O,Y],fun _=>Z7}:Ex):=.inl #[5];have md:sl∈({[sl,O,Y],fun _=>Z7}:Ex):=.inl #[5];have po:=sv _ _ pi;have mF:∀xs,G7 Y≠Z8 (.tup xs):=mw po (fun _ z=>by cases z);have nu:∀{o:HO} (b:ae) (ys:List V),G7 b=Z8 (.tup ys)->upd G7 Y o b=Z8 (.tup ys):=fun b ys e=>by
   rw[aQ (kg e po (fun z=>by cases z))];exact e
  have mD:∀{o:HO},bj (Hid {[sl,O,Y],fun _=>Z7} G') (Hid {[sl,O,Y],fun _=>Z7} (upd G7 Y o)):=fun {o}=>by
   rw[jv lr];exact fK sv
  have kz:b5∉({[sl,O,Y],fun _=>Z7}:Ex):=fun z=>by
   rcases z with z|⟨o,e,_⟩
   ·have z:b5∈[sl,O,Y]:=z;simp only[aq,aV,or_false]at z
    rcases z with rfl|rfl|rfl
    ·rw[pp]at ry
     cases ry
    ·rw[re.1]at ry
     cases ry
    ·rw[pi]at ry
     cases ry
   ·cases e
  have v8:∀{o:HO},Hid {[sl,O,Y],fun _=>Z7} (upd G7 Y o) b5=Z8 (.lst (pb.map V.int)):=fun {o}=>by
   rw[jv lr,gp kz];exact rr
  have sd:∀{o:HO},upd G7 Y o sl=Z8 (.lst (ov.map V.ref)):=fun {o}=>bh (sv _ _ pp) n2;have nT:∀{o:HO} {xs:List V} {l:ae},l≠Y->G' l=Z8 (.lst xs)->upd G7 Y o l=Z8 (.lst xs):=fun n e=>bh (sv _ _ e) n;have rx:∀{o:HO},DS P w (upd G7 Y o) O kvs:=fun {o}=>re.keeps (by rw[aQ n3,re.1];exact sv _ _ re.1) (fun b ys e=>nu b ys (sv _ _ e));have oi:∀{o:HO},aN (TrV (upd G7 Y o)) U (cnT r.h.to W.dr Z.dr W.se Z.se):=fun {o}=>Paired.mono (fun _ _ ⟨a,e,z⟩=>{a,e,z.keeps fun b ys y=>nu b ys (sv _ _ y)}) no;have qw:∀{o:HO},aN (iW (upd G7 Y o)) mt Z.out:=fun {o}=>mr mF (Paired.mono (fun _ _ z=>iW.same sv z) pu);have pq:∀{o:HO},upd G7 Y o l9=Z8 (.lst U):=fun {o}=>nT lh pG;have qa:upd G7 Y (.lst (I.map V.ref++[.ref b5])) Y=Z8 (.lst (I.map V.ref++[.ref b5])):=ak;have f8:=mD (o:=.lst (I.map V.ref++[.ref b5]));have v8:=v8 (o:=.lst (I.map V.ref++[.ref b5]));have sd:=sd (o:=.lst (I.map V.ref++[.ref b5]));have rx:=rx (o:=.lst (I.map V.ref++[.ref b5]));have mL:=oi (o:=.lst (I.map V.ref++[.ref b5]));have qw:=qw (o:=.lst (I.map V.ref++[.ref b5]));have pq:=pq (o:=.lst (I.map V.ref++[.ref b5]));revert qa f8 v8 sd rx mL qw pq;clear oi nT mD nu mF po rr;generalize upd G7 Y (.lst (I.map V.ref++[.ref b5]))=G8;intro qa f8 v8 sd rx mL qw pq;have lo:=aL qw;refine jX fun _ zK=>{_,Z9,_,Z9,Ly,Z,r.h.to,mt,Z9,gF _ _ (f8 _ _ vd),gF _ _ (f8 _ _ vo),qw,gF _ _ (f8 _ _ ja),im,by omega,fun ky G9 rv s9 oe mG=>?_};have hT:=aL mG;have hF:(leT r.h.to Z).length=Z.out.length+Z.wr.length:=by
   unfold leT;rw[au,ah,ah]
  refine{_,Z9,ky,l9,rv,U,Z9,Z9,oe,s9 _ _ pq,by omega,fun pZ qk=>{pZ,Z9,{_,SqL.of ak},?_}};have oL:=aG qk (.lst (rv++U));have s8:=s9.trans oL;have qi:aN (TrV (upd G9 pZ (.lst (rv++U)))) (rv++U) (leT r.h.to Z++cnT r.h.to W.dr Z.dr W.se Z.se):=nj (Paired.mono (fun _ _ z=>z.same oL) mG) (Paired.mono (fun _ _ z=>(z.same s9).same oL) mL);have sk:=oF qk (.lst (rv++U));revert s8 qi sk;clear oL qk oe mG s9;generalize upd G9 pZ (.lst (rv++U))=G10;intro s8 qi sk;have pM:=rx.keeps (by rw[rx.1];exact s8 _ _ rx.1) (fun b ys e=>s8 _ _ e);have js:=aL qi;rw[au,au]at js;have kc:pZ≠O:=kg sk pM.1 (fun z=>by cases z);refine rm (K:=K) (a:=pZ) (xs:=rv++U) (fun n σ G=>∃(rz:Option V) (J:List (TrK×ae×V)),σ=[Z8 (.ref m),Z8 (.ref rl),Z8 (.ref sl),Z8 (.ref O),Z8 (.ref Y),Z8 (.int i),Z8 (.ref rc),Z8 (.int r.h.to),Z8 (.ref Ly.d),Z8 (.ref l9),Z8 (.ref ru),rz]/\DS P w G O J/\L2.vw J=yv L.lt ((leT r.h.to Z++cnT r.h.to W.dr Z.dr W.se Z.se).take n) (.int i)/\J.length<=300*i+n/\But O G10 G)
   {_,kvs,Z9,pM,ow,by omega,But.refl _ _} ?_ ?_ ?_
  ·rintro n σ G _ ⟨_,_,rfl,_,_,_,bG⟩;exact SqL.of (bG _ _ sk kc)
  ·rintro zN zB zJ n v σ G hn ⟨rz,J,rfl,pk,ot,lv,bG⟩;obtain⟨tk,nf,b,rfl,oD⟩:=jU qi hn;have nl:=(aC.mp hn).1;rw[au]at nl;refine bU ?_;dsimp only;have kt:∀c ys,G10 c=Z8 (.tup ys)->G c=Z8 (.tup ys):=fun c ys e=>bG _ _ e (kg e pM.1 (fun z=>by cases z));have li:=oD.keeps kt;refine{_,Z9,_,Z9,_,Z9,O,b,J,tk,Z9,Z9,pk,li,by omega,zJ _ _ _ ?_};refine{_,uT J tk b (.int i),Z9,pk.put li,?_,?_,bG.trans (But.upd _ _ _)}
   ·rw[Rt,ot,cm,nf];exact (K5 _ _ _ _).symm
   ·have:=vv J tk b (.int i);omega
  rintro σ G ⟨rz,J,rfl,pk,ot,lv,bG⟩;refine zK _ _ ?_;rw[aL qi,cu]at ot;rw[au]at lv;have kv:O∈({[sl,O,Y],fun _=>Z7}:Ex):=.inl #[5];have fG:bj (Hid {[sl,O,Y],fun _=>Z7} G8) (Hid {[sl,O,Y],fun _=>Z7} G):=(fK s8).trans (J2 fun b o e n=>bG _ _ e fun z=>n (z ▸ kv));have fA:=f8.trans fG;have nP:=bG _ _ (s8 _ _ sd) n1;have mn:=bG _ _ (s8 _ _ qa) n3.symm;have lm:=aL su;have mu:j<ov.length:=by
   rw[lm,g6.ln];exact (aC.mp os).1
  refine cV {_,Z9,Ly.d,CD,Ly.dx,_,_,Z9,gF _ _ (fA _ _ vd),T.cl,T.nS,vG _ _ _ _ _ _ _ _,_,Z9,_,Z9,sl,_,_,j,Z9,Z9,nP,by rw[ej];exact Ke (by rw[ah];exact mu),?_};refine zH _ _ _ ?_;rw[nI];have fZ:bj (Hid {[sl,O,Y],fun _=>Z7} G') (Hid {[sl,O,Y],fun _=>Z7} (upd G sl (.lst ((ov.map V.ref).set j (.ref Ly.st))))):=by
   rw[jv md];exact fA
  refine{_,_,_,_,_,_,_,Z9,g6.sm.trans fZ,g6.nH,⟨n1,n2,n3⟩,{ov.set j Ly.st,by rw[ak,R1],?_},{J,pk.keeps (aQ n1.symm) (fun b ys e=>by rw[aQ (kg e nP (fun z=>by cases z))];exact e),?_,by omega},?_,{I++[b5],?_,?_,?_},?_,?_}
  ·show aN _ _ (L.sts.set r.h.to.toNat Z.sta);rw[nO];exact Paired.set (Paired.mono (fun _ _ z=>jT.same' fZ z) su) j (jT.same' fZ pw)
  ·show _=yv L.lt _ (.int (L.fd.length:Int));rw[pr];exact ot
  ·show vL (yv L.lt _ (.int (L.fd.length:Int))) (i+1);rw[pr];exact (g6.hi.le (eD _)).put (ia _) _
  ·rw[bA];exact bh mn n2.symm
  ·refine dy (Paired.mono (fun _ _ z=>fZ _ _ z) lk) ?_;show Hid _ _ b5=_;rw[jv md,<- e5];exact fG _ _ v8
  ·intro b hb
   rcases cj.mp hb with z|z
   ·exact jb b z
   ·rw[aK.mp z];exact none_of g6.all ry
  ·intro q M' s' hq hs;have hs:(L.sts.set r.h.to.toNat Z.sta)[q]?=Z8 s':=hs;rw[nO]at hs
   by_cases c:j=q
   ·subst c;rw[os]at hq
    cases hq;rw[eP (by rw[<- lm];exact mu)]at hs
    cases hs;exact kq
   ·rw[iJ c]at hs;exact g6.wk q M' s' hq hs
  ·show (L.sts.set _ _).length=_;rw[xW];exact g6.ln
 ·rintro σ G ⟨u5,u6,u7,u8,u9,nB,rz,rfl,g⟩;refine zK _ _ ?_;rw[aL mf,cu]at g;obtain⟨I,f1,f2,f3⟩:=g.hf;exact eZ {_,Z9,k G Y I g.all g.nH.2.2 f1 f3 (Paired.mono (fun _ _ z=>gF _ _ z) f2)}
end
end My
namespace L2
open PySem PySem.Spec PyProof.Rows
def Its(lo Z:Int)(n:Nat):It:={fun i _=>i<n,fun i H x H'=>H'=H/\x=.int (lo+i*Z),fun i _=>n<=i}
theorem BZ{K:ag}(it:ae)(lo Z:Int)(n:Nat):A4 P w K tg (Its lo Z n) [it] it (fun i h=>AK h it (lo+(i:Nat)*Z) ((n:Int)-(i:Nat)) Z) where
 mem:=by simp
 obj:=fun i h st b hb=>by
  have e:b=it:=by simpa using hb
  subst e;exact⟨_,st,fun v z=>by
   have z':Data.fields _=Data.cell v:=z
   cases z'⟩
 keep:=fun i h h' st k=>k it #[5] _ st
 item:=by
  intro X U hw M hc i pins s σ H E I V st O;subst U hw M;obtain⟨f0,f1,f2,J,g,D⟩:=V it #[5];have W:=RP (prog:=X.prog) (w:=X.w) (I.ok.hd hc) it lo Z n;refine W.item i s _ _ O st fun v h' tk hv Y kk=>?_;obtain⟨t,rfl⟩:=hv;have I1:Inv X pins σ H {s with heap:=h',toks:=tk}:=I.turned (fun b o hb e=>kk b o (by simpa using hb) e) f0 f1 J g D;refine{_,Z9,A5 (s:={s with heap:=h',toks:=tk}) (n:="range_iterator") Y rfl rfl (by decide) {.int (lo+i*Z),H,I1,⟨t,Z9⟩,⟨Z9,Z9⟩,Y,fun b hb=>(V b hb).1}}
 done:=by
  intro X U hw M hc i pins s σ H E I V st O;subst U hw M;obtain⟨f0,f1,f2,J,g,D⟩:=V it #[5];exact HR (I.ok.hd hc) st (by have:n<=i:=O;omega) fun h' eb=>{Z9,I.turned (t':=s.toks) (fun b o hb e=>eb b o hb e) f0 f1 J g D}
 self:=fun _ _ _ _ _ st h=>HS st h
section
variable{X:Cx}{tg:cK}
theorem Hk{σ:St}{lo hi Z:Int}(I:Inv X pins σ H s)(U:pR lo hi Z=true)(h0:0<=c5 lo hi Z)
  (q:R (Its lo Z (c5 lo hi Z).toNat) H):aP #[4] X.A (HP (.ref s.heap.objs.size)) (PIE X pins σ tg R) E {s with heap:=s.heap.push {cls:=.type "range",data:=.fields #[.int lo t,.int hi u,.int Z v]},toks:=tk}:=by
 refine P1 (Oh ..) U ?_;have Y:Inv X pins σ H {s with heap:=s.heap.push {cls:=.type "range",data:=.fields #[.int lo t,.int hi u,.int Z v]},toks:=tk}:=I.kept fun b o e=>aE _ e;refine⟨(s.heap.push {cls:=.type "range",data:=.fields #[.int lo t,.int hi u,.int Z v]}).objs.size,[(s.heap.push {cls:=.type "range",data:=.fields #[.int lo t,.int hi u,.int Z v]}).objs.size],_,_,H,Z9,
  Y.kept (t':=tk) fun b o e=>aE _ e,BZ _ lo Z (c5 lo hi Z).toNat,?_,fun b hb=>?_,q⟩
 ·have W:lo+((0:Nat):Int)*Z=lo:=by simp
  have V:(((c5 lo hi Z).toNat:Nat):Int)-((0:Nat):Int)=c5 lo hi Z:=by omega
  show AK _ _ (lo+((0:Nat):Int)*Z) ((((c5 lo hi Z).toNat:Nat):Int)-((0:Nat):Int)) Z;rw[W,V];exact aU _ rfl
 ·have e:b=(s.heap.push {cls:=.type "range",data:=.fields #[.int lo t,.int hi u,.int Z v]}).objs.size:=by simpa using hb
  subst e;exact Y.fpOk (ay _) (Y.hok.fresh (ay _))
end
theorem Ec{lo Z:Int}{g:TG}{tb:TS}{D:lD}(V:Nat->St->Hp->Prop)(h0:V 0 σ H)
  (hs:∀i σ H,i<n->V i σ H->g (.int (lo+i*Z)) σ H fun U H2=>tb {D with nx:=V (i+1),ct:=V (i+1),bk:=D.nx} U H2) (I:∀σ H,V n σ H->D.nx σ H) :
  ∃W:Nat->Nat->St->Hp->Prop,(∃m,W 0 m σ H)/\∀i m σ H,W i m σ H ->
   ((Its lo Z n).stop i H/\D.nx σ H)\/((Its lo Z n).go i H/\∃N:St->Hp->Prop,(∀O H',N O H'->∃M,M<m/\W (i+1) M O H')/\∀x H',(Its lo Z n).yld i H x H'->g x σ H' fun U H2=>tb {D with nx:=N,ct:=N,bk:=D.nx} U H2):=by
 refine{fun i m σ H=>m=n-i/\i<=n/\V i σ H,{n,by simp,aW _,h0},?_};rintro i m σ H ⟨rfl,hi,p⟩
 by_cases Y:i<n
 ·refine .inr {Y,V (i+1),fun O H' J=>{n-(i+1),by omega,Z9,Y,J},fun x H' y=>?_};obtain⟨e,y⟩:=y;subst e y;exact hs i σ _ Y p
 ·have e:i=n:=by omega
  subst e;exact .inl {ay _,I σ H p}
section
variable{X:Cx}{tg:cK}
def iDown(ta:TA):TI:=fun σ H R=>ta σ H fun vs H1=>∃n:Nat,vs=[.int n,.int (-1),.int (-1)]/\n<=1000000/\R (Its n (-1) (n+1)) H1
theorem K7{n:Nat}(h:n<=1000000):pR n (-1) (-1)=true/\c5 n (-1) (-1)=(n+1:Nat):=by
 have e:c5 n (-1) (-1)=(n+1:Nat):=by
  unfold c5;rw[if_neg #[2],if_pos #[2],show (- -1:Int)=1 from rfl,Int.ediv_one];omega
 refine{?_,e};unfold pR;rw[e];simp only[Builtin.Range.rangeFitsLong,gi,Bool.or_eq_true,decide_eq_true_eq,beq_iff_eq];rw[if_neg #[2]];refine{by omega,.inr ?_};rw[gi,decide_eq_true_eq,decide_eq_true_eq];omega
theorem N6{a b c:cK}{ta:TA}{p pos:Pos}(J:Gl X "range")(g:X.mg "range"=Z7)(ha:PA X [a,b,c] ta)(hs:cz [a,b,c] X.env=(false,fY a X.env)::cz [b,c] X.env:=by rfl)(W:cz [b,c] X.env=[(false,fY b X.env),(false,fY c X.env)]:=by rfl) :
  PI X tg (.Call (.Name "range" p) [a,b,c] [] pos) (iDown ta):=by
 intro pins s σ H R I h;refine Call_ (rX I J g boot_range (iZ (thn (ha pos pins s σ H _ I h) fun us s1 ⟨vs,H1,O,z,Y⟩=>?_) hs (by rw[W];rfl)));obtain⟨n,e,Y,q⟩:=Y;subst e
 cases z with
 |cons r Z=>
  cases Z with
  |cons M Z=>
   cases Z with
   |cons U Z=>
    cases Z;obtain⟨t,rfl⟩:=r;obtain⟨t',rfl⟩:=M;obtain⟨t2,rfl⟩:=U;obtain⟨D,V⟩:=K7 Y;exact call_range_3 #[2] (Hk O D (by rw[V];omega) (by rw[V];exact q)) (.inl (zE #[2]))
end
end L2
namespace My
open PySem L2
theorem sT(xs:List V)(k:Nat):me xs Z7 (Z8 (k:Int))=xs.take k:=by
 unfold me;rw[HT.sIx_none,HT.sIx_nat,yR,Nat.sub_zero]
 rcases Nat.le_total k xs.length with h|h
 ·rw[yw h]
 ·rw[Nat.min_eq_right h,cu,B7 h]
theorem jN{α Z:Type}{R:α->Z->Prop}:∀{xs:List α} {ys:List Z} (n:Nat),aN R xs ys->aN R (xs.take n) (ys.take n)
 |_,_,0,_=>.nil
 |_,_,_+1,.nil=>.nil
 |_,_,n+1,.cons a b=>.cons a (jN n b)
def wrN(r:Rec):List Str:=r.wb.map (·.1)++r.wq.map (·.1)
def lwP(rs:List Rec)(at_:Int)(x:Str):Nat->Option Nat
 |0=>Z7
 |n+1=>match rs[n]? with
  |some r=>if r.h.to=at_/\x∈wrN r then Z8 n else lwP rs at_ x n
  |none=>lwP rs at_ x n
theorem AC:∀{n k:Nat},lwP rs at_ x n=Z8 k->k<n
 |0,k,h=>by cases h
 |n+1,k,h=>by
  unfold lwP at h
  split at h
  ·split at h
   ·cases h;exact ia _
   ·exact dY (AC h)
  ·exact dY (AC h)
theorem B0:∀{n:Nat},n<=k->lwP (rs.take k) at_ x n=lwP rs at_ x n
 |0,_=>rfl
 |n+1,h=>by
  unfold lwP;rw[iN #[2],B0 #[2]]
def vM(xs:List Int)(x:Int):List Int:=if x∈xs then xs else xs++[x]
def lZ(xs ys:List Int):List Int:=ys.foldl vM xs
def inK(xs:List Int):List (Key×V):=xs.map fun x=>((Sum.inl x:Key),V.bl true)
theorem Fu(xs:List Int)(x:Int):iR (inK xs) (Sum.inl x)=if x∈xs then Z8 (.bl true) else Z7:=by
 induction xs with
 |nil=>rfl
 |cons y xs Z=>
  unfold inK at Z |-;rw[bK]
  by_cases c:y=x
  ·rw[gZ (by rw[c]),if_pos (by rw[c];exact aB)]
  ·rw[g9 (fun z=>c (qp z)),Z]
   by_cases m:x∈xs
   ·rw[if_pos m,if_pos (aj _ m)]
   ·rw[if_neg m,if_neg fun z=>(aq.mp z).elim (fun e=>c e.symm) m]
theorem N7(xs:List Int)(x:Int):iV (inK xs) (Sum.inl x) (.bl true)=inK (vM xs x):=by
 unfold iV;rw[jH,Fu]
 by_cases m:x∈xs
 ·rw[if_pos m];unfold vM;rw[if_pos m];show (if true=true then _ else _)=_;rw[if_pos rfl];unfold inK;rw[dC];apply gR;intro y _
  by_cases c:y=x
  ·simp only[kX,c,if_true]
  ·simp only[kX,if_neg (fun z=>c (qp z):¬(Sum.inl y:Key)=Sum.inl x)]
 ·rw[if_neg m];unfold vM;rw[if_neg m];show (if false=true then _ else _)=_;rw[if_neg (by decide)];unfold inK;rw[bA];rfl
theorem K8:y∈vM xs x↔(y∈xs\/y=x):=by
 unfold vM
 split
 ·rename_i m
  exact{.inl,fun z=>z.elim id fun e=>e ▸ m}
 ·simp
theorem N8(h:xs.Nodup):(vM xs x).Nodup:=by
 unfold vM
 split
 ·exact h
 ·rename_i m
  refine gI.mpr {h,eG _ _,fun a ha b hb e=>m ?_};rw[<- aK.mp hb,<- e];exact ha
theorem Ed(xs ys:List Int)(y:Int):lZ xs (ys++[y])=vM (lZ xs ys) y:=by
 unfold lZ;rw[jL];rfl
theorem B1{P:Int->Prop}:∀{ys xs:List Int},xs.Nodup->(∀x∈xs,P x)->(∀y∈ys,P y)->(lZ xs ys).Nodup/\∀x∈lZ xs ys,P x
 | [],xs,h,p,_=>⟨h,p⟩
 |y::ys,xs,h,p,q=>B1 (ys:=ys) (N8 h) (fun x hx=>(K8.mp hx).elim (p x) fun e=>e ▸ q y aB) fun z hz=>q z (aj _ hz)
theorem K9(xs:List Int)(x:Int):xs.length<=(vM xs x).length:=by
 unfold vM
 split
 ·exact ay _
 ·rw[au];omega
theorem zu:∀(ys xs:List Int),xs.length<=(lZ xs ys).length
 | [],xs=>ay _
 |y::ys,xs=>cZ (K9 xs y) (zu ys (vM xs y))
theorem La(xs ys:List Int)(j:Nat):(lZ xs (ys.take j)).length<=(lZ xs ys).length:=by
 have e:lZ xs ys=lZ (lZ xs (ys.take j)) (ys.drop j):=by
  unfold lZ;rw[<- jL,ij]
 rw[e];exact zu _ _
def rsS(fd:List (List Int))(last:Nat):Nat->List Int
 |0=>[(last:Int)]
 |n+1=>if ((last-n:Nat):Int)∈rsS fd last n then lZ (rsS fd last n) (fd.getD (last-n) []) else rsS fd last n
def AD(Ms:List MD)(rs:List Rec)(k:Nat)(at_:Int)(x:Str):List Int:=match lwP rs at_ x (min k rs.length) with
 |none=>[]
 |some last=>Aw (rsS (lnP Ms (rs.take (last+1))).fd last (last+1))
theorem xU(Ms:List MD)(rs:List Rec)(k:Nat)(at_:Int)(x:Str):AD Ms (rs.take k) k at_ x=AD Ms rs k at_ x:=by
 unfold AD;rw[bD,<- Nat.min_assoc,qW,B0 #[2]]
 cases e:lwP rs at_ x (min k rs.length) with
 |none=>rfl
 |some last=>
  have:=AC e;show Aw (rsS (lnP Ms ((rs.take k).take (last+1))).fd last (last+1))=_;rw[oq,yw #[2]]
theorem Lb(h:rs.take k=rs'.take k):AD Ms rs k at_ x=AD Ms rs' k at_ x:=by
 rw[<- xU,h,xU]
theorem Lc(h:rJ Ms rs):∀k,k<=rs.length->vL (lnP Ms (rs.take k)).lt k/\∀(p:Nat) (l:List Int),(lnP Ms (rs.take k)).fd[p]?=Z8 l->∀x∈l,0<=x/\x<p
 |0,_=>{fun k v e=>(by cases e),fun p l e=>(by cases e)}
 |k+1,l=>by
  obtain⟨h1,h2⟩:=Lc h k #[2];have Y:=aw (show k<rs.length by omega);obtain⟨M,s,w,z⟩:=h k _ Y;have W:=h.fd k #[2];rw[cm,Y];show vL (lnP Ms (rs.take k++[_])).lt _/\∀p l,(lnP Ms (rs.take k++[_])).fd[p]?=Z8 l->_;rw[uc,z.step];refine{?_,fun p Z e x hx=>?_}
  ·show vL (yv _ _ (.int ((lnP Ms (rs.take k)).fd.length:Int))) _;rw[W];exact (h1.le (eD _)).put (ia _) _
  ·have e:((lnP Ms (rs.take k)).fd++[_])[p]?=Z8 Z:=e
   rcases jq p (lnP Ms (rs.take k)).fd.length with lt|ge
   ·rw[d8 lt]at e;exact h2 p Z e x hx
   ·rw[dh ge]at e;have:p-(lnP Ms (rs.take k)).fd.length=0:=by
     have:=(aC.mp e).1;simp at this;omega
    rw[this]at e
    cases e;have:=K6 h1 (Ay.mp hx);omega
theorem Ld(h:rJ Ms rs)(Y:last+1=rs.length):∀n,(rsS (lnP Ms rs).fd last n).Nodup/\∀x∈rsS (lnP Ms rs).fd last n,0<=x/\x<(last+1:Nat)
 |0=>⟨eG _ _,fun x hx=>by
   rw[aK.mp hx];omega⟩
 |n+1=>by
  obtain⟨h1,h2⟩:=Ld h Y n;unfold rsS
  split
  ·refine B1 (P:=fun x=>0<=x/\x<(last+1:Nat)) h1 h2 fun y hy=>?_;rw[cG]at hy
   cases e:(lnP Ms rs).fd[last-n]? with
   |none=>
    rw[e]at hy
    cases hy
   |some l=>
    rw[e]at hy;have Z:=(Lc h rs.length (ay _)).2;rw[cu]at Z;have:=Z _ _ e y hy;omega
  ·exact⟨h1,h2⟩
def vO:Option Nat->V
 |none=>.non
 |some n=>.int n
abbrev NmT(F:Hp):V->Str->Prop:=fun v x=>∃t y,v=V.ref t/\F t=Z8 (.tup [.str x,y])
theorem nm_b(h:aN (tX F) Z bs):aN (NmT F) Z (bs.map (·.1)):=by
 induction h with
 |nil=>exact .nil
 |cons a _ Y=>
  obtain⟨t,e,z⟩:=a;exact .cons {t,_,e,z} Y
theorem nm_q(h:aN (BB F) Z Y):∀{qs:List (Str×List Int)},gE F Y qs->aN (NmT F) Z (qs.map (·.1)):=by
 induction h with
 |nil=>intro qs h;unfold gE at h;cases h;exact .nil
 |@cons a b O M x _ W=>
  intro qs h;unfold gE at h
  cases h with
  |@cons _ c _ _ y z=>
   obtain⟨t,e,q⟩:=x;have U:b.1=c.1:=y.1;exact .cons {t,V.ref b.2,e,by show F t=Z8 (.tup [.str c.1,.ref b.2]);rw[<- U];exact q} (W z)
theorem Le(h:RcIn F v r):∃(Z k Y od:ae) (O:List V),v=.ref Z/\F Z=Z8 (.tup [.ref k,.int r.h.to,.str r.h.sg,.int r.h.a,.int r.h.b,.ref Y,.ref od])/\F Y=Z8 (.lst O)/\aN (NmT F) O (wrN r):=by
 obtain⟨Z,k,Y,od,U,W,vs,z,e,h1,h2,M,J,D,I,_⟩:=h;exact{Z,k,Y,od,U++W,e,h1,M,nj (nm_b J) (nm_q D I)}
theorem N9{ns:List Str}:inV (.str x) (ns.map V.str)=decide (x∈ns):=by
 unfold inV;rw[List.any_map]
 induction ns with
 |nil=>rfl
 |cons a ns Y=>
  rw[lS,Y];show (eqV (.str a) (.str x)||_)=_
  by_cases c:a=x
  ·subst c;simp[eqV]
  ·have Z:¬x=a:=fun z=>c z.symm;simp[eqV,c,Z]
theorem Hl(ns:List Str):(ns.map V.str).all tG=true:=by
 rw[List.all_map];exact wI.mpr fun x _=>rfl
theorem max0(k:Nat):(if (0:Int)>(k:Int) then (0:Int) else (k:Int))=(k:Int):=if_neg #[2]
section
variable{P:aI}{w:aY}{K:ag}{mg:Str->Option af}{base:cb}{f fLn fLw CM:ae}{fd fdLn fdLw:bY}
seal PS PSs PE PA PT PW PI PG PGs PC PPs
abbrev nLw:List Str:=["records","k","at","box","last","place","record"]
abbrev pLw:List Str:=["records","k","at","box"]
theorem Lg:bM nLw pLw (aR jJ):=e7
theorem ndLw:((["write"]:List Str)++nLw).Nodup:=by decide +kernel
inductive PD(vs:List V)(H:Hp)(Q:VK)(_e:XK):Prop where
 |mk(rl:ae)(k:Nat)(at_:Int)(x:Str)(rvs:List V)(rs:List Rec)(_:vs=[.ref rl,.int k,.int at_,.str x])(_:H rl=Z8 (.lst rvs))(_:aN (RcIn H) rvs rs)(_:rs.length<=60)(_:(∀r∈rs,(wrN r).length<=1000))(_:∀G,bj H G->Q (vO (lwP rs at_ x (min k rs.length))) G):PD vs H Q _e
def spLw:Sp:=fun vs H Q Z=>PD vs H Q Z
theorem ok_lw(D:Df K mg "last_writing" jJ pLw f fd)(B:Bl mg)(ME:mg "enumerate"=Z7):bN P w K mg base CX0 1 f fd pLw spLw:=by
 refine D.F.ok Lg #[3] (fun bI A outer s H vs Q E hr h=>?_)
 ·obtain⟨rl,k,at_,x,W,rs,rfl,_⟩:=h;rfl
 obtain⟨rl,k,at_,x,W,rs,rfl,cc,J,bW,ca,q⟩:=h;refine⟨_,ar (pst 4 Lg wM)
  (ar (iE cw rfl (z7 #[7] ME (m9 (jG mh (pv 0) kC (kD (cS (yB rfl) #[7] B.max boot_max (bE (pv 1) (dR aA ao))))) ao)) (rY rfl (iw (pgn 5 Lg) (iw (pgn 6 Lg) o8))) (aF (cR ((oz (bO ff (bR cv (pv 6) aA) (pv 2)) (l8 (bO FQ (pv 3) (kZ ["write"] (iG.open (NN:=nLw) (N:=nLw) (sc:=aR jJ) rfl rfl #[1] rfl #[1] #[1] rfl #[1]) rfl (hV (bR cv (pv 6) aA)) (fun _ _ _ _=>iM (i:=0) ndLw rfl (Or.inl rfl)) (fun _ _ _ _=>jP) (fun _ _ _ _=>bR (mB K #[7]) (pv 0) aA)) #[7]))).pt) (aF (pst 4 Lg (pv 5))) b9)))
  (aF (bQ (pv 4)))),?_⟩
 dsimp only[cxA,cxB];have big:=eJ;refine cJ (cV (bU ?_));dsimp only;refine cJ {_,Z9,_,Z9,_,_,Z9,_,Z9,rl,_,Z9,SqL.of cc,fun l hl=>?_};rw[max0,sT];have s0:=aG hl (.lst (W.take k));have g:=oF hl (.lst (W.take k));refine{l,Z9,{_,SqL.of g},?_};have lr:=aL J;refine BX (K:=K) (a:=l) (xs:=W.take k) (fun i σ G=>∃u5 u6:Option V,σ=[Z8 (.ref rl),Z8 (.int k),Z8 (.int at_),Z8 (.str x),Z8 (vO (lwP rs at_ x i)),u5,u6]/\bj H G/\G l=Z8 (.lst (W.take k))) {_,_,Z9,s0,g} ?_ ?_ ?_
 ·rintro i σ G _ ⟨_,_,rfl,_,h⟩;exact SqL.of h
 ·rintro i v t σ G hi ⟨u5,u6,rfl,sG,M⟩ ht;have il:=(aC.mp hi).1;rw[bD]at il;rw[iN #[2]]at hi;obtain⟨r,I,ce⟩:=jU J hi;obtain⟨U,kk,wl,od,ws,rfl,h1,h2,h3⟩:=Le ce;have st:=aG ht (.tup [.int i,.ref U]);refine{t,_,Z9,SqT.of ak,Z9,_,_,Z9,bU {_,_,Z9,bU {Z9,?_}}};dsimp only;have Z:=sG.trans st;have Y:=st _ _ M;revert Z Y;clear st ht;generalize upd G t (.tup [.int i,.ref U])=G1;intro Z Y;have lw:=ca r (bC I);have O:∀{b:Prop} [Decidable b],(b↔(r.h.to=at_/\x∈wrN r))->lwP rs at_ x (i+1)=if b then Z8 i else lwP rs at_ x i:=fun {b} _ e=>by
   rw[lwP,I]
   by_cases c:b
   ·rw[if_pos c];exact if_pos (e.mp c)
   ·rw[if_neg c];exact if_neg fun z=>c (e.mpr z)
  refine gs {_,Z9,U,_,_,_,Z9,Z9,SqT.of (Z _ _ h1),Z9,_,Z9,Z9,_,Z9,gA (fun c=>?_) (fun c=>gz ?_)}
  ·have c:r.h.to=at_:=V.int.inj (of_decide_eq_true c);refine{_,Z9,?_};refine nc (K:=K) (a:=wl) (xs:=ws) (fun R hR=>{_,Z9,U,_,_,_,Z9,Z9,SqT.of (Z _ _ h1),Z9,hR}) (SqL.of (Z _ _ h2)) (fun n ys G'=>G'=G1/\ys=((wrN r).take n).map V.str) ⟨Z9,Z9⟩ ?_ ?_ ?_
   ·rintro n ys G' hn ⟨rfl,rfl⟩;rw[ah,bD];exact{SqL.of (Z _ _ h2),by omega}
   ·rintro n v ys G' hn ⟨rfl,rfl⟩;obtain⟨y,hy,t',u,rfl,cd⟩:=jU h3 hn;refine{Z9,?_};unfold tM;refine iU {_,Z9,t',_,_,_,Z9,Z9,SqT.of (Z _ _ cd),Z9,Z9,?_};rw[cm,hy,bA];rfl
   rintro ys G' ⟨rfl,rfl⟩ l' ci;rw[aL h3,cu];have s':=aG ci (.lst ((wrN r).map V.str));refine{l',_,Z9,.inl (SqL.of ak),Z9,Hl _,_,Z9,?_};rw[show (if false=true then !inV (V.str x) ((wrN r).map V.str) else inV (V.str x) ((wrN r).map V.str))=decide (x∈wrN r) from N9];refine gA (fun c2=>?_) (fun c2=>?_)
   ·refine cV {_,Z9,bU {Z8 (.int i),Z8 (.ref U),?_,Z.trans s',s' _ _ Y}};rw[O (b:=True) {fun _=>{c,of_decide_eq_true c2},fun _=>trivial},if_pos trivial];rfl
   ·refine{Z8 (.int i),Z8 (.ref U),?_,Z.trans s',s' _ _ Y};rw[O (b:=False) {fun z=>z.elim,fun z=>c2 (decide_eq_true z.2)},if_neg id];rfl
  ·refine{Z8 (.int i),Z8 (.ref U),?_,Z,Y};rw[O (b:=False) {fun z=>z.elim,fun z=>c (decide_eq_true (by rw[z.1]))},if_neg id];rfl
 ·rintro σ G ⟨u5,u6,rfl,sG,M⟩;dsimp only;refine eZ {_,Z9,?_};rw[bD,lr];exact q G sG
abbrev nRs:List Str:=["model","records","k","at","box","last","leans","found","place","other"]
abbrev pRs:List Str:=["model","records","k","at","box"]
theorem Hm:bM nRs pRs (aR rg):=e7
inductive PF(CM:ae)(vs:List V)(H:Hp)(Q:VK)(_e:XK):Prop where
 |mk(Ms:List MD)(m rl:ae)(k:Nat)(at_:Int)(x:Str)(rvs:List V)(rs:List Rec)(_:vs=[.ref m,.ref rl,.int k,.int at_,.str x])(_:qU CM Ms H m)(_:Ms.length<1000)(_:H rl=Z8 (.lst rvs))(_:aN (RcIn H) rvs rs)(_:rs.length<=60)(_:(∀r∈rs,(wrN r).length<=1000))(_:rJ Ms rs)(_:∀(G:Hp) (l:ae),bj H G->H l=Z7->G l=Z8 (.lst ((AD Ms rs k at_ x).map V.int))->Q (.ref l) G):PF CM vs H Q _e
def spRs(CM:ae):Sp:=fun vs H Q Z=>PF CM vs H Q Z
theorem ok_rs(D:Df K mg "reasons" rg pRs f fd)(dg:Df K mg "last_writing" jJ pLw fLw fdLw)(di:bN P w K mg base CX0 1 fLw fdLw pLw spLw)(dk:Df K mg "leanings" jK pLn fLn fdLn)(db:bN P w K mg base CX0 37 fLn fdLn pLn (RC CM))(B:Bl mg)(MS:mg "sorted"=Z7):bN P w K mg base CX0 38 f fd pRs (spRs CM):=by
 refine D.F.ok Hm #[3] (fun cs A outer s H vs Q E hr h=>?_)
 ·obtain⟨Ms,m,rl,k,at_,x,U,rs,rfl,_⟩:=h;rfl
 obtain⟨Ms,m,rl,k,at_,x,U,rs,rfl,hM,lM,dL,O,dj,dc,rd,q⟩:=h;have dt:=qD hr;have r1:dJ 1 _:=hr.mono (by decide);have dl:dJ 37 _:=hr;refine⟨_,ar (pst 5 Hm (pcl di r1 dg (bE (pv 1) (bE (pv 2) (bE (pv 3) (bE (pv 4) ao))))))
  (ar (cR (qq (HI (pv 5))) (aF (bQ (eO ao))) b9)
  (ar (pst 6 Hm (pcl db dl dk (bE (pv 0) (m9 (jG mh (pv 1) kC (kD (cM ie (pv 5) aA))) ao))))
  (ar (pst 7 Hm (LX (IF (pv 5) oG LW) rfl rfl #[5] (by decide)))
  (ar (iE cw rfl (N6 #[7] B.range (bE (pv 5) (av (Ej zF aA) (av (Ej zF aA) ao)))) (pgn 8 Hm) (aF (cR (qq (CK dt (pv 8) (pv 7))) (aF (iE cw rfl (hV (bR dD (pv 6) (pv 8))) (pgn 9 Hm) (aF (nZ dt (pv 7) (pv 9) oG rfl)))) b9)))
  (aF (bQ (cS (Au rfl) #[7] MS vy (bE (pv 7) ao)))))))),?_⟩
 dsimp only[cxA,cxB];have big:=eJ;have lr:=aL O;refine cJ (cV {_,Z9,_,Z9,_,Z9,_,Z9,rl,k,at_,x,U,rs,Z9,dL,O,dj,dc,fun G s1=>bU ?_});dsimp only
 cases el:lwP rs at_ x (min k rs.length) with
 |none=>
  refine cJ (gs {_,Z9,_,Z9,?_});refine mj (b:=true) rfl (iU ?_);refine eZ {aW _,fun l hl=>?_};refine q _ l (s1.trans (aG hl _)) (none_of s1 hl) ?_;unfold AD;rw[el];exact ak
 |some last=>
 have lt:=AC el;refine cJ (gs {_,Z9,_,Z9,?_});refine mj (b:=false) rfl (gz ?_);dsimp only[lV,vO];refine cJ (cV {_,Z9,_,Z9,_,Z9,_,_,Z9,Z9,_,Z9,rl,_,Z9,SqL.of (s1 _ _ dL),fun l hl=>?_});rw[show ((last:Int)+1)=((last+1:Nat):Int) from by omega,sT];have s2:=s1.trans (aG hl (.lst (U.take (last+1))));have l1:(rs.take (last+1)).length=last+1:=by rw[bD];omega
 refine{Ms,m,l,U.take (last+1),rs.take (last+1),Z9,hM.same s2,lM,ak,Paired.mono (fun _ _ z=>z.same s2) (jN _ O),by omega,rd.take _,fun G3 fo cx s3 da dp nf pf=>bU ?_};dsimp only;have dG:=rd.take (last+1);have dV:=s2.trans s3;have ln:=dG.fd (last+1) #[2];rw[oq,qW]at ln;have ok:=Ld dG (last:=last) #[2];have fin:AD Ms rs k at_ x=Aw (rsS (lnP Ms (rs.take (last+1))).fd last (last+1)):=by
  unfold AD;rw[el]
 revert ln ok fin pf;generalize lnP Ms (rs.take (last+1))=L;intro pf ln ok fin;refine cJ (cV fun d hd=>?_);refine{_,Z9,ak,[(Sum.inl (last:Int),.bl true)],Z9,by show 1<=15;decide,bU ?_};have I:upd (upd G3 d (.dK [])) d (.dK (qE [] [(Sum.inl (last:Int),.bl true)])) d=Z8 (.dK (inK [(last:Int)])):=ak;have b1:But d G3 (upd (upd G3 d (.dK [])) d (.dK (qE [] [(Sum.inl (last:Int),.bl true)]))):=(But.upd _ _ _).trans (But.upd _ _ _);revert I b1;generalize upd (upd G3 d (.dK [])) d (.dK (qE [] [(Sum.inl (last:Int),.bl true)]))=G4;intro I b1;have dn:fo≠d:=aJ dp hd;refine cJ {_,Z9,_,Z9,_,Z9,last,Z9,by omega,?_};refine Ec (fun n σ G=>∃u8 t:Option V,σ=[Z8 (.ref m),Z8 (.ref rl),Z8 (.int k),Z8 (.int at_),Z8 (.str x),Z8 (.int last),Z8 (.ref fo),Z8 (.ref d),u8,t]/\But d G3 G/\G d=Z8 (.dK (inK (rsS L.fd last n)))) {_,_,Z9,b1,I} ?_ ?_
 ·rintro n σ G hn ⟨u8,t,rfl,bG,Y⟩;refine bU ?_;dsimp only;have ep:(last:Int)+(n:Int)*(-1)=((last-n:Nat):Int):=by omega
  rw[ep];obtain⟨nd,J⟩:=ok n;have dw:=rB (n:=last+1) nd J;refine gs {_,Z9,_,Z9,d,_,Z9,sL.k (k:=Sum.inl ((last-n:Nat):Int)) Y,_,Z9,?_};rw[Fu]
  by_cases c:((last-n:Nat):Int)∈rsS L.fd last n
  ·rw[if_pos c];refine iU ?_;have lp:last-n<L.fd.length:=by omega
   obtain⟨a,ha,M⟩:=gC pf (aw lp);have dz:a≠d:=aJ M hd;refine{_,Z9,_,Z9,fo,_,_,_,Z9,Z9,SqL.of (bG _ _ dp dn),iO (by rw[bT,ha];rfl),a,Z9,{_,SqL.of (bG _ _ M dz)},?_};have en:rsS L.fd last (n+1)=lZ (rsS L.fd last n) L.fd[last-n]:=by
    rw[rsS,if_pos c,cG,aw lp];rfl
   have g:=ok (n+1);rw[en]at g;refine kx (K:=K) (a:=a) (xs:=L.fd[last-n].map V.int) (fun j σ G'=>∃t:Option V,σ=[Z8 (.ref m),Z8 (.ref rl),Z8 (.int k),Z8 (.int at_),Z8 (.str x),Z8 (.int last),Z8 (.ref fo),Z8 (.ref d),Z8 (.int ((last-n:Nat):Int)),t]/\But d G3 G'/\G' d=Z8 (.dK (inK (lZ (rsS L.fd last n) (L.fd[last-n].take j))))) {_,Z9,bG,Y} ?_ ?_ ?_
   ·rintro j σ G' _ ⟨_,rfl,Z,_⟩;exact SqL.of (Z _ _ M dz)
   ·rintro j v σ G' hj ⟨t,rfl,Z,W⟩;rw[bT]at hj;obtain⟨y,hy,rfl⟩:=dI.mp hj;refine bU ?_;dsimp only;have du:(inK (lZ (rsS L.fd last n) (L.fd[last-n].take j))).length<aD:=by
     unfold inK;rw[ah];have:=La (rsS L.fd last n) L.fd[last-n] j;have:=rB (n:=last+1) g.1 g.2;omega
    refine{_,Z9,_,Z9,d,_,Z9,ux.k (k:=Sum.inl y) W du,_,Z9,Z.trans (But.upd _ _ _),?_};rw[ak,N7,<- Ed,cm,hy];rfl
   ·rintro σ G' ⟨t,rfl,Z,W⟩;rw[ah,cu]at W;exact{_,_,Z9,Z,by rw[en];exact W}
  ·rw[if_neg c];refine gz {_,_,Z9,bG,?_};rw[rsS,if_neg c];exact Y
 ·rintro σ G ⟨u8,t,rfl,bG,Y⟩;dsimp only;obtain⟨nd,J⟩:=ok (last+1);have dw:=rB (n:=last+1) nd J;refine eZ {_,Z9,d,rsS L.fd last (last+1),_,Z9,Y,by unfold inK;rw[dC];rfl,by omega,fun l5 cr ea pm up=>?_};have de:H d=Z7:=none_of dV hd;have dq:bj H G:=fun a o e=>bG _ _ (dV _ _ e) (aJ e de);refine q _ l5 (dq.trans (aG ea _)) (none_of dq ea) ?_;rw[ak,fin,K3 (pm.nodup_iff.mpr nd) up fun k=>pm.mem_iff]
abbrev nLo:List Str:=["model","records","place"]
abbrev pLo:List Str:=["model","records","place"]
theorem scLo:bM nLo pLo (aR pH):=e7
inductive PH(CM:ae)(vs:List V)(H:Hp)(Q:VK)(_e:XK):Prop where
 |mk(Ms:List MD)(m rl:ae)(p:Nat)(rvs:List V)(rs:List Rec)(_:vs=[.ref m,.ref rl,.int p])(_:qU CM Ms H m)(_:Ms.length<1000)(_:H rl=Z8 (.lst rvs))(_:aN (RcIn H) rvs rs)(_:rs.length<=60)(_:rJ Ms rs)(_:p<rs.length)(_:∀(G:Hp) (l:ae),bj H G->H l=Z7->G l=Z8 (.lst (((lnP Ms (rs.take (p+1))).fd.getD p []).map V.int))->Q (.ref l) G):PH CM vs H Q _e
def spLo(CM:ae):Sp:=fun vs H Q Z=>PH CM vs H Q Z
theorem ok_lo(D:Df K mg "leans_on" pH pLo f fd)(O:Df K mg "leanings" jK pLn fLn fdLn)(I:bN P w K mg base CX0 37 fLn fdLn pLn (RC CM)):bN P w K mg base CX0 38 f fd pLo (spLo CM):=by
 refine D.F.ok scLo #[3] (fun bB A outer s H vs Q E hr h=>?_)
 ·obtain⟨Ms,m,g,p,Z,rs,rfl,_⟩:=h;rfl
 obtain⟨Ms,m,g,p,Z,rs,rfl,hM,lM,M,Y,bF,t,pl,q⟩:=h;have U:dJ 37 _:=hr;refine{_,aF (bQ (bR dD (pcl I U O (bE (pv 0) (m9 (jG mh (pv 1) kC (kD (cM ie (pv 2) aA))) ao))) (pv 2))),?_};dsimp only[cxA,cxB];have lr:=aL Y;refine eZ {_,Z9,_,Z9,_,Z9,_,_,Z9,Z9,_,Z9,g,_,Z9,SqL.of M,fun l hl=>?_};rw[show ((p:Int)+1)=((p+1:Nat):Int) from by omega,sT];have W:=aG hl (.lst (Z.take (p+1)));have l1:(rs.take (p+1)).length=p+1:=by rw[bD];omega
 refine{Ms,m,l,Z.take (p+1),rs.take (p+1),Z9,hM.same W,lM,ak,Paired.mono (fun _ _ z=>z.same W) (jN _ Y),by omega,t.take _,fun G fo bG sG bH J nf pf=>?_};have ln:=(t.take (p+1)).fd (p+1) #[2];rw[oq,qW]at ln;obtain⟨a,ha,V⟩:=gC pf (aw (show p<(lnP Ms (rs.take (p+1))).fd.length by omega));have hn:=nf a (bC ha);refine{_,Z9,fo,_,_,_,Z9,Z9,SqL.of J,iO (by rw[bT,ha];rfl),q G a (W.trans sG) (none_of W hn) ?_};rw[cG,aw (show p<(lnP Ms (rs.take (p+1))).fd.length by omega)];exact V
end
end My
namespace L2
open PySem PySem.Spec PyProof.Rows PySem.SeqAt
def IL(H:Hp)(x y:V)(b:Bool):Prop:=b=false/\((∃(i:Int) (l:ae) (xs:List V),x=.int i/\y=.ref l/\H l=Z8 (.lst xs))\/∃(i:Int) (l:ae) (xs:List V),x=.ref l/\y=.int i/\H l=Z8 (.lst xs))
def BSm(H:Hp)(x y:V)(b:Bool):Prop:=BSc x y b\/IL H x y b
def BEm(H:Hp):Nat->V->V->Bool->Prop
 |0,x,y,b=>BSm H x y b
 |n+1,x,y,b=>BSm H x y b\/∃p q xs ys,x=.ref p/\y=.ref q/\((H p=Z8 (.lst xs)/\H q=Z8 (.lst ys)/\xs.length≠ys.length/\b=false) \/
   (((H p=Z8 (.lst xs)/\H q=Z8 (.lst ys))\/(H p=Z8 (.tup xs)/\H q=Z8 (.tup ys)))/\xs.length=ys.length/\∃e:Nat->Bool,(∀i x y,xs[i]?=Z8 x->ys[i]?=Z8 y->BEm H n x y (e i))/\b=(gK xs.length).all e))
theorem BSm.self(h:BSm H x x b):b=true:=by
 rcases h with h|⟨_,⟨i,l,xs,Y,Z,_⟩|⟨i,l,xs,Y,Z,_⟩⟩
 ·exact h.self
 ·rw[Y]at Z
  cases Z
 ·rw[Y]at Z
  cases Z
theorem BEm.self:∀{n:Nat} {x:V} {b:Bool},BEm H n x x b->b=true
 |0,_,_,h=>BSm.self h
 |n+1,x,b,h=>by
  rcases h with h|⟨p,q,xs,ys,U,Y,h⟩
  ·exact h.self
  ·rw[U]at Y
   cases Y
   rcases h with⟨h1,h2,W,_⟩|⟨h1,_,e,O,rfl⟩
   ·rw[h1]at h2
    cases h2;exact absurd rfl W
   ·have Z:xs=ys:=by
     rcases h1 with⟨h1,h2⟩|⟨h1,h2⟩
     ·rw[h1]at h2
      cases h2;rfl
     ·rw[h1]at h2
      cases h2;rfl
    subst Z;rw[wI];intro i hi;have lt:=iX.mp hi;exact BEm.self (O i _ _ (aw lt) (aw lt))
section
variable{P:aI}{w:aY}{H:Hp}{s:ai}
theorem Lh(ok:HOk P w H s.heap)(hu:A.units<dM)(h:BSm H x y b)(U:RelV x u)(Z:RelV y v):EqAt A s u v b:=by
 rcases h with h|⟨rfl,⟨i,l,xs,rfl,rfl,W⟩|⟨i,l,xs,rfl,rfl,W⟩⟩
 ·exact Qm h U Z
 ·obtain⟨t,rfl⟩:=(show ∃t,u=Value.int i t from U)
  cases Z;obtain⟨us,O,Y⟩:=fV ok W;exact EqAt.int_list i t Y hu
 ·obtain⟨t,rfl⟩:=(show ∃t,v=Value.int i t from Z)
  cases U;obtain⟨us,O,Y⟩:=fV ok W;exact EqAt.list_int i t Y hu
theorem Li(ok:HOk P w H s.heap)(hu:A.units<dM)
  (M:∀x y b,BEm H n x y b->∀u v,RelV x u->RelV y v->EqAt A.in1 s u v b)
  (h:(H p=Z8 (.lst xs)/\H q=Z8 (.lst ys)/\xs.length≠ys.length/\b=false) \/
   (((H p=Z8 (.lst xs)/\H q=Z8 (.lst ys))\/(H p=Z8 (.tup xs)/\H q=Z8 (.tup ys)))/\xs.length=ys.length/\∃e:Nat->Bool,(∀i x y,xs[i]?=Z8 x->ys[i]?=Z8 y->BEm H n x y (e i))/\b=(gK xs.length).all e)):RcAt A s (.ref p) (.ref q) b:=by
 rcases h with⟨h1,h2,h3,rfl⟩|⟨h1|h1,hl,e,he,rfl⟩
 ·obtain⟨us,W,J⟩:=fV ok h1;obtain⟨vs,Z,O⟩:=fV ok h2;refine RcAt.lists_lengths J O ?_ hu;rw[aH,aH,<- W.length,<- Z.length];exact bne_iff_ne.mpr h3
 ·obtain⟨us,W,J⟩:=fV ok h1.1;obtain⟨vs,Z,O⟩:=fV ok h1.2;have I:=W.length;have l2:=Z.length;have k:=RcAt.lists (A:=A) (e:=e) J O (by rw[aH,aH];omega) hu (fun j a b=>by
   have ja:j<us.length:=by simpa using a
   have jb:j<vs.length:=by simpa using b
   have hx:xs[j]?=Z8 (xs[j]' #[2]):=aw _;have hy:ys[j]?=Z8 (ys[j]' #[2]):=aw _;obtain⟨u,Y,g⟩:=W.get hx;obtain⟨v,U,D⟩:=Z.get hy;have t:us[j]=u:=(aC.mp Y).2;have ev:vs[j]=v:=(aC.mp U).2;have z:=M _ _ _ (he j _ _ hx hy) u v g D;simpa[t,ev] using z)
  rw[aH,<- I]at k;exact k
 ·obtain⟨us,W,J⟩:=i9 ok h1.1;obtain⟨vs,Z,O⟩:=i9 ok h1.2;have I:=W.length;have l2:=Z.length;have k:=RcAt.tuples (A:=A) (e:=e) J O hu (fun j a b=>by
   have ja:j<us.length:=by simpa using a
   have jb:j<vs.length:=by simpa using b
   have hx:xs[j]?=Z8 (xs[j]' #[2]):=aw _;have hy:ys[j]?=Z8 (ys[j]' #[2]):=aw _;obtain⟨u,Y,g⟩:=W.get hx;obtain⟨v,U,D⟩:=Z.get hy;have t:us[j]=u:=(aC.mp Y).2;have ev:vs[j]=v:=(aC.mp U).2;have z:=M _ _ _ (he j _ _ hx hy) u v g D;simpa[t,ev] using z)
  have es:(us.toArray.size==vs.toArray.size)=true:=by
   rw[aH,aH,<- I,<- l2,hl];exact beq_self_eq_true _
  rw[es,Bool.and_true]at k;have em:min us.toArray.size vs.toArray.size=xs.length:=by
   rw[aH,aH];omega
  first
   |(rw[em]at k;exact k)
   |(rw[aH,<- I]at k;exact k)
theorem Lj(ok:HOk P w H s.heap):∀{n:Nat} {A:bJ} {x y:V} {u v:af} {b:Bool},A.units+n<dM->BEm H n x y b->RelV x u->RelV y v->EqAt A s u v b
 |0,A,x,y,u,v,b,hu,h,Y,Z=>Lh ok #[2] h Y Z
 |n+1,A,x,y,u,v,b,hu,h,Y,Z=>by
  rcases id h with h' | ⟨p,q,xs,ys,rfl,rfl,h'⟩
  ·exact Lh ok #[2] h' Y Z
  ·cases Y
   cases Z
   by_cases e:p=q
   ·subst e;rw[BEm.self h];exact EqAt.same _
   ·exact EqAt.of_refs e (Li ok #[2] (fun x y b z u v Y Z=>Lj ok (by show A.units+1+n<dM;omega) z Y Z) h')
end
section
variable{X:Cx}
theorem RD(hu:X.A.units+50<dM):OpR X (eB .Eq) (fun x y H Q=>∃n p q b,n<=20/\x=.ref p/\y=.ref q/\BEm H n x y b/\Q (.bl b) H):=by
 intro pins s σ H x y v u Q I M V h;obtain⟨n,p,q,b,t,rfl,rfl,d,k⟩:=h
 cases M
 cases V;have fin:EP X pins σ Q (.bool b) s:={.bl b,H,I,Z9,k};have Z:BSm H (.ref p) (.ref q) b->False:=fun z=>by
  rcases z with (⟨_,_,e,_⟩|⟨_,_,e,_⟩)|⟨_,⟨_,_,_,e,_⟩|⟨_,_,_,_,e,_⟩⟩<;>cases e
 cases n with
 |zero=>exact (Z d).elim
 |succ n=>
  rcases d with d|⟨D,J,xs,ys,W,U,d⟩
  ·exact (Z d).elim
  ·cases W
   cases U;exact Li I.hok #[2] (fun x y b z u v O Y=>Lj I.hok (by show X.A.units+1+n<dM;omega) z O Y) d X.prog X.w _ _ fin
end
end L2
namespace My
open PySem L2
section
variable{Ms:List MD}{r:RS}
theorem been(W:DH Ms):∀{i:Nat},(∀j,j<i->ROk Ms.length (itR Ms r j).1/\oX (itR Ms r j).1 (Z-(itR Ms r j).2.length)=Z7)->(∀j,j<i->(itR Ms r j).2.length=j)/\(itR Ms r i).2.length<=i
 |0,_=>{fun j Y=>absurd Y (jz _),ay _}
 |i+1,h=>by
  obtain⟨h2,D⟩:=been (i:=i) W fun j Y=>h j #[2];have M:=oZ (h i #[2]).2;have I:=(h i #[2]).1;obtain⟨_,s2⟩:=xE (wC W I M.2.1);have O:(itR Ms r i).2.length=i:=by
   cases i with
   |zero=>rfl
   |succ i=>
    -- the turn ahead of it told a record, else it would be over
    have e:(itR Ms r (i+1)).2=(itR Ms r i).2++(iK Ms (itR Ms r i).1).2:=rfl;have J:=oZ (h i #[2]).2;obtain⟨_,V⟩:=xE (wC W (h i #[2]).1 J.2.1)
    rcases V with⟨q,eq⟩|⟨_,sp,U⟩
    ·rw[e,eq,au,h2 i #[2]];rfl
    ·have:(itR Ms r (i+1)).1.sp=Z8 sp:=U;rw[M.1]at this
     cases this
  refine{fun j Y=>?_,?_}
  ·rcases jq j i with z|z
   ·exact h2 j z
   ·have:j=i:=by omega
    rw[this];exact O
  ·have e:(itR Ms r (i+1)).2=(itR Ms r i).2++(iK Ms (itR Ms r i).1).2:=rfl;rw[e,au,O]
   rcases s2 with⟨q,eq⟩|⟨eq,_⟩
   ·rw[eq];exact ay _
   ·rw[eq];exact eD _
theorem zv(Y:DH Ms)(s:E5 Ms r Z i e)(m0:0<=Z):((itR Ms r i).2.length:Int)<=Z:=by
 cases i with
 |zero=>
  show ((0:Nat):Int)<=Z;omega
 |succ i=>
  obtain⟨h1,h2⟩:=been Y s.1;have d:=oZ (s.1 i #[2]).2;have:=h1 i #[2];omega
end
def Wp(p:ae)(H:Hp):Hp:=fun a=>if a=p then Z7 else H a
theorem oy(h:H a=Z8 o)(n:a≠p):Wp p H a=Z8 o:=by
 unfold Wp;rw[if_neg n];exact h
theorem Fv(h:Wp p H a=Z8 o):a≠p/\H a=Z8 o:=by
 unfold Wp at h
 by_cases c:a=p
 ·rw[if_pos c]at h
  cases h
 ·rw[if_neg c]at h;exact⟨c,h⟩
theorem But.wp(b:But p H H'):bj (Wp p H) (Wp p H'):=fun a o e=>by
 obtain⟨n,h⟩:=Fv e;exact oy (b _ _ h n) n
theorem wJ(p:ae)(H:Hp):bj (Wp p H) H:=fun a o e=>(Fv e).2
theorem Fw(s:bj G F):bj (Wp p G) (Wp p F):=fun a o e=>oy (s _ _ (Fv e).2) (Fv e).1
structure Rn(CM:ae)(Ms:List MD)(es:List Ev)(H:Hp)(m sgl:ae):Prop where
 mo:qU CM Ms H m
 lm:Ms.length<1000
 sg:∃svs,H sgl=Z8 (.lst svs)/\aN (xu H) svs es
 le:es.length<64
 ev:∀e∈es,Al Ms.length e
theorem Rn.same(s:bj H G)(h:Rn CM Ms es H m Z):Rn CM Ms es G m Z:=by
 obtain⟨Y,h1,h2⟩:=h.sg;exact{h.mo.same s,h.lm,{Y,s _ _ h1,Paired.mono (fun _ _ z=>z.same s) h2},h.le,h.ev}
theorem RE(U:Z≠m)(hk:G k≠Z7)(b:But k (upd H2 m (.ins CM Z (dO "machines" W []))) G'):bj (Nw (upd (upd G Z (.own m)) m (.ins CM Z [])) H2) (Hid {[],G} G'):=fun a o e=>by
 have n:(upd (upd G Z (.own m)) m (.ins CM Z [])) a=Z7:=by
  unfold Nw at e
  by_cases c:(upd (upd G Z (.own m)) m (.ins CM Z [])) a=Z7
  ·exact c
  ·rw[if_neg c]at e
   cases e
 have Y:a≠m:=fun z=>by
  rw[z,ak]at n
  cases n
 have O:a≠Z:=fun z=>by
  rw[z,aQ U,ak]at n
  cases n
 have M:G a=Z7:=by
  rw[aQ Y,aQ O]at n;exact n
 rw[gp (oo M)];exact b _ _ (by rw[aQ Y];exact nw_le _ _ e) fun z=>hk (z ▸ M)
theorem mo_h(nm:G m=Z7)(W:Z≠m)(hk:G k≠Z7)(V:Gu (Ms.length:Int) (Nw (upd (upd G Z (.own m)) m (.ins CM Z [])) H2) Y Ms)(b:But k (upd H2 m (.ins CM Z (dO "machines" (.ref Y) []))) G'):qU CM Ms (Hid {[],G} G') m:=
 {Z,Y,_,by rw[gp (oo nm)];exact b _ _ ak (fun z=>hk (z ▸ nm)),Z9,V.same (RE W hk b)}
def BqD(H:Hp)(n:Nat)(v Z:V)(p:Prop):Prop:=∃b,BEm H n v Z b/\(b=true↔p)
section
variable{H:Hp}{n:Nat}
theorem BqD.iff(h:BqD H n v Z p)(e:p↔q):BqD H n v Z q:=by
 obtain⟨b,h1,h2⟩:=h;exact{b,h1,h2.trans e}
theorem Fx(h:BSm H v Z b)(e:b=true↔p):BqD H n v Z p:=by
 cases n with
 |zero=>exact⟨b,h,e⟩
 |succ n=>exact{b,.inl h,e}
theorem pS(i j:Int):BqD H n (.int i) (.int j) (i=j):=Fx (.inl (.inl ⟨i,j,Z9,Z9,Z9⟩)) decide_eq_true_iff
theorem uV(i j:Str):BqD H n (.str i) (.str j) (i=j):=Fx (.inl (.inr ⟨i,j,Z9,Z9,Z9⟩)) decide_eq_true_iff
theorem bq_il(h:H l=Z8 (.lst xs)):BqD H n (.int i) (.ref l) False:=Fx (.inr {Z9,.inl ⟨i,l,xs,Z9,Z9,h⟩}) #[5]
theorem bq_li(h:H l=Z8 (.lst xs)):BqD H n (.ref l) (.int i) False:=Fx (.inr {Z9,.inr ⟨i,l,xs,Z9,Z9,h⟩}) #[5]
theorem Ee{P:Nat->Prop}(h:(H p=Z8 (.lst xs)/\H q=Z8 (.lst ys))\/(H p=Z8 (.tup xs)/\H q=Z8 (.tup ys)))(l:xs.length=ys.length)(f:∀(i:Nat) x y,xs[i]?=Z8 x->ys[i]?=Z8 y->BqD H n x y (P i)):BqD H (n+1) (.ref p) (.ref q) (∀i,i<xs.length->P i):=by
 have Z:∀i:Nat,∃b:Bool,∀(h:i<xs.length),BEm H n xs[i] (ys[i]' #[2]) b/\(b=true↔P i):=fun i=>by
  by_cases c:i<xs.length
  ·obtain⟨b,h1,h2⟩:=f i _ _ (aw c) (aw #[2]);exact{b,fun _=>⟨h1,h2⟩}
  ·exact{true,fun z=>absurd z c}
 refine{(gK xs.length).all fun i=>Ef (Z i),.inr {p,q,xs,ys,Z9,Z9,.inr {h,l,fun i=>Ef (Z i),fun i x y hx hy=>?_,Z9}},?_}
 ·obtain⟨Y,rfl⟩:=aC.mp hx;obtain⟨W,rfl⟩:=aC.mp hy;exact (pT (Z i) Y).1
 ·rw[wI]
  constructor
  ·exact fun z i hi=>(pT (Z i) hi).2.mp (z i (iX.mpr hi))
  ·exact fun z i hi=>(pT (Z i) (iX.mp hi)).2.mpr (z i (iX.mp hi))
theorem Oa(h:H p=Z8 (.lst xs))(h':H q=Z8 (.lst ys))(l:xs.length≠ys.length):BqD H (n+1) (.ref p) (.ref q) False:={false,.inr {p,q,xs,ys,Z9,Z9,.inl ⟨h,h',l,Z9⟩},by simp}
theorem xV{α:Type}{R:V->α->Prop}{xs:List α}(h:aN R vs xs):∀{i:Nat} {v:V},vs[i]?=Z8 v->∃x,xs[i]?=Z8 x/\R v x:=by
 induction h with
 |nil=>intro i v e;cases i<;>cases e
 |cons a _ Z=>
  intro i v e
  cases i with
  |zero=>cases e;exact{_,Z9,a}
  |succ i=>exact Z e
theorem wK{α:Type}{R:V->α->Prop}{xs ys:List α}(h:H p=Z8 (.lst vs))(h':H q=Z8 (.lst Z))(a:aN R vs xs)(b:aN R Z ys)(one:∀(i:Nat) v Y x y,xs[i]?=Z8 x->ys[i]?=Z8 y->R v x->R Y y->BqD H n v Y (x=y)):BqD H (n+1) (.ref p) (.ref q) (xs=ys):=by
 have M:=aL a;have O:=aL b
 by_cases l:vs.length=Z.length
 ·refine (Ee (P:=fun i=>xs[i]?=ys[i]?) (.inl ⟨h,h'⟩) l fun i v Y hv W=>?_).iff ?_
  ·obtain⟨x,hx,J⟩:=xV a hv;obtain⟨y,hy,U⟩:=xV b W;refine (one i v Y x y hx hy J U).iff ?_;rw[hx,hy];simp
  ·constructor
   ·intro z;refine oM fun i=>?_
    by_cases c:i<vs.length
    ·exact z i c
    ·rw[dB #[2],dB #[2]]
   ·rintro rfl i _;rfl
 ·refine (Oa h h' l).iff {fun z=>z.elim,fun z=>l ?_};rw[M,O,z]
theorem RF{ps:List Prop}(h:H p=Z8 (.tup xs))(h':H q=Z8 (.tup ys))(f:xs.length=ys.length/\xs.length=ps.length/\∀(i:Nat) x y r,xs[i]?=Z8 x->ys[i]?=Z8 y->ps[i]?=Z8 r->BqD H n x y r):BqD H (n+1) (.ref p) (.ref q) (∀r∈ps,r):=by
 obtain⟨l,W,f⟩:=f;refine (Ee (P:=fun i=>∀r,ps[i]?=Z8 r->r) (.inr ⟨h,h'⟩) l fun i x y hx hy=>?_).iff ?_
 ·have Y:=(aC.mp hx).1;have e:=aw (l:=ps) (i:=i) #[2];refine (f i x y _ hx hy e).iff ?_;rw[e];exact{fun z r Z=>by cases Z;exact z,fun z=>z _ rfl}
 ·constructor
  ·intro z r m;obtain⟨i,Y,rfl⟩:=rT.mp m;exact z i #[2] _ (aw Y)
  ·exact fun z i _ r Z=>z r (bC Z)
inductive BqI(H:Hp)(n:Nat):List V->List V->List Prop->Prop
 |nil:BqI H n [] [] []
 |cons{x y:V}{p:Prop}{xs ys:List V}{ps:List Prop}(a:BqD H n x y p)(b:BqI H n xs ys ps):BqI H n (x::xs) (y::ys) (p::ps)
theorem BqI.at_(b:BqI H n xs ys ps):xs.length=ys.length/\xs.length=ps.length/\∀(i:Nat) x y r,xs[i]?=Z8 x->ys[i]?=Z8 y->ps[i]?=Z8 r->BqD H n x y r:=by
 induction b with
 |nil=>exact{Z9,Z9,fun i x y r h=>by cases i<;>cases h}
 |cons a _ Y=>
  obtain⟨W,U,f⟩:=Y;refine{congrArg (·+1) W,congrArg (·+1) U,fun i x y r hx hy Z=>?_}
  cases i with
  |zero=>cases hx;cases hy;cases Z;exact a
  |succ i=>exact f i x y r hx hy Z
theorem zw(h:H p=Z8 (.tup xs))(h':H q=Z8 (.tup ys))(b:BqI H n xs ys ps):BqD H (n+1) (.ref p) (.ref q) (∀r∈ps,r):=RF h h' b.at_
end
theorem Hn:(∀r∈p::ps,r)↔(p/\∀r∈ps,r):=List.forall_mem_cons
theorem Ho:(∀r∈([]:List Prop),r)↔True:={fun _=>trivial,fun _ r h=>by cases h}
section
variable{H:Hp}
theorem Fy:∀{n:Nat} {as bs:List Int},H p=Z8 (.tup (as.map V.int))->H q=Z8 (.tup (bs.map V.int))->as.length=bs.length->BqD H (n+1) (.ref p) (.ref q) (as=bs):=fun {n as bs} h h' l=>by
 refine (Ee (P:=fun i=>as[i]?=bs[i]?) (.inr ⟨h,h'⟩) (by rw[ah,ah];exact l) fun i x y hx hy=>?_).iff ?_
 ·rw[bT]at hx hy;obtain⟨a,ha,rfl⟩:=dI.mp hx;obtain⟨b,hb,rfl⟩:=dI.mp hy;refine (pS a b).iff ?_;rw[ha,hb];simp
 ·rw[ah]
  constructor
  ·intro z;refine oM fun i=>?_
   by_cases c:i<as.length
   ·exact z i c
   ·rw[dB #[2],dB #[2]]
  ·rintro rfl i _;rfl
theorem Ll{as bs:List Int}(h:H p=Z8 (.lst (as.map V.int)))(h':H q=Z8 (.lst (bs.map V.int))):BqD H (n+1) (.ref p) (.ref q) (as=bs):=by
 have Y:∀Z:List Int,aN (fun v (x:Int)=>v=V.int x) (Z.map V.int) Z:=fun Z=>by
  induction Z with
  |nil=>exact .nil
  |cons a Z U=>exact .cons rfl U
 refine wK h h' (Y as) (Y bs) fun i v M x y _ _ W O=>?_;subst W O;exact pS x y
theorem Lm{e Z:Ev}:e=Z↔([e.t,e.r,e.fr,e.c]=[Z.t,Z.r,Z.fr,Z.c]/\e.to=Z.to/\e.sg=Z.sg/\e.a=Z.a/\e.b=Z.b):=by
 cases e
 cases Z;simp
 constructor
 ·rintro⟨rfl,rfl,rfl,rfl,rfl,rfl,rfl,rfl⟩;simp
 ·rintro⟨⟨rfl,rfl,rfl,rfl⟩,rfl,rfl,rfl,rfl⟩;simp
theorem bq_ev(h:iW H v e)(h':iW H U Z):BqD H (n+2) v U (e=Z):=by
 obtain⟨t,k,rfl,h1,h2⟩:=h;obtain⟨t',O,rfl,W,Y⟩:=h';refine (zw (ps:=[[e.t,e.r,e.fr,e.c]=[Z.t,Z.r,Z.fr,Z.c],e.to=Z.to,e.sg=Z.sg,e.a=Z.a,e.b=Z.b]) h1 W (.cons (Fy (as:=[e.t,e.r,e.fr,e.c]) (bs:=[Z.t,Z.r,Z.fr,Z.c]) h2 Y rfl) (.cons (pS _ _) (.cons (uV _ _) (.cons (pS _ _) (.cons (pS _ _) .nil)))))).iff ?_
 ·rw[Lm];simp only[Hn,Ho,and_true,and_assoc]
theorem bq_wb(h:tX H v p)(h':tX H W Z):BqD H (n+1) v W (p=Z):=by
 obtain⟨t,rfl,h1⟩:=h;obtain⟨t',rfl,Y⟩:=h';refine (zw (ps:=[p.1=Z.1,p.2=Z.2]) h1 Y (.cons (uV _ _) (.cons (pS _ _) .nil))).iff ?_
 ·simp only[Hn,Ho,and_true,Sa]
def WqD(H:Hp)(v:V)(p:Str×List Int):Prop:=∃t l,v=.ref t/\H t=Z8 (.tup [.str p.1,.ref l])/\H l=Z8 (.lst (p.2.map V.int))
theorem bq_wq(h:WqD H v p)(h':WqD H U Z):BqD H (n+2) v U (p=Z):=by
 obtain⟨t,l,rfl,h1,h2⟩:=h;obtain⟨t',O,rfl,W,Y⟩:=h';refine (zw (ps:=[p.1=Z.1,p.2=Z.2]) h1 W (.cons (uV _ _) (.cons (Ll h2 Y) .nil))).iff ?_
 ·simp only[Hn,Ho,and_true,Sa]
theorem wq_d(a:aN (BB H) Z Y)(b:gE H Y qs):aN (WqD H) Z qs:=by
 unfold gE at b
 induction a generalizing qs with
 |nil=>cases b;exact .nil
 |cons x _ W=>
  cases b with
  |cons y b=>
   obtain⟨t,e,h⟩:=x;refine .cons {t,_,e,?_,y.2} (W b);rw[<- y.1];exact h
def WrD(H:Hp)(v:V):Sum (Str×Int) (Str×List Int)->Prop
 |.inl p=>tX H v p
 |.inr p=>WqD H v p
theorem bq_wr:∀{x y:Sum (Str×Int) (Str×List Int)},WrD H v x->WrD H O y->BqD H (n+2) v O (x=y)
 |.inl p,.inl Y,h,h'=>(bq_wb h h').iff #[5]
 |.inr p,.inr Y,h,h'=>(bq_wq h h').iff #[5]
 |.inl p,.inr Y,⟨t,e,h1⟩,⟨t',M,U,Z,W⟩=>by
  subst e U;refine (zw (ps:=[p.1=Y.1,False]) h1 Z (.cons (uV _ _) (.cons (bq_il W) .nil))).iff (by simp only[Hn,Ho,and_true,and_false,reduceCtorEq])
 |.inr p,.inl Y,⟨t,l,e,h1,h2⟩,⟨t',U,Z⟩=>by
  subst e U;refine (zw (ps:=[p.1=Y.1,False]) h1 Z (.cons (uV _ _) (.cons (bq_li h2) .nil))).iff (by simp only[Hn,Ho,and_true,and_false,reduceCtorEq])
theorem wr_d(a:aN (tX H) Y bs)(b:aN (WqD H) Z qs):aN (WrD H) (Y++Z) (bs.map Sum.inl++qs.map Sum.inr):=by
 induction a with
 |nil=>
  show aN (WrD H) Z (qs.map Sum.inr)
  induction b with
  |nil=>exact .nil
  |cons x _ W=>exact .cons x W
 |cons x _ W=>exact .cons x W
theorem Ln:∀{bs Y:List (Str×Int)} {qs Z:List (Str×List Int)},bs.map Sum.inl++qs.map Sum.inr=Y.map Sum.inl++Z.map Sum.inr->bs=Y/\qs=Z
 | [],[],qs,Z,h=>⟨Z9,by
   have h:qs.map Sum.inr=Z.map (Sum.inr (α:=Str×Int)):=h;exact (List.map_inj_right fun a b z=>iu z).mp h⟩
 |a::bs,b::Y,qs,Z,h=>by
  obtain⟨h1,h2⟩:=rp h;obtain⟨V,W⟩:=Ln h2;exact{by rw[qp h1,V],W}
 | [],b::Y,qs,Z,h=>by
  cases qs with
  |nil=>cases h
  |cons q qs=>cases h
 |a::bs,[],qs,Z,h=>by
  cases Z with
  |nil=>cases h
  |cons q qs=>cases h
theorem Hq{r O:Rec}(h:H p=Z8 (.lst (U++W)))(h':H q=Z8 (.lst (Z++Y)))(a:aN (tX H) U r.wb)(b:aN (WqD H) W r.wq)(M:aN (tX H) Z O.wb)(I:aN (WqD H) Y O.wq):BqD H (n+3) (.ref p) (.ref q) (r.wb=O.wb/\r.wq=O.wq):=(wK h h' (wr_d a b) (wr_d M I) fun _ _ _ _ _ _ _ x y=>bq_wr x y).iff {Ln,fun⟨J,D⟩=>by rw[J,D]}
theorem Ob{r Z:Rec}:r=Z↔(r.h=Z.h/\(r.wb=Z.wb/\r.wq=Z.wq)/\r.out=Z.out):=by
 cases r
 cases Z;simp only[Rec.mk.injEq,and_assoc]
theorem RG(h:RcIn H v r)(h':RcIn H g Z):BqD H (n+4) v g (r=Z):=by
 obtain⟨rc,k,wl,od,bw,bz,vs,qa,rfl,h1,h2,h3,h4,h5,h6,h7,h8⟩:=h;obtain⟨bF,k',bI,bH,bW,z,bB,bG,rfl,D,Y,U,M,W,I,J,O⟩:=h';refine (zw (ps:=[[r.h.t,r.h.r,r.h.fr,r.h.c]=[Z.h.t,Z.h.r,Z.h.fr,Z.h.c],r.h.to=Z.h.to,r.h.sg=Z.h.sg,r.h.a=Z.h.a,r.h.b=Z.h.b,r.wb=Z.wb/\r.wq=Z.wq,r.out=Z.out]) h1 D (.cons (Fy (as:=[r.h.t,r.h.r,r.h.fr,r.h.c]) (bs:=[Z.h.t,Z.h.r,Z.h.fr,Z.h.c]) h2 Y rfl) (.cons (pS _ _) (.cons (uV _ _) (.cons (pS _ _) (.cons (pS _ _) (.cons (Hq h3 U h4 (wq_d h5 h6) M (wq_d W I)) (.cons (wK h7 J h8 O fun _ _ _ _ _ _ _ a b=>bq_ev a b) .nil)))))))).iff ?_
 ·rw[Ob,Lm];simp only[Hn,Ho,and_true,and_assoc]
def Rcs(H:Hp)(l:ae)(rs:List Rec):Prop:=∃xs,H l=Z8 (.lst xs)/\aN (RcIn H) xs rs
theorem Oc(h:Rcs H a rs)(h':Rcs H b rs'):BqD H 5 (.ref a) (.ref b) (rs=rs'):=by
 obtain⟨xs,h1,h2⟩:=h;obtain⟨ys,Y,W⟩:=h';exact wK h1 Y h2 W fun i _ _ x y hx hy r Z=>RG r Z
end
theorem Lo(Z:d7 G p):bj (Hid {[],G} G') (Wp p G'):=fun a o e=>by
 refine oy (gF _ _ e) fun z=>?_;subst z;obtain⟨x,y,h⟩:=Z;exact pP e (.inr {_,h,fun xs z=>by cases z})
theorem Hr:eV "min"=Z8 (.builtin "min"):=by decide +kernel
theorem Eg{xs:List Int}(hp:H p=Z8 (.lst (xs.map V.int)))(hq:H q=Z8 (.lst (xs.map V.int))):TEq H (n+1) (.ref p) (.ref q):=
 .inr (.inl ⟨p,q,_,_,Z9,Z9,hp,hq,by
  clear hp hq
  induction xs with
  |nil=>exact .nil
  |cons x xs Z=>
   refine .cons ?_ Z
   cases n with
   |zero=>exact⟨trivial,Z9⟩
   |succ n=>exact .inl ⟨trivial,Z9⟩⟩)
def BxV(F:Hp)(v:V):Prop:=∃(t bl:ae) (W U Y O:V) (Z:List V),v=.ref t/\F t=Z8 (.tup [W,.ref bl,U,Y,O])/\F bl=Z8 (.lst Z)/\Z.length<=9/\∀u∈Z,∃a x y,u=V.ref a/\F a=Z8 (.tup [.str x,y])
theorem BxV.same(s:bj F G)(h:BxV F v):BxV G v:=by
 obtain⟨t,bl,W,O,Y,M,U,e,h1,h2,l,Z⟩:=h;refine{t,bl,W,O,Y,M,U,e,s _ _ h1,s _ _ h2,l,fun u hu=>?_};obtain⟨a,x,y,e,z⟩:=Z u hu;exact{a,x,y,e,s _ _ z}
def RdW(Ms:List MD)(rs:List Rec):Prop:=∀r∈rs,∃M∈Ms,∃w,r.wb=wrB M.bs w/\r.wq=wrQ M.qs w
theorem RH:RdW Ms (iK Ms r).2:=by
 unfold iK
 split
 ·intro r h
  cases h
 ·split
  ·rename_i M s hM hs
   split
   ·intro r h
    cases h
   ·intro r h;rw[aK.mp h];exact{M,bC hM,_,Z9,Z9}
  ·intro r h
   cases h
theorem RJ:∀n,RdW Ms (itR Ms r n).2
 |0=>fun r h=>by cases h
 |n+1=>fun x h=>(cj.mp h).elim (RJ n x) (RH x)
theorem qU.few(h:qU CM Ms H m)(w:RdW Ms rs):∀r∈rs,(wrN r).length<=1000:=fun r V=>by
 obtain⟨dx,I,fs,_,_,xs,_,p⟩:=h;obtain⟨M,U,Z,W,O⟩:=w r V;obtain⟨j,Y⟩:=c9 U;obtain⟨x,_,z⟩:=gC p Y;have J:=z.lb;have D:=z.lq;unfold wrN;rw[au,ah,ah,W,O,wrB,wrQ,ah,ah];have:=jB (fun x=>decide (x∈Z.wr)) M.bs;have:=jB (fun x=>decide (x∈Z.wr)) M.qs;omega
section
variable{P:aI}{w:aY}{K:ag}{mg:Str->Option af}{base:cb}{f fP fD fW fMs fSs fSg fMI fPl fLo fRs CM CS CB:ae}{fd fdP fdD fdW fdMs fdSs fdSg fdMI fdPl fdLo fdRs:bY}
seal PS PSs PE PA PT PW PI PG PGs PC
abbrev nL:List Str:=["_law_script","_law_purse_here","_law_machines_here","_law_signs_here","_law_model","_law_records","_law_k","_law_time","_law_longer","_law_place","_law_at","_law_box","_law_worth_here","_law_due"]
abbrev pL:List Str:=["_law_script"]
theorem scL:bM nL pL (aR Jf):=e7
inductive Lp(K:ag)(vs:List V)(H:Hp)(Q:VK)(_e:XK):Prop where
 |mk(a:ae)(ns:List Int)(_:vs=[.ref a])(_:SqL K H a (ns.map V.int))(_:ns.length<=63)(_:(∀x∈ns,fg x<=1048576))(_:∀H',Q (.bl true) H'):Lp K vs H Q _e
def Fz(K:ag):Sp:=fun vs H Q Z=>Lp K vs H Q Z
theorem RK(D:Df K mg "law" Jf pL f fd)(DP:Df K mg "_law_purse" oh ["_law_script"] fP fdP)(GP:bN P w K mg base CX0 2 fP fdP ["_law_script"] (Fd K))(DD:Df K mg "_law_draw" eS pD fD fdD)(DW:Df K mg "_law_worth" fX pW fW fdW)(io:Df K mg "_law_machines" iT pMs fMs fdMs)(lc:bN P w K mg base CX0 14 fMs fdMs pMs spMs)(kw:Df K mg "_law_signs" lI pSs fSs fdSs)(jp:bN P w K mg base CX0 4 fSs fdSs pSs spSs)(ll:Df K mg "_law_sign" mZ pSg fSg fdSg)
  (jl:Mk K CM fMI) (ja:bN P w K mg base CX0 31 fMI fdMI ["self","machines"] (spMI CM 29)) (kq:Binds K fdMI ["self","machines"] []) (ls:Df K mg "plain" wy ["model","signs","most"] fPl fdPl) (lp:bN P w K mg base CX0 40 fPl fdPl ["model","signs","most"] (O6 CM CS CB))
  (lz:Df K mg "leans_on" pH pLo fLo fdLo) (ly:bN P w K mg base CX0 38 fLo fdLo pLo (spLo CM)) (mS:Df K mg "reasons" rg pRs fRs fdRs) (nw:bN P w K mg base CX0 38 fRs fdRs pRs (spRs CM)) (TM:MdT K mg CM CS) (TB:BkT K mg CB) (B:Bl mg) (MM:mg "min"=Z7):bN P w K mg base CX0 41 f fd pL (Fz K):=by
 have GD:bN P w K mg base CX0 1 fD fdD pD kY:=lA DD;have js:bN P w K mg base CX0 3 fSg fdSg pSg Ro:=Pf ll DD DW B;refine D.F.ok scL #[3] (fun hY A outer s H vs Q E hr h=>?_)
 ·obtain⟨a,ns,rfl,_⟩:=h;rfl
 obtain⟨sa,ns,rfl,kv,ku,jb,fin⟩:=h;have oi:=IS hr;have r1:dJ 1 _:=hr.mono (by decide);have r2:dJ 2 _:=hr.mono (by decide);have r3:dJ 3 _:=hr.mono (by decide);have r4:dJ 4 _:=hr.mono (by decide);have ld:dJ 14 _:=hr.mono (by decide);have kt:dJ 32 _:=hr.mono (by decide);have ow:dJ 38 _:=hr.mono (by decide);have mz:dJ 40 _:=hr;refine⟨_,ar (pst 1 scL (pcl GP r2 DP (bE (pv 0) ao)))
  (ar (pst 2 scL (pcl lc ld io (bE (pv 1) ao)))
  (ar (pst 3 scL (pcl jp r4 kw (bE (pv 1) (jA (cS (e9 K #[7]) #[7] B.len cA (bE (pv 2) ao)) ao))))
  (ar (pst 4 scL (q8 jl ja kt #[7] TM.mM kq .nil jV (bE (pv 2) ao)))
  (ar (pst 5 scL (iC K #[7] (pcl lp mz ls (bE (pv 4) (bE (pv 3) (jA (pcl GD r1 DD (bE (pv 1) (dR aA ao))) ao)))) #[7]))
  (ar (pst 6 scL (pcl GD r1 DD (bE (pv 1) (sR (cM ie (cS (e9 K #[7]) #[7] B.len cA (bE (pv 5) ao)) aA) ao))))
  (ar (pst 7 scL aA)
  (ar (cR (bO rL (pv 6) aA) (aF (pst 7 scL (cS (FK rfl) #[7] MM Hr (sR (cM sj aA aA) (sR (cM ie (bR cv (bR cv (bR dD (pv 5) (cM lP (pv 6) aA)) aA) aA) aA) ao))))) b9)
  (ar (pst 8 scL (iC K #[7] (pcl lp mz ls (bE (pv 4) (sR (cM sJ (pv 3) (eO (sR (cM Et (dX (bE (pv 7) ao)) (jG Il (pcl js r3 ll (bE (pv 1) (jA (cS (e9 K #[7]) #[7] B.len cA (bE (pv 2) ao)) ao))) (kD aA) kC)) ao))) (jA (cS (e9 K #[7]) #[7] B.len cA (bE (pv 5) ao)) ao)))) #[7]))
  (ar (iE cw rfl (je #[7] B.range (jA (cS (e9 K #[7]) #[7] B.len cA (bE (pv 5) ao)) ao)) (pgn 9 scL) (aF (cR (bO (C0 oi) (pcl ly ow lz (bE (pv 4) (m9 (jG mh (pv 5) kC (kD (cM ie (pv 9) aA))) (bE (pv 9) ao)))) (pcl ly ow lz (bE (pv 4) (bE (pv 5) (bE (pv 9) ao))))) (aF (bQ oG)) b9)))
  (ar (iE cw rfl (je #[7] B.range (jA (cS (e9 K #[7]) #[7] B.len cA (bE (pv 2) ao)) ao)) (pgn 10 scL) (aF (iE cw rfl (hV (bR cv (bR dD (pv 2) (pv 10)) aA)) (rY rfl (iw (pgn 11 scL) (iw (pgn 12 scL) o8))) (ar (pst 13 scL (pcl nw ow mS (bE (pv 4) (bE (pv 5) (bE (pv 6) (bE (pv 10) (bE (pv 11) ao)))))))
  (ar (cR (bO (C0 oi) (pcl nw ow mS (bE (pv 4) (m9 (jG mh (pv 5) kC (kD (pv 6))) (bE (pv 6) (bE (pv 10) (bE (pv 11) ao)))))) (pv 13)) (aF (bQ oG)) b9)
  (aF (cR ((oz (bO (RD oi) (jG mh (pv 8) kC (kD (pv 6))) (jG mh (pv 5) kC (kD (pv 6)))) (l8 (bO (C0 oi) (pcl nw ow mS (bE (pv 4) (bE (pv 8) (bE (pv 6) (bE (pv 10) (bE (pv 11) ao)))))) (pv 13)))).pt) (aF (bQ oG)) b9)))))))
  (aF (bQ oG)))))))))))),?_⟩
 dsimp only[cxA,cxB];have big:=eJ
 -- the purse, the machines, the signs
 refine jX fun _ U=>cV {_,Z9,sa,ns,Z9,kv,ku,jb,fun p H1 np nt J=>gk U ?_};refine jX fun _ U=>cV {_,Z9,p,Z9,nt,fun ml xs Ms H2 po mF m0 m6 nu nh b2=>gk U ?_};have lx:=aL mF;refine jX fun _ U=>cV {_,Z9,_,Z9,ml,_,Z9,.inl (SqL.of po),p,Ms.length,(by show [V.ref p,V.int (xs.length:Int)]=_;rw[lx]),nh,m0,by omega,fun ol ka es H3 md ln hH mt mv pr b3=>gk U ?_};have pG:=b3 _ _ po nu;have pm:=Paired.mono (fun v M z=>MIn.but nt nh b3 z) mF;clear mF po b2 nh b3 J
 -- the aS
 refine jX fun _ U=>cV (Dt {_,Z9,fun m pu hm mq li=>?_});have sA:bj H3 (upd (upd H3 pu (.own m)) m (.ins CM pu [])):=fun b o e=>by
  rw[aQ (aJ e hm),aQ (aJ e mq)];exact e
 have ph:aN (MIn Ms.length H1 (upd (upd H3 pu (.own m)) m (.ins CM pu []))) xs Ms:=Paired.mono (fun v M z=>by
  obtain⟨t,e,y⟩:=z;exact{t,e,y.same sA}) pm
 refine{m,pu,.ref ml,Z9,ak,Nt (sA _ _ pG) ph #[2],fun v' G5 s5 al=>{Z9,gk U ?_}};obtain⟨la,rfl,mD⟩:=Nu (sA _ _ pG) ph al;have O:bj H3 (upd G5 m (.ins CM pu (dO "machines" (.ref la) []))):=qQ (sA.trans s5) hm _
 -- how many records
 refine jX fun _ U=>cV {_,Z9,_,Z9,_,Z9,p,25,Z9,pr.same O,by decide,by decide,fun lf G6 ix im pb b6=>?_};have pn:H3 p≠Z7:=fun z=>by
  obtain⟨x,y,e⟩:=pr;rw[z]at e
  cases e
 have M6:qU CM Ms (Wp p G6) m:=(mo_h hm li pn mD b6).same (Lo pr);have R6:Rn CM Ms es (Wp p G6) m ol:=⟨M6,by omega,⟨ka,oy (b6 _ _ (O _ _ md) mv) mv,Paired.mono (fun v e z=>by
  obtain⟨t',e',h⟩:=z.same O;have h':=dW.but (pr.same O) b6 _ _ h (lU _);refine{t',e',oy h' fun z=>?_};obtain⟨x,y,h2⟩:=pb;rw[z,h2]at h'
  cases h') ln⟩,by omega,mt⟩
 have ob:Wp p G6 ml=Z8 (.lst xs):=oy (b6 _ _ (O _ _ pG) nu) nu;have lv:∀v∈xs,BxV (Wp p G6) v:=fun v hv=>by
  obtain⟨q,hq⟩:=c9 hv;obtain⟨M,_,t,rfl,mc⟩:=jU pm hq;obtain⟨bl,ql,dl,hl,vb,ih,e1,e2,e3,_,_,_,_,n1,_⟩:=mc.ex;have lw:bl≠p:=fun z=>by
   obtain⟨x,y,e⟩:=nt;rw[z,e]at n1
   cases n1
  have tp:∀{a:ae} {ys:List V},H3 a=Z8 (.tup ys)->Wp p G6 a=Z8 (.tup ys):=fun {a ys} e=>by
   have h':=dW.but (pr.same O) b6 _ _ (O _ _ e) (lU _);refine oy h' fun z=>?_;obtain⟨x,y,h2⟩:=pb;rw[z,h2]at h'
   cases h'
  refine{t,bl,_,_,_,_,vb,Z9,tp e1,oy (b6 _ _ (O _ _ e2) lw) lw,?_,fun u hu=>?_}
  ·have:=ic.length e3;have:=congrArg i5 mc.kb;rw[ah]at this;have:=mc.lb;omega
  ·obtain⟨q,hq⟩:=c9 hu;obtain⟨y,hy,a,rfl,z⟩:=gC e3 hq;rw[bT]at hy;obtain⟨pp,_,rfl⟩:=dI.mp hy;exact{a,pp.1,_,Z9,tp z}
 clear al s5 hm mq li md ln pn mD ph pm sA O b6 pG pr;have mo:=M6.ok;refine Kc ?_;have pw:=R6.same (wJ p G6);obtain⟨mn,nQ,nB⟩:=pw.sg;refine{Ms,m,ol,mn,es,lf,Z9,pw.mo,pw.lm,nQ,nB,pw.le,pw.ev,by omega,fun G7 b i e s7 mG bk=>?_};obtain⟨ki,rl,sl,en,W,ss,g1,g2,g3,_⟩:=bk.ex;refine{b,CB,ki,_,_,Z9,gF _ _ g1,TB.cl,TB.nR,bk_r _ _ _,gk U ?_};have few:=zv mo mG ix;have rd:=BU mo mG;have no:=RJ (Ms:=Ms) (r:=vI Ms es) i;have hw:=Lo (G':=G7) pb;have oT:=hw _ _ g2;have I:=Paired.mono (fun _ _ z=>RcIn.same hw z) g3;have ou:=Fw (p:=p) s7;have M7:=M6.same ou;have R7:=R6.same ou;have mu:=fun v hv=>(lv v hv).same ou;have nG:=ou _ _ ob;have lk:=pb.same s7;have nI:(itR Ms (vI Ms es) i).2.length<=24:=by omega
 revert rd no I nI;clear g1 g2 g3 bk mG few;generalize (itR Ms (vI Ms es) i).2=rs;intro rd no I nI;have lr:=aL I;clear M6 R6 ob lv ou hw pw nQ nB s7 pb;have ma:=wJ p G7
 -- how many of them
 refine jX fun _ U=>cV {_,Z9,_,Z9,rl,W,Z9,.inl (SqL.of (ma _ _ oT)),_,_,Z9,Z9,p,(W.length:Int)+1,Z9,lk,by omega,by omega,fun kI G8 k0 k1 mL b8=>gk U ?_};obtain⟨k,rfl⟩:∃k:Nat,kI=(k:Int):={kI.toNat,by omega};have qa:=b8.wp;have M8:=M7.same qa;have R8:=R7.same qa;have lq:=fun v hv=>(mu v hv).same qa;have pc:=qa _ _ nG;have pi:=qa _ _ oT;have oL:=Paired.mono (fun _ _ z=>RcIn.same qa z) I;have ov:=wJ p G8;clear M7 R7 mu nG oT I qa b8 lk ma;refine jX fun _ U=>cV (gk U ?_);have c6:Cg 10 6:={by decide,by decide,by decide};refine xJ (fun kB G=>∃tm:Int,kB=[Z8 (.ref sa),Z8 (.ref p),Z8 (.ref ml),Z8 (.ref ol),Z8 (.ref m),Z8 (.ref rl),Z8 (.int k),Z8 (.int tm),Z7,Z7,Z7,Z7,Z7,Z7]/\Wo tm/\G=G8) ?_ ?_
 rotate_left
 ·intro N hN;refine gs {_,Z9,_,_,Z9,Z9,_,Z9,gA (fun c=>?_) (fun _=>hN _ _ {0,Z9,rq (by decide),Z9})};have c:(k:Int)>0:=of_decide_eq_true c;obtain⟨k',rfl⟩:∃k',k=k'+1:={k-1,by omega};obtain⟨v,hv⟩:∃v,W[k']?=Z8 v:={_,aw #[2]};obtain⟨r,ky,rc,kk,wl,od,hR,hT,hO,hQ,rfl,h1,h2,_⟩:=jU oL hv;obtain⟨M,hL,w',so⟩:=rd k' r ky;have wt:=so.ev.wt;refine cV {_,_,Z9,Z9,c6,_,Z9,_,Z9,_,_,Z9,Z9,rl,_,_,_,Z9,Z9,SqL.of (ov _ _ pi),by rw[show (((k'+1:Nat):Int)-1)=(k':Int) by omega];exact iO hv,rc,_,_,_,Z9,Z9,SqT.of (ov _ _ h1),Z9,kk,_,_,_,Z9,Z9,SqT.of (ov _ _ h2),Z9,_,_,Z9,Z9,_,_,Z9,bU (hN _ _ {_,Z9,?_,Z9})};have e6:(10:Int)^(Int.toNat 6)=1000000:=by decide
  unfold Wo at wt |-;rw[e6]
  split<;>omega
 rintro _ _ ⟨tm,rfl,kz,rfl⟩;refine jX fun _ U=>cV {_,Z9,_,Z9,_,Z9,yl,fun t1 nf=>?_};have J:=aG nf (.tup [.int tm]);have nH:=oF nf (.tup [.int tm]);refine{_,Z9,_,Z9,ml,xs,Z9,.inl (SqL.of (J _ _ (ov _ _ pc))),p,Ms.length,(by show [V.ref p,V.int (xs.length:Int)]=_;rw[lx]),mL.same J,m0,by omega,fun ii Z Ga kc oe hS ba=>?_};obtain⟨t0,rfl,mf⟩:=kc;have wa:=(Fw (p:=p) J).trans ba.wp;have nD:Ga t1=Z8 (.tup [.int tm]):=dW.but (mL.same J) ba _ _ nH (lU _);have M9:=M8.same wa;have R9:=R8.same wa;have lh:=fun v hv=>(lq v hv).same wa;have nT:=wa _ _ pc;have pg:=wa _ _ pi;have nE:=Paired.mono (fun _ _ z=>RcIn.same wa z) oL;have lg:=wJ p Ga;clear M8 R8 lq pc pi oL wa ba mL J nf nH ov;refine{_,Z9,t0,_,Z9,SqT.of mf,(by show ¬(HT.sIx 6 0 (Z8 1)=0/\HT.sIx 6 6 Z7=6);decide),fun t2 mb=>?_};have s2:=aG mb (.tup (me [.int Z.t,.int Z.r,.int Z.to,.str Z.sg,.int Z.a,.int Z.b] (Z8 1) Z7));refine{t1,t2,_,_,Z9,Z9,SqT.of (s2 _ _ nD),SqT.of ak,(by intro z;cases z),(by show 6<=aD;omega),(fun z=>by cases z),fun _ t3 my=>{yl,fun l3 mW=>?_}};have s3:=aG my (.tup ([.int tm]++me [.int Z.t,.int Z.r,.int Z.to,.str Z.sg,.int Z.a,.int Z.b] (Z8 1) Z7));have s4:=aG mW (.lst [.ref t3]);have lM:=(s2.trans s3).trans s4;have nM:upd (upd (upd Ga t2 (.tup (me [.int Z.t,.int Z.r,.int Z.to,.str Z.sg,.int Z.a,.int Z.b] (Z8 1) Z7))) t3 (.tup ([.int tm]++me [.int Z.t,.int Z.r,.int Z.to,.str Z.sg,.int Z.a,.int Z.b] (Z8 1) Z7))) l3 (.lst [.ref t3]) t3=Z8 (.tup [.int tm,.int Z.r,.int Z.to,.str Z.sg,.int Z.a,.int Z.b]):=s4 _ _ ak;have nO:=oF mW (.lst [.ref t3]);obtain⟨pk,nS,ot⟩:=R9.sg;have hP:=aL ot;have sB:=lg.trans lM;refine{ol,l3,pk,[.ref t3],Z9,Z9,sB _ _ nS,nO,by show _+1<=_;omega,fun l4 os=>?_};have s5:=aG os (.lst (pk++[.ref t3]));have sC:=sB.trans s5;refine{_,Z9,rl,W,Z9,.inl (SqL.of (sC _ _ pg)),?_};refine{Ms,m,l4,pk++[.ref t3],es++[{tm,Z.r,0,0,Z.to,Z.sg,Z.a,Z.b}],W.length,Z9,M9.same sC,by omega,ak,dy (Paired.mono (fun _ _ z=>xu.same sC z) ot) {t3,Z9,s5 _ _ nM},by rw[au];show _+1<64;omega,fun e' kh=>?_,by omega,fun G b' i' e' sG na mm=>?_}
 ·rcases cj.mp kh with z|z
  ·exact mt e' z
  ·rw[aK.mp z];exact⟨oe.to0,oe.to1,kz,oe.wa,oe.wb⟩
 obtain⟨lj,pa,hK,hI,py,hX,g1,g2,g3,_⟩:=mm.ex;refine{b',CB,lj,_,_,Z9,gF _ _ g1,TB.cl,TB.nR,bk_r _ _ _,gk U ?_};have sD:=sC.trans sG;have hM:=M9.same sD;have po:=sD _ _ nT;have bx:=fun v hv=>(lh v hv).same sD;have pq:=sD _ _ pg;have pf:=Paired.mono (fun _ _ z=>RcIn.same sD z) nE;have nz:=gF _ _ g2;have g:=Paired.mono (fun _ _ z=>RcIn.same gF z) g3;have few2:=zv mo na #[2];have nb:=BU mo na;have nq:=RJ (Ms:=Ms) (r:=vI Ms (es++[{tm,Z.r,0,0,Z.to,Z.sg,Z.a,Z.b}])) i';have oD:(itR Ms (vI Ms (es++[{tm,Z.r,0,0,Z.to,Z.sg,Z.a,Z.b}])) i').2.length<=24:=by omega
 revert nb nq g oD;clear g1 g2 g3 mm na few2;generalize (itR Ms (vI Ms (es++[{tm,Z.r,0,0,Z.to,Z.sg,Z.a,Z.b}])) i').2=rs';intro g nb nq oD;have il:=aL g;clear sD sC s5 sB nO nM lM s4 s3 s2 M9 R9 lh nT pg nE lg sG os mW my mb nD mf nS ot;have nP:=hM.few no;have mx:=hM.few nq
 -- each record leans on the same
 refine jX fun _ U=>{_,Z9,rl,W,Z9,.inl (SqL.of pq),(W.length:Int),Z9,by omega,by omega,?_};refine xr (n:=W.length) (fun q σ G'=>∃u9:Option V,σ=[Z8 (.ref sa),Z8 (.ref p),Z8 (.ref ml),Z8 (.ref ol),Z8 (.ref m),Z8 (.ref rl),Z8 (.int k),Z8 (.int tm),Z8 (.ref pa),u9,Z7,Z7,Z7,Z7]/\bj G G') {_,Z9,bj.refl _} ?_ ?_
 ·rintro zN zB zH q σ G' hq ⟨u9,rfl,Y⟩;refine bU ?_;rw[vJ];dsimp only;refine gs {_,Z9,_,Z9,_,Z9,_,_,Z9,Z9,_,Z9,rl,_,Z9,SqL.of (Y _ _ pq),fun l hl=>?_};rw[show ((q:Int)+1)=((q+1:Nat):Int) from by omega,sT];have J:=Y.trans (aG hl (.lst (W.take (q+1))));refine{_,Z9,Ms,m,l,q,W.take (q+1),rs.take (q+1),Z9,hM.same J,by omega,ak,jN _ (Paired.mono (fun _ _ z=>z.same J) pf),by rw[bD];omega,rd.take _,by rw[bD];omega,fun G1 a1 s2 n2 e1=>?_};rw[oq,qW]at e1;have s3:=J.trans s2;refine{_,Z9,_,Z9,_,Z9,Ms,m,rl,q,W,rs,Z9,hM.same s3,by omega,s3 _ _ pq,Paired.mono (fun _ _ z=>z.same s3) pf,by omega,rd,by omega,fun G2 a2 s4 n4 e2=>?_};exact{1,by decide,Eg (s4 _ _ e1) e2,_,Z9,gz (zH _ _ _ {_,Z9,s3.trans s4})}
 rintro σ G' ⟨u9,rfl,Y⟩;refine U _ _ ?_
 -- each box holds it for the same reasons
 refine jX fun _ U=>{_,Z9,ml,xs,Z9,.inl (SqL.of (Y _ _ po)),(xs.length:Int),Z9,by omega,by omega,?_};refine xr (n:=xs.length) (fun q σ G'=>∃nn qd pM pZ:Option V,σ=[Z8 (.ref sa),Z8 (.ref p),Z8 (.ref ml),Z8 (.ref ol),Z8 (.ref m),Z8 (.ref rl),Z8 (.int k),Z8 (.int tm),Z8 (.ref pa),u9,nn,qd,pM,pZ]/\bj G G') {_,_,_,_,Z9,Y} ?_ ?_
 ·clear Y;rintro zN zB zH q σ G' hq ⟨nn,qd,pM,pZ,rfl,Y⟩;refine bU ?_;rw[vJ];dsimp only;obtain⟨v,hv⟩:∃v,xs[q]?=Z8 v:={_,aw #[2]};obtain⟨t,bl,Z,x2,x3,x4,vb,rfl,h1,h2,l9,h3⟩:=bx v (bC hv);refine{_,Z9,_,Z9,ml,_,_,_,Z9,Z9,SqL.of (Y _ _ po),iO hv,t,_,_,_,Z9,Z9,SqT.of (Y _ _ h1),Z9,bl,Z9,{_,SqL.of (Y _ _ h2)},?_};refine rm (K:=K) (a:=bl) (xs:=vb) (fun j σ G'=>∃qd pM pZ:Option V,σ=[Z8 (.ref sa),Z8 (.ref p),Z8 (.ref ml),Z8 (.ref ol),Z8 (.ref m),Z8 (.ref rl),Z8 (.int k),Z8 (.int tm),Z8 (.ref pa),u9,Z8 (.int q),qd,pM,pZ]/\bj G G') {_,_,_,Z9,Y} ?_ ?_ ?_
  ·rintro j σ G' _ ⟨_,_,_,rfl,Y⟩;exact SqL.of (Y _ _ h2)
  ·clear Y;rintro zM zC zJ j u σ G' hj ⟨qd,pM,pZ,rfl,Y⟩;obtain⟨a,x,y,rfl,h4⟩:=h3 u (bC hj);refine{a,_,Z9,SqT.of (Y _ _ h4),Z9,_,_,Z9,bU {_,_,Z9,bU {Z9,?_}}};dsimp only;refine jX fun _ U=>cV {_,Z9,_,Z9,_,Z9,_,Z9,_,Z9,Ms,m,rl,k,q,x,W,rs,Z9,hM.same Y,by omega,Y _ _ pq,Paired.mono (fun _ _ z=>z.same Y) pf,by omega,nP,rd,fun G1 a1 J n1 e1=>gk U ?_};have J:=Y.trans J;clear Y;refine jX fun _ U=>gs {_,Z9,_,Z9,_,Z9,_,Z9,rl,_,Z9,SqL.of (J _ _ pq),fun l hl=>?_};rw[sT];have s2:=aG hl (.lst (W.take k));have nd:=J.trans s2;refine{_,Z9,_,Z9,_,Z9,Ms,m,l,k,q,x,W.take k,rs.take k,Z9,hM.same nd,by omega,ak,jN _ (Paired.mono (fun _ _ z=>z.same nd) pf),by rw[bD];omega,fun r hr=>nP r (rR hr),rd.take _,fun G2 a2 s3 n3 e2=>?_};rw[xU]at e2;have oc:=s2.trans s3;have nl:=J.trans oc;refine{_,Z9,1,by decide,Eg e2 (oc _ _ e1),_,Z9,gz ?_};refine U _ _ ?_;have ke:=oc _ _ e1;clear e1 e2 s2 nd s3 hl n1 n3 J oc;refine gs {_,Z9,_,Z9,_,Z9,pa,_,Z9,SqL.of (nl _ _ nz),fun l hl=>?_};rw[sT];have s4:=aG hl (.lst (py.take k));have os:=oF hl (.lst (py.take k));refine{_,Z9,_,Z9,_,Z9,rl,_,Z9,SqL.of (s4 _ _ (nl _ _ pq)),fun l5 kG=>?_};rw[sT];have s5:=aG kG (.lst (W.take k));have s6:=nl.trans (s4.trans s5);obtain⟨bb,hb,eb⟩:=Oc (H:=upd (upd G2 l (.lst (py.take k))) l5 (.lst (W.take k))) (a:=l) (b:=l5) (rs:=rs'.take k) (rs':=rs.take k) {_,s5 _ _ os,jN _ (Paired.mono (fun _ _ z=>z.same s6) g)} {_,ak,jN _ (Paired.mono (fun _ _ z=>z.same s6) pf)};refine{5,l,l5,bb,by decide,Z9,Z9,hb,_,Z9,?_}
   cases bb with
   |false=>exact gz (gz (zJ _ _ _ {_,_,_,Z9,s6}))
   |true=>
    have eq:=eb.mp rfl;refine iU ?_;refine{_,Z9,_,Z9,_,Z9,_,Z9,_,Z9,Ms,m,pa,k,q,x,py,rs',Z9,hM.same s6,by omega,s6 _ _ nz,Paired.mono (fun _ _ z=>z.same s6) g,by omega,mx,nb,fun G3 a3 s7 n7 e3=>?_};rw[Lb eq]at e3;exact{_,Z9,1,by decide,Eg e3 ((s4.trans (s5.trans s7)) _ _ ke),_,Z9,gz (zJ _ _ _ {_,_,_,Z9,s6.trans s7})}
  ·rintro σ G' ⟨qd,pM,pZ,rfl,Y⟩;exact zH _ _ _ {_,_,_,_,Z9,Y}
 ·rintro σ G' ⟨nn,qd,pM,pZ,rfl,Y⟩;exact U _ _ (fin _)
end
def pU(CN CG V Y W Z:ae):Flt->ae
 |.nought=>CN
 |.great=>CG
 |.full=>V
 |.dry=>Y
 |.span=>W
 |.late=>Z
end My
namespace My
theorem FA{P:Flt->Prop}(a:P .nought)(b:P .great)(c:P .full)(d:P .dry)(e:P .span)(f:P .late):∀x,P x
 |.nought=>a
 |.great=>b
 |.full=>c
 |.dry=>d
 |.span=>e
 |.late=>f
end My
namespace My
open PySem L2
theorem uf{α:Type}{us:List α}(h:us.length=n+1):∃a l,us=a::l/\l.length=n:=by
 cases us with
 |nil=>cases h
 |cons a l=>exact{a,l,Z9,zl h}
theorem AE{α:Type}{us:List α}(h:us.length=1):∃a,us=[a]:=by
 obtain⟨a,l,rfl,h⟩:=uf h
 cases l with
 |nil=>exact⟨a,Z9⟩
 |cons b l=>cases h
theorem AF{α:Type}{us:List α}(h:us.length=2):∃a b,us=[a,b]:=by
 obtain⟨x,l,rfl,h'⟩:=uf h;obtain⟨a1,rfl⟩:=AE h';exact⟨x,a1,Z9⟩
theorem AG{α:Type}{us:List α}(h:us.length=3):∃a b c,us=[a,b,c]:=by
 obtain⟨x,l,rfl,h'⟩:=uf h;obtain⟨a1,Z,rfl⟩:=AF h';exact⟨x,a1,Z,Z9⟩
theorem AH{α:Type}{us:List α}(h:us.length=4):∃a b c d,us=[a,b,c,d]:=by
 obtain⟨x,l,rfl,h'⟩:=uf h;obtain⟨a1,Y,Z,rfl⟩:=AG h';exact⟨x,a1,Y,Z,Z9⟩
theorem FB{α:Type}{us:List α}(h:us.length=5):∃a b c d e,us=[a,b,c,d,e]:=by
 obtain⟨x,l,rfl,h'⟩:=uf h;obtain⟨a1,W,Y,Z,rfl⟩:=AH h';exact⟨x,a1,W,Y,Z,Z9⟩
def Dn(K:ag)(x:Str)(st:df)(f:ae):Prop:=cq K bP x=Z8 (Z8 (.ref f))/\∃fd,Fun K x x st f fd
def Mn(K:ag)(C:ae)(x q:Str)(st:df)(f:ae):Prop:=(aZ K (.ref C) x=Z8 (Z8 (.ref f))/\pj K (.ref f)=true)/\∃fd,Fun K x q st f fd
structure Cn(K:ag)(C:ae):Prop where
 c:Cls K C
 m:vB K C=true
 k:gX K (.ref C)=true
theorem dn_i{kV V U Z ct:af}(a:cq K bP x=Z8 (Z8 (.ref f)))(l:K.lookup f=Z8 {W,od,.func (fu x x (mi st) (j6 st) (aR st) .none kV V U Y Z ct),sl})(c:kA K Z x=true)(k:gX K (.ref f)=true):Dn K x st f:={a,_,IB l c k}
theorem mn_i{kV V U Z ct:af}(a:aZ K (.ref C) x=Z8 (Z8 (.ref f)))(i:pj K (.ref f)=true)(l:K.lookup f=Z8 {W,od,.func (fu x q (mi st) (j6 st) (aR st) .none kV V U Y Z ct),sl})(c:kA K Z q=true)(k:gX K (.ref f)=true):Mn K C x q st f:={⟨a,i⟩,_,IB l c k}
theorem dfx{K:ag}{h:cb}{mg:Str->Option af}{x:Str}{st:df}{f:ae}(ps:List Str)(X:K.In h)(G:h.Ns bP mg)(a:Dn K x st f)(hb:∀(kV W U:af) (V:Option ae) (Y ct:af) (us:List af),us.length=ps.length->Cs (fu x x (mi st) (j6 st) (aR st) .none kV W U V Y ct) {us,[]}=pure (ps.zip us):=by intro _ _ _ _ _ _ us Z;first|(obtain⟨a,rfl⟩:=AE Z;rfl)|(obtain⟨a,b,rfl⟩:=AF Z;rfl)|(obtain⟨a,b,c,rfl⟩:=AG Z;rfl)|(obtain⟨a,b,c,d,rfl⟩:=AH Z;rfl)|(obtain⟨a,b,c,d,e,rfl⟩:=FB Z;rfl)):∃fd,Df K mg x st ps f fd:=by
 obtain⟨a,fd,F⟩:=a;exact{fd,F,F.binds hb,eX X G a}
theorem mfx{K:ag}{x q:Str}{st:df}{f C:ae}(ps:List Str)(a:Mn K C x q st f)(hb:∀(kV W U:af) (V:Option ae) (Y ct:af) (us:List af),us.length=ps.length->Cs (fu x q (mi st) (j6 st) (aR st) .none kV W U V Y ct) {us,[]}=pure (ps.zip us):=by intro _ _ _ _ _ _ us Z;first|(obtain⟨a,rfl⟩:=AE Z;rfl)|(obtain⟨a,b,rfl⟩:=AF Z;rfl)|(obtain⟨a,b,c,rfl⟩:=AG Z;rfl)|(obtain⟨a,b,c,d,rfl⟩:=AH Z;rfl)|(obtain⟨a,b,c,d,e,rfl⟩:=FB Z;rfl)):∃fd,Fun K x q st f fd/\Binds K fd ps []/\zG K C x f:=by
 obtain⟨⟨a,i⟩,fd,F⟩:=a;exact{fd,F,F.binds hb,a,i,F.kp}
theorem law_b(F:Fun K x q st f fd)(hb:∀(kV Y V:af) (W:Option ae) (Z ct v:af),Cs (fu x q (mi st) (j6 st) (aR st) .none kV Y V W Z ct) {[v],[]}=pure [(y,v)])(s:ai)(v:af):uY s fd {[v],[]} [(y,v)]:=by
 obtain⟨O,od,kV,Y,V,W,Z,ct,U,rfl,_⟩:=F.ex;exact .of_eq (hb kV Y V W Z ct v)
theorem all_mk{l:vE}{fa f1 f2 f3 f4 f5 f6 f7 f8 f9 di da hm du hy hx ek gS dq hp fe el hd hA hk dn dg hr cs ei hD dt eL gd dL dp db dV ef dz hB em ed gq gg CM hl CS hc cx CD gt dw ey fG ft CB hq CC ej ee fz CN CG U V M O CF:ae}(X:K.In h)(G:h.Ns bP mg)(eH:mg "law"=Z8 (.ref fa))
  (a1:Dn K "worth_of" mT f1) (a2:Dn K "number_of_leaf" gT f2) (a3:Dn K "number_of_two" ir f3) (a4:Dn K "number_of_division" eI f4) (a5:Dn K "done" z9 f5) (a6:Dn K "doing_of" mU f6) (a7:Dn K "deeds_by_sign" jc f7) (a8:Dn K "writes_of" oa f8) (a9:Dn K "do_deeds" jI f9) (a10:Dn K "do_deed" oN di) (a11:Dn K "do_push" oO da) (a12:Dn K "do_pull" oP hm) (a13:Dn K "do_draw" oQ du) (a14:Dn K "do_send" oR hy) (a15:Dn K "copied" oS hx) (a16:Dn K "first_state" j4 ek) (a17:Dn K "place_in" pI gS) (a18:Dn K "put_in" tQ dq) (a19:Dn K "pending_at_first" hJ hp) (a20:Dn K "course_at_first" iB fe) (a21:Dn K "run_on" tR el) (a22:Dn K "plain" wy hd) (a23:Dn K "_law_mixed" og hA) (a24:Dn K "_law_purse" oh hk) (a25:Dn K "_law_draw" eS dn) (a26:Dn K "_law_worth" fX dg) (a27:Dn K "_law_formula" iH hr) (a28:Dn K "_law_deeds" km cs) (a29:Dn K "_law_send" mX ei) (a30:Dn K "_law_deed" mY hD) (a31:Dn K "_law_name" pJ dt) (a32:Dn K "_law_names" lH eL) (a33:Dn K "_law_machines" iT gd) (a34:Dn K "_law_sign" mZ dL) (a35:Dn K "_law_signs" lI dp) (a36:Dn K "leans_on" pH db) (a37:Dn K "reasons" rg dV) (a38:Dn K "last_writing" jJ ef) (a39:Dn K "leanings" jK dz) (a40:Dn K "traces_followed" iz hB) (a41:Dn K "names_in" mV em) (a42:Dn K "traces_left" jg ed) (a43:Dn K "traces_of_counting" iA gq) (a44:Dn K "law" Jf gg) (aCM:cq K bP "Model"=Z8 (Z8 (.ref CM))) (a45:Mn K CM "__init__" "Model.__init__" pF hl) (pCM:Cn K CM) (nCMmachines:aZ K (.ref CM) "machines"=Z8 Z7) (aCS:cq K bP "State"=Z8 (Z8 (.ref CS))) (a46:Mn K CS "__init__" "State.__init__" kE hc) (a47:Mn K CS "copy" "State.copy" kF cx) (pCS:Cn K CS) (nCSboxes:aZ K (.ref CS) "boxes"=Z8 Z7) (nCSqueues:aZ K (.ref CS) "queues"=Z8 Z7) (nCSdrawn:aZ K (.ref CS) "drawn"=Z8 Z7) (nCSsent:aZ K (.ref CS) "sent"=Z8 Z7) (aCD:cq K bP "Doing"=Z8 (Z8 (.ref CD))) (a48:Mn K CD "__init__" "Doing.__init__" pE gt) (a49:Mn K CD "now" "Doing.now" kl dw) (a50:Mn K CD "reckon" "Doing.reckon" fv ey) (a51:Mn K CD "queue_of" "Doing.queue_of" e8 fG) (a52:Mn K CD "fill" "Doing.fill" iy ft) (pCD:Cn K CD) (nCDmachine:aZ K (.ref CD) "machine"=Z8 Z7) (nCDhappening:aZ K (.ref CD) "happening"=Z8 Z7) (nCDstate:aZ K (.ref CD) "state"=Z8 Z7) (nCDwritten:aZ K (.ref CD) "written"=Z8 Z7) (nCDoutgoing:aZ K (.ref CD) "outgoing"=Z8 Z7) (nCDends:aZ K (.ref CD) "ends"=Z8 Z7) (nCDreckoned:aZ K (.ref CD) "reckoned"=Z8 Z7) (nCDqueued:aZ K (.ref CD) "queued"=Z8 Z7) (aCB:cq K bP "Book"=Z8 (Z8 (.ref CB))) (a53:Mn K CB "__init__" "Book.__init__" qL hq) (pCB:Cn K CB) (nCBrecords:aZ K (.ref CB) "records"=Z8 Z7) (nCBending:aZ K (.ref CB) "ending"=Z8 Z7) (nCBstates:aZ K (.ref CB) "states"=Z8 Z7) (aCC:cq K bP "Course"=Z8 (Z8 (.ref CC))) (a54:Mn K CC "__init__" "Course.__init__" oB ej) (a55:Mn K CC "ending_due" "Course.ending_due" gH ee) (a56:Mn K CC "do_one" "Course.do_one" jd fz) (pCC:Cn K CC) (nCCmodel:aZ K (.ref CC) "model"=Z8 Z7) (nCCstates:aZ K (.ref CC) "states"=Z8 Z7) (nCCpending:aZ K (.ref CC) "pending"=Z8 Z7) (nCCreached:aZ K (.ref CC) "reached"=Z8 Z7) (nCCstopped:aZ K (.ref CC) "stopped"=Z8 Z7) (aCN:cq K bP "Nought"=Z8 (Z8 (.ref CN))) (xCN:dU K CN sM "ValueError.__new__"=true) (aCG:cq K bP "Great"=Z8 (Z8 (.ref CG))) (xCG:dU K CG sM "ValueError.__new__"=true) (aCU:cq K bP "Full"=Z8 (Z8 (.ref U))) (xCU:dU K U sM "ValueError.__new__"=true) (aCY:cq K bP "Dry"=Z8 (Z8 (.ref V))) (xCY:dU K V sM "ValueError.__new__"=true) (aCP:cq K bP "Span"=Z8 (Z8 (.ref M))) (xCP:dU K M sM "ValueError.__new__"=true) (aCL:cq K bP "Late"=Z8 (Z8 (.ref O))) (xCL:dU K O sM "ValueError.__new__"=true) (aCF:cq K bP "Fault"=Z8 (Z8 (.ref CF))) (xCF:dU K CF sM "ValueError.__new__"=true) (enn:dE K (.ref CN) (.ref CN)=Z8 true) (egn:dE K (.ref CG) (.ref CN)=Z8 false) (egg:dE K (.ref CG) (.ref CG)=Z8 true) (xfCN:dE K (.ref CN) (.ref CF)=Z8 true) (XN100:yh K CN) (a100:Mn K CN "word" "Nought.word" oA lh) (xfCG:dE K (.ref CG) (.ref CF)=Z8 true) (XN101:yh K CG) (a101:Mn K CG "word" "Great.word" pC lm) (xfCU:dE K (.ref U) (.ref CF)=Z8 true) (XN102:yh K U) (a102:Mn K U "word" "Full.word" qI ll) (xfCY:dE K (.ref V) (.ref CF)=Z8 true) (XN103:yh K V) (a103:Mn K V "word" "Dry.word" sO li) (xfCP:dE K (.ref M) (.ref CF)=Z8 true) (XN104:yh K M) (a104:Mn K M "word" "Span.word" qJ lj) (xfCL:dE K (.ref O) (.ref CF)=Z8 true) (XN105:yh K O) (a105:Mn K O "word" "Late.word" qK lg) (zlen:cq K bP "len"=Z8 Z7) (zabs:cq K bP "abs"=Z8 Z7) (zisinstance:cq K bP "isinstance"=Z8 Z7) (zlist:cq K bP "list"=Z8 Z7) (ztuple:cq K bP "tuple"=Z8 Z7) (zstr:cq K bP "str"=Z8 Z7) (zint:cq K bP "int"=Z8 Z7) (zbool:cq K bP "bool"=Z8 Z7) (zrange:cq K bP "range"=Z8 Z7) (zmax:cq K bP "max"=Z8 Z7) (zdict:cq K bP "dict"=Z8 Z7) (zsorted:cq K bP "sorted"=Z8 Z7) (zenumerate:cq K bP "enumerate"=Z8 Z7) (zmin:cq K bP "min"=Z8 Z7) (zset:cq K bP "set"=Z8 Z7) :
  ∃fd:bY,(∀(s:ai) (v:af),uY s fd {[v],[]} [("_law_script",v)])/\∀base:cb,K.In base->base.Ns bP mg->bN l.prog w K mg base CX0 41 fa fd ["_law_script"] (Fz K):=by
 obtain⟨_,D1⟩:=dfx ["formula","state","now","got"] X G a1;obtain⟨_,D2⟩:=dfx ["formula","state","now","got"] X G a2;obtain⟨_,D3⟩:=dfx ["kind","first","second"] X G a3;obtain⟨_,D4⟩:=dfx ["kind","first","second"] X G a4;obtain⟨_,D5⟩:=dfx ["model","state","happening"] X G a5;obtain⟨_,D6⟩:=dfx ["model","state","happening"] X G a6;obtain⟨_,D7⟩:=dfx ["machine","sign"] X G a7;obtain⟨_,D8⟩:=dfx ["doing"] X G a8;obtain⟨_,D9⟩:=dfx ["doing","deeds"] X G a9;obtain⟨_,kw⟩:=dfx ["doing","deed"] X G a10;obtain⟨_,lp⟩:=dfx ["doing","name","formula"] X G a11;obtain⟨_,ku⟩:=dfx ["doing","name","box","otherwise"] X G a12;obtain⟨_,I⟩:=dfx ["doing","box","formula"] X G a13;obtain⟨_,D⟩:=dfx ["doing","deed"] X G a14;obtain⟨_,eu⟩:=dfx ["thing"] X G a15;obtain⟨_,z⟩:=dfx ["model","at"] X G a16;obtain⟨_,dk⟩:=dfx ["falling","thing"] X G a17;obtain⟨_,hT⟩:=dfx ["falling","thing"] X G a18;obtain⟨_,hR⟩:=dfx ["signs"] X G a19;obtain⟨_,hY⟩:=dfx ["model","signs"] X G a20;obtain⟨_,hO⟩:=dfx ["course","most"] X G a21;obtain⟨_,hE⟩:=dfx ["model","signs","most"] X G a22;obtain⟨_,ea⟩:=dfx ["_law_cell","_law_k"] X G a23;obtain⟨_,hN⟩:=dfx ["_law_script"] X G a24;obtain⟨_,lk⟩:=dfx ["_law_purse_here","_law_out_of"] X G a25;obtain⟨_,la⟩:=dfx ["_law_purse_here"] X G a26;obtain⟨_,ez⟩:=dfx ["_law_purse_here","_law_low","_law_boxes","_law_queues"] X G a27;obtain⟨_,hQ⟩:=dfx ["_law_purse_here","_law_low","_law_left","_law_there","_law_many"] X G a28;obtain⟨_,hC⟩:=dfx ["_law_purse_here","_law_there","_law_many"] X G a29;obtain⟨_,dl⟩:=dfx ["_law_purse_here","_law_low","_law_left","_law_there","_law_many"] X G a30;obtain⟨_,gv⟩:=dfx ["_law_purse_here","_law_long"] X G a31;obtain⟨_,il⟩:=dfx ["_law_purse_here","_law_many","_law_first"] X G a32;obtain⟨_,io⟩:=dfx ["_law_purse_here"] X G a33;obtain⟨_,hI⟩:=dfx ["_law_purse_here","_law_many"] X G a34;obtain⟨_,hM⟩:=dfx ["_law_purse_here","_law_many"] X G a35;obtain⟨_,hK⟩:=dfx ["model","records","place"] X G a36;obtain⟨_,ih⟩:=dfx ["model","records","k","at","box"] X G a37;obtain⟨_,hF⟩:=dfx ["records","k","at","box"] X G a38;obtain⟨_,kG⟩:=dfx ["model","records"] X G a39;obtain⟨_,kI⟩:=dfx ["at","doing"] X G a40;obtain⟨_,ii⟩:=dfx ["formula"] X G a41;obtain⟨_,ld⟩:=dfx ["at","doing"] X G a42;obtain⟨_,lb⟩:=dfx ["at","before","after"] X G a43;obtain⟨_,ke⟩:=dfx ["_law_script"] X G a44;obtain⟨_,ha,fo,hP⟩:=mfx ["self","machines"] a45;have gh:Mk K CM _:=⟨pCM.m,hP.at_,hP.fn,pCM.k⟩;obtain⟨_,lq,ln,hS⟩:=mfx ["self","boxes","queues","drawn","sent"] a46;obtain⟨_,lf,ht,hj⟩:=mfx ["self"] a47;have t:Mk K CS _:=⟨pCS.m,hS.at_,hS.fn,pCS.k⟩;obtain⟨_,ki,ky,ix⟩:=mfx ["self","machine","state","happening"] a48;obtain⟨_,eh,cr,fx⟩:=mfx ["self"] a49;obtain⟨_,ge,hv,gw⟩:=mfx ["self","formula"] a50;obtain⟨_,fZ,gM,gl⟩:=mfx ["self","name"] a51;obtain⟨_,hg,hh,ga⟩:=mfx ["self","box","worth"] a52;have jl:Mk K CD _:=⟨pCD.m,ix.at_,ix.fn,pCD.k⟩;obtain⟨_,de,eo,hG⟩:=mfx ["self","records","ending","states"] a53;have dc:Mk K CB _:=⟨pCB.m,hG.at_,hG.fn,pCB.k⟩;obtain⟨_,fy,fq,hL⟩:=mfx ["self","model","states","pending"] a54;obtain⟨_,he,ec,gn⟩:=mfx ["self","left"] a55;obtain⟨_,hf,fw,hb⟩:=mfx ["self"] a56;have ho:Mk K CC _:=⟨pCC.m,hL.at_,hL.fn,pCC.k⟩;have e:=eH.symm.trans ke.m
 cases e;have B:Bl mg:={cL X G zlen,cL X G zabs,cL X G zisinstance,cL X G zlist,cL X G ztuple,cL X G zstr,cL X G zint,cL X G zbool,cL X G zrange,cL X G zmax,cL X G zdict};have Z:MdT K mg CM CS:={pCM.c,pCS.c,nCMmachines,nCSboxes,nCSqueues,nCSdrawn,nCSsent,eX X G aCM,eX X G aCS};have Y:DT K mg CD:={pCD.c,nCDmachine,nCDhappening,nCDstate,nCDwritten,nCDoutgoing,nCDends,nCDreckoned,nCDqueued,eX X G aCD};have J:JE K mg (pU CN CG U V M O):={{eX X G aCN,eX X G aCG,xCN,xCG,enn,egn,egg},eX X G aCU,eX X G aCY,eX X G aCP,eX X G aCL,xCU,xCY,xCP,xCL};have W:Mt K CD "now" "Doing.now" kl ["self"] _ _:=⟨eh,cr,fx⟩;have MtR:Mt K CD "reckon" "Doing.reckon" fv ["self","formula"] _ _:=⟨ge,hv,gw⟩;have lr:Mt K CD "queue_of" "Doing.queue_of" e8 ["self","name"] _ _:=⟨fZ,gM,gl⟩;have g:Mt K CD "fill" "Doing.fill" iy ["self","box","worth"] _ _:=⟨hg,hh,ga⟩;have kh:Mt K CS "copy" "State.copy" kF ["self"] _ _:=⟨lf,ht,hj⟩;obtain⟨_,kb,ka,et⟩:=mfx ["self"] a100;obtain⟨_,ja,kv,er⟩:=mfx ["self"] a101;obtain⟨_,kc,kq,hn⟩:=mfx ["self"] a102;obtain⟨_,jb,jp,dG⟩:=mfx ["self"] a103;obtain⟨_,kB,kt,eg⟩:=mfx ["self"] a104;obtain⟨_,js,kz,hu⟩:=mfx ["self"] a105;have hX:mg "set"=Z7:=cL X G zset;have gr:mg "min"=Z7:=cL X G zmin;have TB:BkT K mg CB:={pCB.c,nCBrecords,nCBending,nCBstates,eX X G aCB};have TC:CoT K mg CC:={pCC.c,nCCmodel,nCCstates,nCCpending,nCCreached,nCCstopped,eX X G aCC};have im:Mt K CC "ending_due" "Course.ending_due" gH ["self","left"] _ _:=⟨he,ec,gn⟩;have hH:Mt K CC "do_one" "Course.do_one" jd ["self"] _ _:=⟨hf,fw,hb⟩;have lc:mg "sorted"=Z7:=cL X G zsorted;have ME:mg "enumerate"=Z7:=cL X G zenumerate;have dj:mg "Fault"=Z8 (.ref CF):=eX X G aCF;have MW:∀e,zG K ((pU CN CG U V M O) e) "word" ((E4 lh lm ll li lj lg) e):=fun e=>by cases e<;>assumption
 have ew:∀e,yh K ((pU CN CG U V M O) e):=fun e=>by cases e<;>assumption
 have eb:∀e,dE K (.ref ((pU CN CG U V M O) e)) (.ref CF)=Z8 true:=fun e=>by cases e<;>assumption
 have BW:∀e,Binds K (E4 _ _ _ _ _ _ e) ["self"] []:=FA ka kv kq jp kt kz;exact{_,law_b ke.F fun _ _ _ _ _ _ _=>rfl,fun base _ _=>RK ke hN (Km hN ea B) lk la io (ok_ms io il (Ko il gv lk B) hQ (fun bs qs=>Pc hQ dl hC ez lk la B 4) lk la B) hM (ok_ss hM hI lk la B) hI gh (ok_MI (n:=29) ha eu B Z) fo hE (Rb hE hY (Q8 hY z (uH z t lq ln B Z) hR (QQ hR ME) ho fq (ok_ci fy TC) TC Z B lc) hO (Q7 hO im (ok_ed im TC) hH (Q4 (cf:=(pU CN CG U V M O)) (fW:=(E4 lh lm ll li lj lg)) (fdW:=(E4 _ _ _ _ _ _)) hH hT (QV hT dk B) D5 (fun bq=>(M3 (n:=5) D5 D6 jl ky (JQ ki kh (Ak lf t lq ln B Z) Y Z) D9 #[6] D7 D8 Y Z B)) MW BW (FA (Dv kb) (Gz ja) (J6 kc) (Nf jb) (Ka kB) (Kb js)) ew dj eb TC Z) TC B) dc eo (ok_bk de TB) TB TC) hK (ok_lo hK kG (PB (cf:=(pU CN CG U V M O)) kG z (uH z t lq ln B Z) D6 (fun bs qs=>(Dq (n:=5) D6 jl ky (JQ ki kh (Ak lf t lq ln B Z) Y Z) D9 #[6] D7 Y Z)) lb (Px lb Z B) kI (fun bs qs=>Pr kI ii Y B) ld (Pu ld Y B) Y Z B ME lc hX)) ih (ok_rs ih hF (ok_lw hF B ME) kG (PB (cf:=(pU CN CG U V M O)) kG z (uH z t lq ln B Z) D6 (fun bs qs=>(Dq (n:=5) D6 jl ky (JQ ki kh (Ak lf t lq ln B Z) Y Z) D9 #[6] D7 Y Z)) lb (Px lb Z B) kI (fun bs qs=>Pr kI ii Y B) ld (Pu ld Y B) Y Z B ME lc hX) B lc) Z TB B gr}
theorem walk{l:vE}{V:aY->cb->Prop}{K:Params->ag}(U:l.most=Z8 63)(Y:d.params.defaults=[])
  (M:∀(w:aY) (h:cb),V w h->(K w.params).In h)
  (F:∀(w:aY) (mg:Str->Option af) (W:ae) (h:cb),(K w.params).In h->h.Ns bP mg->mg d.name=Z8 (.ref W) ->
   ∃fd:bY,(∀(s:ai) (u:af),uY s fd {[u],[]} [("_law_script",u)])/\∀base:cb,(K w.params).In base->base.Ns bP mg->bN l.prog w (K w.params) mg base CX0 41 W fd ["_law_script"] (Fz (K w.params))) :
  Lu q Z O V l.row.toRowW d [] (fun f vs=>FW f vs):=
 L2.walk_ofB (n:=63) (k:=41) (x:="_law_script") (CX:=fun _=>CX0) (sp:=fun w=>Fz (K w.params)) U (by decide) Y {Z9,by decide,by decide} M F (fun _ _ a ns J hb I=>{a,ns,Z9,I,J,hb,fun _=>rfl}) fun _ _ _ _ _ z=>z
end My
namespace PySem.W.Fast
def tw7641103827612229103:=0
def tw2252751064419173738:=0
def tw9245917838540000964:=0
def tw12066784476340519550:=0
def tw11471641454553222729:=0
def tw5098438829613401071:=0
def tw12586211268121761099:=0
def tw1093784905478487394:=0
def tw2194387469807125829:=0
def tw12310101059364905388:=0
def tw10422321861487089659:=0
def tw3926968945779759674:=0
def tw3998892585985879349:=0
def tw10210698520410062427:=0
def tw1325812471813202886:=0
def tw9999186146113276248:=0
def tw2704246646539067437:=0
def tw8736035819598894995:=0
def tw16650510373213207059:=0
def tw6101147623732145832:=0
def tw7092510976352559465:=0
def tw16470709548090601520:=0
def tw11780029365265545790:=0
def tw14753612742584511077:=0
def tw9515693028190904429:=0
def tw18283259807054104656:=0
def tw8221947842291091176:=0
def tw4672662928542470360:=0
def tw8939198955960039180:=0
def tw301409685016681952:=0
def tw15129681249385591785:=0
def tw15698256276004935885:=0
def tw7429841135969385136:=0
def tw5961036614840443529:=0
def tw16667669183057546246:=0
def tw6275557916385809724:=0
def tw1305963743447241672:=0
def tw17756936900474716988:=0
def tw6208800605346337401:=0
def tw1022404655516309127:=0
def tw15102868770508327581:=0
def tw16263477521156970710:=0
def tw9821320048005831230:=0
def tw3879185182725116440:=0
def tw3074013994548912463:=0
def tw12206985094521733101:=0
def tw8600262979239398698:=0
def tw1785895254224819060:=0
def tw2799745955401633705:=0
def tw14572468684191506190:=0
def tw7275756717698860585:=0
def tw3768496188638921630:=0
def tw1924487171198383926:=0
def tw17884744696235734430:=0
def tw16568204080434459939:=0
def tw11704323915800725262:=0
def tw3545286291565074821:=0
def tw14442112126630652039:=0
def tw986553877368299084:=0
def tw1310782108779347448:=0
def tw8589750774456735558:=0
def tw11446009941080558276:=0
def tw15239975516080161646:=0
def tw10476289898113620681:=0
def tw9509349399056389696:=0
def tw2245443644303510210:=0
def tw8140475170760342644:=0
def tw16071110652076417452:=0
def tw14267562492983026319:=0
def tw2659574468722175993:=0
def tw10542066427668562914:=0
def tw8403311429023464616:=0
def tw1359887056816713972:=0
def tw3043991564072066786:=0
def tw10617187282179858412:=0
def tw10901319722528268355:=0
def tw17289495130957815699:=0
def tw14712536089380533631:=0
def tw6157619508798743533:=0
def tw12213211098493051155:=0
def tw566307017208590202:=0
def tw17404032744460227206:=0
def tw9803593832708822061:=0
def tw7671503120856459563:=0
def tw1127948907047611750:=0
def tw9221315767084841036:=0
def tw1040758065886313108:=0
def tw7580678511572104127:=0
def tw6686932633365554207:=0
def tw1840692281402253181:=0
def tw9918048533365939162:=0
def tw506550710819697365:=0
def tw12202825228816888165:=0
def tw105700290487630967:=0
def tw12609529027312517978:=0
def tw2354301641158509461:=0
def tw17423906672862633185:=0
def tw13318621812519384955:=0
def tw1837677758198642853:=0
def tw7372996298117183906:=0
def tw2835550765748037064:=0
def tw3213197444135868964:=0
def tw14389539174033216092:=0
def tw8153599291953942767:=0
def tw857226781275627527:=0
def tw6462654919812821453:=0
def tw10759002450128074591:=0
def tw9926327874617053919:=0
def tw5543994360447420145:=0
def tw8916294156783457414:=0
def tw13206368336839428264:=0
def tw3787403275870987519:=0
def tw5263946406794121235:=0
def tw11450430498303813270:=0
def tw9027613298457889533:=0
def tw9060168660607451000:=0
def tw9020528924030957087:=0
def tw16787041059778496349:=0
def tw4127757289887369806:=0
def tw12215751937642950726:=0
def tw10640012970344899746:=0
def tw973996525043427070:=0
def tw3420715613682338166:=0
def tw16677264647743660824:=0
def tw17539861850793375913:=0
def tw10586822676943205622:=0
def tw4242263408401420940:=0
def tw14869555132968104889:=0
def tw7176848647202504410:=0
def tw4071216405976463813:=0
def tw17975185385580823267:=0
def tw517056716957072893:=0
def tw412524990133958986:=0
def tw3343427572262552585:=0
def tw17328123609467272846:=0
def tw11691027570179137789:=0
def tw10855343542577161355:=0
def tw5238768275379655902:=0
def tw12099957130760216096:=0
def tw15880656694906520634:=0
def tw13269144290192800329:=0
def tw10356677138449881066:=0
def tw5078254904167745965:=0
def tw2072257173523610896:=0
def tw461895204922588051:=0
def tw5507204480094622764:=0
def tw15100279865644102739:=0
def tw10705634775549765723:=0
def tw984034247793906601:=0
def tw12191695128433003103:=0
def tw7702420485052630027:=0
def tw8814824447249525734:=0
def tw10871219157826947926:=0
def tw12132399832632458022:=0
def tw9959428805430831999:=0
def tw10473944100384427940:=0
def tw5811928182733435856:=0
def tw2802491001215560862:=0
def tw13686477216293261755:=0
def tw3322486166368262676:=0
def tw4953926701023090894:=0
def tw14305981818283278613:=0
def tw3135418380239188881:=0
def tw4202488353777929090:=0
def tw4811225357303498872:=0
def tw16822478736577373348:=0
def tw16608642866362312492:=0
def tw4022073579450242392:=0
def tw5063831929628741885:=0
def tw6178553872166054570:=0
def tw1493787281680949158:=0
def tw16966423099028619280:=0
def tw927543876705306899:=0
def tw11659509296120171718:=0
def tw15658044913442123507:=0
def tw12634625236162177100:=0
def tw15995025186086453694:=0
def tw636836434969695483:=0
def tw6275107019338428663:=0
def tw5836390242880130138:=0
def tw1759894099690242480:=0
def tw1808216151335656811:=0
def tw8253501680708784132:=0
def tw11902737138275254759:=0
def tw1382373684618250046:=0
def tw14180719522800800313:=0
def tw7075539113049911753:=0
def tw2805380538641318868:=0
def tw15080481283731321816:=0
def tw17216413434588741001:=0
def tw6791807945891823832:=0
def tw6547970992317795180:=0
def tw14419833035731049398:=0
def tw12200620730807170438:=0
def tw8968596035442002192:=0
def tw1835867247830545062:=0
def tw11846216564512244693:=0
def tw15098769255172818423:=0
def tw10592130109135605938:=0
def tw7103006755374559691:=0
def tw15301140870338197323:=0
def tw5460169807328472474:=0
def tw4856632673520251564:=0
def tw8302402833480073198:=0
def tw8103149286351330189:=0
def tw7289519482131282866:=0
def tw13938935981178963495:=0
def tw12983031365598403882:=0
def tw2875656432044961010:=0
def tw3652552675194012412:=0
def tw3903037502383613687:=0
def tw1879580443115693089:=0
def tw16196158284008396387:=0
def tw2465839512591602344:=0
def tw5951750282270784442:=0
def tw13705633229730076409:=0
def tw71426820083955791:=0
def tw11100495728835968359:=0
def tw9642586272826893686:=0
def tw7911491994712688105:=0
def tw5977883098866487224:=0
def tw6650641572086007697:=0
def tw10983284951737831103:=0
def tw1470703834408823714:=0
def tw14164343523563108521:=0
def tw604676892363919044:=0
def tw536289308346087974:=0
def tw2627037273460182880:=0
def tw4243518398763304499:=0
def tw12947136171570702826:=0
def tw6313670025401390039:=0
def tw15369335497257672966:=0
def tw13214779266965214471:=0
def tw15457943356497559853:=0
def tw8325933833139734575:=0
def tw3675282558214304016:=0
def tw12164090708363910770:=0
def tw2019557821296696718:=0
def tw12169333287005780388:=0
def tw4409290837633535621:=0
def tw3371400950921974631:=0
def tw6570038406406870885:=0
def tw4778110357406542931:=0
def tw10368921314300353850:=0
def tw14301987943466897073:=0
def tw16102448567669601928:=0
def tw11605454090891537379:=0
def tw3119678394744242615:=0
def tw1017943132230657341:=0
def tw16124632992796499378:=0
def tw780371753066706217:=0
def tw13021443607355668493:=0
def tw14338455147440200188:=0
def tw15264875870288925873:=0
def tw11465793803185810772:=0
def tw13223934547276370379:=0
def tw6835226844660433033:=0
def tw6198492825098710804:=0
def tw4014317747593837578:=0
def tw10841883568346725193:=0
def tw6630713220200020025:=0
def tw2161603386514538458:=0
def tw10424439346656489261:=0
def tw5502116115845480081:=0
def tw16819748415167328190:=0
def tw8890879523591986752:=0
def tw1139769953291739358:=0
def tw11332159925213276874:=0
def tw12131885133921173931:=0
def tw11555965614615831376:=0
def tw11111117326852072848:=0
def tw708452815916139482:=0
def tw14258247738925314100:=0
def tw407239610414208513:=0
def tw12888043110983335075:=0
def tw6056280606310564239:=0
def tw4657406381083326965:=0
def tw8697252261661052698:=0
def tw8163661281356588594:=0
def tw4554425878983635400:=0
def tw8979863257620175248:=0
def tw9543619516626398325:=0
def tw4923102606709591784:=0
def tw103108725324500129:=0
def tw4239937201262034199:=0
def tw8882078657934745022:=0
def tw11237112400552863888:=0
def tw17477076600492279695:=0
def tw15106309347728878461:=0
def tw9796266819771344968:=0
def tw4734996433948169290:=0
def tw9978935846937555835:=0
def tw4782003529461015993:=0
def tw14542063192375193297:=0
def tw14897349832289724142:=0
def tw5011115215447561402:=0
def tw9994430090745856229:=0
def tw9728127900870028531:=0
def tw1639975944217355242:=0
def tw3441299382904530262:=0
def tw13431420461878485375:=0
def tw3682434298557221018:=0
def tw1543947241258875461:=0
def tw16722723902622133799:=0
def tw5323839161451290126:=0
def tw13183711097941289934:=0
def tw7914444077021193118:=0
def tw14465970228226956557:=0
def tw8189239532062075461:=0
def tw9740191518736317313:=0
def tw12118038287003076665:=0
def tw15656362648674499290:=0
def tw8271855463045083279:=0
def tw13217685635690748716:=0
def tw9576765109639364946:=0
def tw2520966025036738140:=0
def tw3760497030651854573:=0
def tw1703646642461753302:=0
def tw4728335252027367236:=0
def tw13074987727704862799:=0
def tw6380467585958821380:=0
def tw3661076480147548909:=0
def tw7677736853766630244:=0
def tw12321087125043332103:=0
def tw2495795101664582951:=0
def tw3424901907279334356:=0
def tw3266368760511111829:=0
def tw18321203535038479021:=0
def tw16147760232193794031:=0
def tw13878218522433384311:=0
def tw7019840428772774013:=0
def tw13951061382883635448:=0
def tw8017078868712476253:=0
def tw3032584016842084952:=0
def tw8002211429283347762:=0
def tw10547182641927024337:=0
def tw14300181773937558177:=0
def tw11099162850025428251:=0
def tw8366365846129281674:=0
def tw10855010744270501623:=0
def tw1857302806775029161:=0
def tw5949729228489829790:=0
def tw915139354070910795:=0
def tw7337389474980310271:=0
def tw2637983773795744668:=0
def tw1635834502714787542:=0
def tw1424122305958380249:=0
def tw7460075965523454988:=0
def tw4841205575215927901:=0
def tw8593193491354786850:=0
def tw6821491481213905776:=0
def tw7889792784547409510:=0
def tw3504235756936233139:=0
def tw5086823307084778055:=0
def tw1763503457818525284:=0
def tw14424515465226281199:=0
def tw3575668890455014026:=0
def tw18313153605100455170:=0
def tw9169659148201748330:=0
def tw1989200956825802563:=0
def tw5170647305644724426:=0
def tw6921775755140325108:=0
def tw291172443558660985:=0
def tw7886718806683746871:=0
def tw6985980019547229256:=0
def tw7699670696547041308:=0
def tw7044504789133278376:=0
def tw602412906054669478:=0
def tw9536937513352183474:=0
def tw3105704924118817194:=0
def tw2236551274023632598:=0
def tw12348788520680231311:=0
def tw6866345969343424183:=0
def tw3512518381020762719:=0
def tw2628629923182052254:=0
def tw5745930622293406773:=0
def tw5807347280814474217:=0
def tw11642283002704238305:=0
def tw1624838068394598343:=0
def tw2225378740021835543:=0
def tw17174271135037104382:=0
def tw7124088923689220970:=0
def tw14552989109994303008:=0
def tw4658125732721751225:=0
def tw1518040596559293937:=0
def tw7585020290349426595:=0
def tw14128649655966596017:=0
def tw11502060562296951206:=0
def tw6877976029335684176:=0
def tw1893559616027977490:=0
def tw8985129372637216059:=0
def tw16306720261002240640:=0
def tw16210767197626749470:=0
def tw11187101666078580966:=0
def tw18032085081883310634:=0
def tw12415651302409625895:=0
def tw7054420034039106492:=0
def tw15589239256296931223:=0
def tw10367001435528986826:=0
def tw9526996058952745011:=0
def tw5019176771202200271:=0
def tw3403161767029431105:=0
def tw15168474175068832017:=0
def tw3607241050758074840:=0
def tw8833523428743908525:=0
def tw14143520611828650864:=0
def tw838580761560206556:=0
def tw13556486755370342508:=0
def tw10600604964575395141:=0
def tw383715027616702447:=0
def tw328290573600104144:=0
def tw1261514952995041521:=0
def tw222805591054430273:=0
def tw1798100705518280913:=0
def tw12821402900010730964:=0
def tw2280205600792324310:=0
def tw12376508777662547943:=0
def tw13977422429416136565:=0
def tw1658136248172709027:=0
def tw8347095316226823201:=0
def tw8029417735677730482:=0
def tw4657092283816919154:=0
def tw1471997987818716830:=0
def tw8760904995824293436:=0
def tw18084870070450724314:=0
def tw690436435457157625:=0
def tw18279232919218894356:=0
def tw10878532071063562164:=0
def tw4097050890569059400:=0
def tw3970177291305668499:=0
def tw1341834617364327808:=0
def tw8179104258689690712:=0
def tw336975104472959154:=0
def tw15962877265565918474:=0
def tw1750604139425749586:=0
def tw17153898425791539483:=0
def tw7447708499489983071:=0
def tw13685892258694523720:=0
def tw17506007663925246293:=0
def tw2254809008399960122:=0
def tw13386172343752498236:=0
end PySem.W.Fast
open PySem PySem.W PyProof.Rows
set_option maxRecDepth 100000 in
set_option maxHeartbeats 0 in
theorem PySem.Challenge.cw_momentloom_k53_whole_reasons_of_beginnin_holds : PySem.Challenge.rw_momentloom_k53_whole_reasons_of_beginnin.Holds := by
 w_on;o_law;k_head;(case hw=>w_witness2)
 k_fill
 refine My.walk (l:=RL) rfl rfl (fun w h Y=>PySem.W.kIn_of Y) ?F
 case F=>
  intro w mg fa h KX G hmg;refine' My.all_mk KX G hmg ?a1 ?a2 ?a3 ?a4 ?a5 ?a6 ?a7 ?a8 ?a9 ?a10 ?a11 ?a12 ?a13 ?a14 ?a15 ?a16 ?a17 ?a18 ?a19 ?a20 ?a21 ?a22 ?a23 ?a24 ?a25 ?a26 ?a27 ?a28 ?a29 ?a30 ?a31 ?a32 ?a33 ?a34 ?a35 ?a36 ?a37 ?a38 ?a39 ?a40 ?a41 ?a42 ?a43 ?a44 ?aCM ?a45 ?pCM ?nCMmachines ?aCS ?a46 ?a47 ?pCS ?nCSboxes ?nCSqueues ?nCSdrawn ?nCSsent ?aCD ?a48 ?a49 ?a50 ?a51 ?a52 ?pCD ?nCDmachine ?nCDhappening ?nCDstate ?nCDwritten ?nCDoutgoing ?nCDends ?nCDreckoned ?nCDqueued ?aCB ?a53 ?pCB ?nCBrecords ?nCBending ?nCBstates ?aCC ?a54 ?a55 ?a56 ?pCC ?nCCmodel ?nCCstates ?nCCpending ?nCCreached ?nCCstopped ?aCN ?xCN ?aCG ?xCG ?aCU ?xCU ?aCY ?xCY ?aCP ?xCP ?aCL ?xCL ?aCF ?xCF ?enn ?egn ?egg ?xfCN ?XN100 ?a100 ?xfCG ?XN101 ?a101 ?xfCU ?XN102 ?a102 ?xfCY ?XN103 ?a103 ?xfCP ?XN104 ?a104 ?xfCL ?XN105 ?a105 ?zlen ?zabs ?zisinstance ?zlist ?ztuple ?zstr ?zint ?zbool ?zrange ?zmax ?zdict ?zsorted ?zenumerate ?zmin ?zset
  case a1|a2|a3|a4|a5|a6|a7|a8|a9|a10|a11|a12|a13|a14|a15|a16|a17|a18|a19|a20|a21|a22|a23|a24|a25|a26|a27|a28|a29|a30|a31|a32|a33|a34|a35|a36|a37|a38|a39|a40|a41|a42|a43|a44=>
   refine' My.dn_i ?a ?l ?c ?k
   case a=>k_is
   case l=>k_is
   case c=>k_is
   case k=>k_is
  case aCM|aCS|aCD|aCB|aCC|aCN|aCG|aCU|aCY|aCP|aCL|aCF=>k_is
  case a45|a46|a47|a48|a49|a50|a51|a52|a53|a54|a55|a56=>
   refine' My.mn_i ?a ?i ?l ?c ?k
   case a=>k_is
   case i=>k_is
   case l=>k_is
   case c=>k_is
   case k=>k_is
  case pCM|pCS|pCD|pCB|pCC=>exact{{by k_is,by k_is,by k_is,by k_is},by k_is,by k_is}
  case nCMmachines|nCSboxes|nCSqueues|nCSdrawn|nCSsent|nCDmachine|nCDhappening|nCDstate|nCDwritten|nCDoutgoing|nCDends|nCDreckoned|nCDqueued|nCBrecords|nCBending|nCBstates|nCCmodel|nCCstates|nCCpending|nCCreached|nCCstopped|zlen|zabs|zisinstance|zlist|ztuple|zstr|zint|zbool|zrange|zmax|zdict|zsorted|zenumerate|zmin|zset=>k_is
  case xCN|xCG|xCU|xCY|xCP|xCL|xCF=>k_exc
  case enn|egn|egg=>kts_exm
  case xfCN|xfCG|xfCU|xfCY|xfCP|xfCL=>kts_exm
  case XN100|XN101|XN102|XN103|XN104|XN105=>exact{by k_is,by k_is,by k_is,by k_is,by k_is,by k_is,by k_is}
  case a100|a101|a102|a103|a104|a105=>
   refine' My.mn_i ?a ?i ?l ?c ?k
   case a=>k_is
   case i=>k_is
   case l=>k_is
   case c=>k_is
   case k=>k_is

