import PyProof.Rows.All
import Wide.All
import OpenK.AllK
import Wide.FinOn
import Lean
import PyProof.EqAt
import PyProof.EqKinds
import PyProof.TupleCall
import KE.KDictOf
import PyProof.AttrMissSeq
import PyProof.DictCopy
import PyProof.NeKinds
import PyProof.DictWalks
import PyProof.MinMaxWalk
import PyProof.MeetsDictList
import PyProof.DictFindH
import PyProof.DictTruth
import KE.KRevSl
import PyProof.DictItems
import KE.KDictSum
import PyProof.Rows.SortStr
import PyProof.Rows.SortWalk
import PyProof.ExcArgsOwn
import PyProof.NsDelKeeps
import PyProof.EnumMake
import PyProof.EnumFor
import PyProof.EnumStmt
import PyProof.Rows.EnumRows
import PyProof.Rows.SortRev
import KE.KSortTup
import KE.KTab
import PyProof.StrBlockI
import PyProof.SliceStr2
import PyProof.DictIter
import PyProof.Rows.SortShell
import PyProof.Rows.SetFrom
import PyProof.FactsAll.set
import KE.KDictList
import PySem.Challenge.RW_momentloom_k28_halls_at_their_beginning
open Option renaming some->Z8,none->Z7
theorem Z9.{u}{α:Sort u}{a:α}:a=a:=rfl
local macro_rules
| `({$x:term,*})=>`(⟨$x,*⟩)
open PySem renaming wpAny_bind->aa,Addr->ab,Value->ae,wpAny_pure->af,Shared->aj,sizeLine->aF,wpAny->aN,Program->aP,model->aW,World->bF,Paired->bM,FuncData->bS,boot_len->bV,mainGlobals->bW,Around->cm,wpAny_newObj_type->cw,wpAny_call_entry->cy,Heap->cz,Expr->cH,starEach->cL,wpAny_holding->c8,wpAny_callSpecial?_slot->dA,Stmt->dI,codeAny_builtin->dJ,bootBuiltins->eh,wpAny_setState_of->eu,plainId_quiet->eT,eval->eY,rawInt->e8,Builtin->fi,wpAny_mono->fo,wpAny_pyIter_slot->ft,wpAny_dictEntries->fu,SetTable->fx,pyNext->fH,sysModules->gc,compareOp->gi,DictEntry->gj,mem_of_lookup->gs,wpAny_seqItems->gx,wpAny_tryCatch->gy,wpAny_fieldsOf->gB,wpAny_setField->gC,wpAny_truthy_bool->gH,wpAny_dictEpoch->gK,attributeBase->gW,keywordEach->gX,wpAny_attempt->gY,wpAny_Call_Name_kw->hV,wpAny_updateSeq->iB,wpAny_ite_split->iC,intKind->iK,codeAny->iL,cLine->iN,wpAny_Call_method0_late->iO,firstArgMember->iQ,wpAny_typeNameOfWhole_itemiter->iR,wpAny_typeNameOfWhole_keyiter->iT,wpAny_letGo->iU,wpAny_typeNameOfWhole_valiter->iV,wpAny_passesOwn->i5,behindInMarks->ja,argBest->jc,evalArgs_none->jf,backTo->jw,wpAny_of_eq->jy,scanBound->jG,wpAny_askSetting->jH,wpAny_typeNameOf_itemiter->jI,backToKw->jR,wpAny_typeNameOf_keyiter->jT,wpAny_typeNameOf_valiter->jV,IsItemIter->j1,wpAny_setField_rec->j4,Scope->kE,wpAny_pyIter_list->kH,binaryOp->kJ,codeAny_mono->kK,NameKind->kL,wpAny_notOrdered_dict->kX,assignEach->kZ,wpAny_isInstance->k6,sliceBounds->lI,call_meetsIn->lY,tupleKind_room_in1->mK,holding->nF,foldedSetIterable->nG,fits_of_scanBound->nX,argsOk->oM,tupleKind->oX,seqItems?->o3,pickOrder->o5,call->pz,wpAny_rule->pD,wpAny_isOneOf_itemiter->pH,wpAny_execs_nil->pN,wpAny_loadPart'->pO,argBest->pP,builtinLookup_eq_fast->qf,wpAny_isOneOf_valiter->qt,pyIter->qA,sizeLine_eq->qC,richCompare->qF,setField->qG,isSubtype_stop->qH,wpAny_field->qO,swapsWith->qU,updateSeq->qY,wpAny_handled->rH,Result->rV,call_meets->sd,setEntries->sS,BindsTo->tN,getItem->tP,entryFor->tS,wpAny_typeOf->tT,relayAll->t8,getMethod->vv,stored->vB,newExc->vJ,subscripted->wz,wpAny_throw->wB,Within->wH,letOwnedTupleGo->wM,typeLookup_type->xc,standAt->xZ,Keyword->x9,callerA->yb,valueAt->yc,wpAny_letOwnedTupleGo_items->ye,setNext->yf,bindArgs->yu,wpAny_call->yw,typeLookup->yx,raiseNew->yD,entryFor_alias->yG,wpAny_newTuple->yW,isSubtype_type->y8,setsByText->y9,wpAny_standAt->Ar,call->AI,wpAny_newList->Ba,CmpOp->Bo,bindL->Br,bindC->Bs,atKey->Bv,isTrue->BA,wpAny_pyNext_list_item->BG,richCompare_meets_room->BW,seqIndex_neg->BX,ElemsOf->Dh,wpAny_isTrue_Compare1->Ef,wpAny_pyNext_list_end->Eg,wpAny_isOneOf_keyiter->Ei,GenState->El,Operator->Eo,rule->Ep,callWith->Ex,seqIndex_of->EA,newTuple->EN,Walks->EO,wpAny_pyIter_valiter->Fe,codeAny_call_builtin->Fi,builtinsNs->HH,wpAny_Name->HJ,assign->HP,wpAny_load->HR,typeIs_str->Ib,wpAny_assign_Name->Jn,slot_list_getitem->Jp,table->Jq,wpAny_storeSet_of->Jt,wpAny_setEpoch_of->Ju
open PySem.W renaming Frag->ag,findIn->bA,mg_none_of->cJ,nsIn->cM,kia_one->eN,emptyDict->fY,fnOf->gu,kitOne->gJ,instObj->gU,keepIn->ip,mg_of->jr,codeIn->k0,plainGet->lW,isFn->mI,methodCall_KW->nv,lookIn->oh,plainGet_of->oY,callWith_K->pC,hasDictIn->pZ,takerIn->rg,makesIn->rh,OpenLaw->rm,cellsFrom_some->vx,callWith_K0->x8,plainOver->zy,kitx_list->zz,kitx_dict->zA,handedIn->Ax,WalkO->Eh
open List renaming length_map->ak,getElem?_eq_some_iff->ay,getElem?_eq_getElem->aA,mem_cons->aD,mem_singleton->aH,mem_of_getElem?->aK,length_append->aL,replicate->aQ,mem_cons_self->aU,not_mem_nil->aX,size_toArray->bj,getElem?_map->bD,mem_cons_of_mem->bL,mem_map->bY,mem_append->cj,map_append->cq,getElem?_of_mem->cP,mem_append_right->cT,length_nil->cU,length_cons->cY,getElem?_append_right->df,getElem?_append_left->dy,length_take->dB,flatMap_cons->dZ,length_eq_zero_iff->d9,append_nil->eB,lookup_cons->eD,take_add_one->eJ,mem_filter->eQ,take_length->eX,length_replicate->fA,mem_flatMap->gT,nodup_cons->hW,map_cons->ig,filter_cons_of_pos->iF,range->i9,getElem_mem->jd,pairwise_iff_getElem->jm,length->jJ,filter_cons_of_neg->jQ,length_drop->kB,any_eq_true->kC,mem_flatten->kD,pairwise_append->kQ,flatMap_append->lG,pairwise_cons->lN,length_mapIdx->lO,getElem?_inj->mm,getElem?_take_of_lt->mn,getElem?_replicate->mZ,take_of_length_le->nJ,length_singleton->oO,take_append_drop->oV,length_filter_le->oW,mem_append_left->o6,lookup->o8,nodup_nil->pe,getElem?_mapIdx->pj,filterMap_cons->pM,length_pos_iff->pQ,filter_append->qy,length_range->q5,ext_getElem->rM,of_mem_zip->tD,foldl_cons->tG,mem_range->ug,length_eraseIdx_of_lt->uU,exists_cons_of_ne_nil->va,any_cons->wA,Pairwise->wC,pairwise_singleton->xH,flatMap_eq_nil_iff->xP,getElem?_set_self->xY,map_nil->ya,getElem?_eq_none->yJ,getElem?_set_ne->zu,mem_of_mem_drop->zQ,mem_of_mem_take->zR,mem_iff_getElem->z7,map_eq_nil_iff->Bi,filter_sublist->Bm,mem_filterMap->Bp,zip_nil_right->Bt,zip_cons_cons->Bu,getElem?_drop->Bw,take_sublist->BS,zip_nil_left->BV,pairwise_map->Cw,flatMap_map->Ej,range_succ->FJ,map_drop->IL,map_take->IM,map_map->Jr
open PySem.Heap renaming get?_push_of_some->aq,get?_push_size->aE,lt_size->aI,get?_update_other->aY,get?_update_self->cC,size_push->eA,SameBut->fX,ExtBut->jK,size_update->m8,get?_push_ne->C9
open Nat renaming le_refl->aB,ne_of_lt->aG,zero_le->aO,lt_of_lt_of_le->aZ,le_trans->dh,lt_succ_of_lt->dD,lt_of_le_of_lt->dS,lt_irrefl->fh,ne_of_gt->gI,le_succ->gO,lt_succ_self->iH,lt_trans->iP,lt_of_succ_lt_succ->jZ,add_le_add_left->lH,le_of_lt->nY,lt_or_ge->rn,sub_self->rp,not_lt_zero->tU,mul_le_mul_right->AY,mul_le_mul->Jb
open Bool renaming false_ne_true->bz,false_eq_true->dQ,and_eq_true->iE,eq_iff_iff->og,or_eq_false_iff->zX,eq_false_iff->Ce,and_false->FY,or_false->Ic,true_and->Ik
open PySem.PassesOwn renaming never->bB
open PySem.F renaming plainAttrs_list->bE,slot_list_append->bZ,type_list_append->cg,called_set->fy,plainAttrs_dict->ir,slot_dict_values->jn,slot_dict_items->jD,slot_dict_get->ny,args_dict_values_1->sO,args_dict_items_1->tH,entry_dict_values->tJ,plain_extend_loop->tK,entry_dict_items->tV,type_dict_values->tX,slot_list_extend->ub,type_list_extend->uc,args_dict_get_3->uE,type_dict_items->uH,plain_list_iadd->uV,slot_list_clear->vh,type_list_clear->vk,entry_dict_get->vC,slot_set_iter->wD
open PySem.Paired renaming length->bQ,snoc->hU
open PySem.SetTable renaming below->bX,grown->iW,Probe->Bx,fits->Dp
open Option.some renaming inj->cv
open Ne renaming symm->cE
open PySem.Str renaming ofString->cN
open PySem.Obj renaming data_mapFields->cW,mapSeq->dN,mapFields->gQ,isFreed_of_fields->gZ,cls_mapFields->j0,putSet->Dk
open Option renaming map_eq_some_iff->cX,getD_none->qW,toList->uY,isSome_map->AD
open PySem.Builtin.Dict_items renaming ownsTuple->cZ,ownedTupleFields->lT,ownedTupleIsFree->lU,pairFromOwner->mv,newIterator->m7,dictOf->o4
open PySem.Heap.SameBut renaming update->c7
open Array renaming length_toList->dj,getElem?_eq_none->fg,getElem?_eq_getElem->fk,getD->nz,getElem?_toList->oK,toList_push->By,toList->HK
open Int renaming toNat_natCast->dE,toNat_of_nonneg->iG,emod_lt_of_pos->lR,emod_nonneg->oS,fdiv_eq_ediv_of_nonneg->vt,zero_add->zj
open PySem.Around renaming under_plainId->dP
open PyProof.Rows renaming IntsAre->dY,seqObj->fV,callWith_type1->j9,AllBare->pk,firstMet->qP,boot_sorted->q9,envOfC->rZ,step_dedup->sQ,IsTup->wx,Constant_none->Aq,listUpdate_at->A9,subscriptTail_builtinR->BZ,Subscript_->H9,size_push'->IR,firstMet_length_le->IV
open False renaming elim->eR
open PySem.Builtin.Int renaming intBits->eW
open PySem.Calls renaming callWith_builtin->ff,spliced_cons->p7,Name_function_global->tL,evalArgs_plain->yz,spliced_nil->Bq
open PySem.Builtin.Dict renaming showsAll->gA,noArgs->tY
open PySem.Builtin.Builtins renaming bindParams->iu
open PySem.SetTable.below renaming go->je
open PySem.Builtin.List renaming listExtendWith->kg,listLengthHint->qv,listTooLong->qX,listSameRef->q8,listItems->rL
open PyProof.Rows.F renaming entry_set_update_loop->mw,plain_set_update_loop->mz
open PySem.SetTable.probe renaming go->nV
open List.Pairwise renaming imp->oH
open PySem.Builtin.Tuple renaming tupleCompareSizes->oN
open PySem.Builtin.Frozenset renaming sizeOf->pI,newClass->Fn,updateFrom->Fp,slot0->Ft
open PySem.Txt renaming slice->pS
open Nat.succ renaming inj->pT
open PySem.Code renaming quiet_builtin->qx
open PySem.W.WData renaming weightAll->sy,weight->xh
open PySem.AutoSeq1 renaming sub_tuple_tuple->tE,list_insert_list_int_val_1->Js
open PySem.pickOrder renaming go->t9
open PySem.Shared renaming TypeIs->uT
open PySem.Heap.DictOf renaming new->yd
open PySem.Value renaming isInt->yg,isInt_shape->Bn,isStrOf->FN
open PySem.Walks renaming list->AR,dictValues->C0
open PyProof.Rows.IntsAre renaming length->Dr
open PySem.Challenge renaming rw_momentloom_k28_halls_at_their_beginning->Jm
open PySem.Heap.IsSliceOf renaming new->Jo
theorem Z0{p:Prop}(h:∀G:Prop,(p->G)->G):p:=h p id
set_option Elab.async false
set_option linter.all false
set_option compiler.extract_closed false
set_option maxRecDepth 100000
theorem Q0{p:Prop}[Decidable p](h:decide p=true):p:=of_decide_eq_true h
theorem Q3{p:Prop}[Decidable p](h:p):decide p=true:=decide_eq_true h
theorem Q4{p:Prop}[Decidable p](h:¬p):decide p=false:=decide_eq_false h
theorem Q5{c:Prop}{h:Decidable c}(n:¬c){α:Sort u}{t e:α}:ite c t e=e:=if_neg n
theorem Q6{c:Prop}{h:Decidable c}(n:c){α:Sort u}{t e:α}:ite c t e=t:=if_pos n
theorem Q7{a b:Prop}(h:a)(k:¬a):b:=absurd h k
namespace _L
open PySem PySem.Spec PyProof.Rows
abbrev Key:=Sum Int Str
def uf:Key->ae->Bool
 |.inl k,v=>yg k v
 |.inr x,v=>FN x v
def keyH(w:bF):Key->Int
 |.inl k=>hashInt k
 |.inr x=>hashStr w x
theorem gD:∀{k:Key} {v:ae},uf k v=true->(∃i t,k=Sum.inl i/\v=Value.int i t)\/(∃x t,k=Sum.inr x/\v=Value.str x t)
 |.inl i,v,h=>by
  obtain⟨t,e⟩:=Bn h;exact .inl ⟨i,t,Z9,e⟩
 |.inr x,v,h=>by
  obtain⟨t,e⟩:=Value.isStrOf_shape h;exact .inr ⟨x,t,Z9,e⟩
theorem Am(i:Int)(t:Tok):uf (.inl i) (.int i t)=true:=by simp[uf,yg]
theorem An(x:Str)(t:Tok):uf (.inr x) (.str x t)=true:=by simp[uf,FN]
theorem HC(a b:Int):decide ((Sum.inl a:Key)=Sum.inl b)=(a==b):=by
 grind
theorem HE(a b:Str):decide ((Sum.inr a:Key)=Sum.inr b)=decide (a=b):=by
 simp_all
theorem HF(a:Int)(b:Str):decide ((Sum.inl a:Key)=Sum.inr b)=false:=Q4 (fun q=>nomatch q)
theorem HG(a:Str)(b:Int):decide ((Sum.inr a:Key)=Sum.inl b)=false:=Q4 (fun q=>nomatch q)
def eF(prog:aP)(w:bF):PySem.KeyKind prog w Key where
 is:=uf
 hash:=keyH w
 inj:=fun v a b ha hb=>by
  rcases gD ha with⟨i,t,rfl,rfl⟩|⟨x,t,rfl,rfl⟩
  ·rcases gD hb with⟨j,u,rfl,e⟩|⟨y,u,rfl,e⟩
   ·injection e with e1 _;rw[e1]
   ·exact nomatch e
  ·rcases gD hb with⟨j,u,rfl,e⟩|⟨y,u,rfl,e⟩
   ·exact nomatch e
   ·injection e with e1 _;rw[e1]
 byValue:=fun k v h=>by
  rcases gD h with⟨i,t,rfl,rfl⟩|⟨x,t,rfl,rfl⟩<;>rfl
 pyHash:=fun hv h=>by
  rcases gD hv with⟨i,t,rfl,rfl⟩|⟨x,t,rfl,rfl⟩
  ·exact wpAny_pyHash_int h
  ·exact wpAny_pyHash_str h
 eqBool:=fun Z hv h=>by
  rcases gD Z with⟨i,t,rfl,rfl⟩|⟨x,t,rfl,rfl⟩
  ·rcases gD hv with⟨j,u,rfl,rfl⟩|⟨y,u,rfl,rfl⟩
   ·rw[HC]at h;exact wpAny_eqBool_int h
   ·rw[HF]at h;exact SeqAt.EqAt.int_str i t y u _ _ _ _ h
  ·rcases gD hv with⟨j,u,rfl,rfl⟩|⟨y,u,rfl,rfl⟩
   ·rw[HG]at h;exact SeqAt.EqAt.str_int x t j u _ _ _ _ h
   ·rw[HE]at h;exact wpAny_eqBool_str h
 «strs»:=fun k x t v h=>by
  rcases gD h with⟨i,u,rfl,e⟩|⟨y,u,rfl,e⟩
  ·exact nomatch e
  ·injection e with e1 _;subst e1
   cases v<;>rfl
theorem wF(prog:aP)(w:bF)(i:Int)(t:Tok):(eF prog w).is (.inl i) (.int i t)=true:=Am i t
theorem wG(prog:aP)(w:bF)(x:Str)(t:Tok):(eF prog w).is (.inr x) (.str x t)=true:=An x t
inductive V where
 |non|bl (b:Bool)|int (i:Int)|str (x:Str)|byt (b:Array UInt8)|flt (b:UInt64)|ref (a:ab)|ty (n:String)
 deriving DecidableEq
def RelV:V->ae->Prop
 |.non,u=>u=Value.none
 |.bl b,u=>u=Value.bool b
 |.int i,u=>∃t,u=Value.int i t
 |.str x,u=>∃t,u=Value.str x t
 |.byt b,u=>∃t,u=Value.bytes b t
 |.flt b,u=>∃t,u=Value.float b t
 |.ref a,u=>u=Value.ref a
 |.ty n,u=>u=Value.type n
abbrev dU:List V->List ae->Prop:=bM RelV
theorem dU.length{xs:List V}{us:List ae}(r:dU xs us):xs.length=us.length:=bQ r
theorem dU.get:∀{xs:List V} {us:List ae} {i:Nat} {x:V},dU xs us->xs[i]?=Z8 x->∃u,us[i]?=Z8 u/\RelV x u
 |_,_,_,_,.nil,e=>by simp at e
 |_,_,0,_,.cons r _,e=>by simp at e;subst e;exact{_,Z9,r}
 |_,_,i+1,x,.cons _ t,e=>by
  obtain⟨u,h1,h2⟩:=dU.get t (by simpa using e);exact{u,by simpa using h1,h2}
theorem dU.set{x:V}{u:ae}(r:RelV x u):∀{xs:List V} {us:List ae} (i:Nat),dU xs us->dU (xs.set i x) (us.set i u)
 |_,_,_,.nil=>.nil
 |_,_,0,.cons _ t=>.cons r t
 |_,_,i+1,.cons q t=>.cons q (dU.set r i t)
theorem dU.append:∀{xs ys:List V} {us Z:List ae},dU xs us->dU ys Z->dU (xs++ys) (us++Z)
 |_,_,_,_,.nil,s=>s
 |_,_,_,_,.cons r t,s=>.cons r (dU.append t s)
theorem dU.take:∀{xs:List V} {us:List ae} (n:Nat),dU xs us->dU (xs.take n) (us.take n)
 |_,_,0,_=>.nil
 |_,_,_+1,.nil=>.nil
 |_,_,n+1,.cons r t=>.cons r (dU.take n t)
theorem dU.drop:∀{xs:List V} {us:List ae} (n:Nat),dU xs us->dU (xs.drop n) (us.drop n)
 |_,_,0,r=>r
 |_,_,_+1,.nil=>.nil
 |_,_,n+1,.cons _ t=>dU.drop n t
def ng:Option V->Option ae->Prop
 |some v,Z8 u=>RelV v u
 |none,Z7=>True
 |_,_=>False
def KV{κ:Type}:List (κ×V)->List (κ×ae)->Prop:=bM fun (p:κ×V) (q:κ×ae)=>p.1=q.1/\RelV p.2 q.2
def kV:Key->V
 |.inl i=>.int i
 |.inr x=>.str x
inductive HO where
 |l(xs:List V)
 |t(xs:List V)
 |dK(kvs:List (Key×V))|dT (kvs:List (List Key×V))
 |set(S:Int->Bool)(n:Nat)
 |ins(C dx:ab)(fs:List (Str×V))
 |own(x:ab)
 |xd(fs:List (Str×V))
 |met(f x:ab)
 |rng(lo hi:Int)
 |frz(o:Obj)(u:HO)
 |tbl(ps:Array ae)
 |ext(φ:cz->Prop)
set_option genSizeOf false
set_option genInjectivity false
abbrev Hp:=ab->Option HO
def upd(H:Hp)(a:ab)(o:HO):Hp:=fun b=>if b=a then Z8 o else H b
theorem ai{H:Hp}{a:ab}{o:HO}:upd H a o a=Z8 o:=by unfold upd;rw[Q6 rfl]
theorem aV{H:Hp}{a b:ab}{o:HO}(h:b≠a):upd H a o b=H b:=by unfold upd;rw[Q5 h]
theorem cQ{H:Hp}{a b:ab}{o u:HO}(h:H a=Z8 o)(h':H b=Z8 u)(d:o≠u):a≠b:=by
 intro e;subst e;rw[h]at h';exact d (cv h')
theorem aC{H:Hp}{a b:ab}{o:HO}(h:H a=Z8 o)(h':H b=Z7):a≠b:=by
 grind
section
variable(P:aP)(w:bF)
def gE(H:Hp)(h:cz)(a:ab):HO->Prop
 |.l xs=>xs.length<=aF/\∃(its:List ae) (n:Nat),dU xs its/\h.get? a=Z8 {cls:=.type "list",data:=.seq its.toArray n}
 |.t xs=>xs.length<=aF/\∃its:List ae,dU xs its/\wx h a its.toArray
 |.dK kvs=>kvs.length<=aF/\(a==gc)=false/\∃vs,KV kvs vs/\h.DictOf (eF P w) a vs
 |.dT kvs=>kvs.length<=aF/\(a==gc)=false/\∃xs:List (List Key×ab×ae),
   bM (fun (p:List Key×V) (q:List Key×ab×ae)=>p.1=q.1/\H q.2.1=Z8 (.t (p.1.map kV))/\RelV p.2 q.2.2) kvs xs /\
   ∃o es ep,h.get? a=Z8 o/\o.ExactDict/\o.data=.dict es ep/\es.toList=xs.map (entryOfKey (oX (eF P w)))/\(xs.map (·.1)).Nodup
 |.set S n=>h.SetOf (iK P w) a S n
 |.ins C dx fs=>H dx=Z8 (.own a)/\fs.length<=1000/\dx≠a/\h.get? a=Z8 (gU C dx) /\
   ∃mA,h.Ns1 dx mA/\(∀f,ng (fs.lookup f) (mA f))/\wH mA (fs.map (·.1))
 |.own _=>∃o,h.get? a=Z8 o
 |.xd fs=>∃mA,h.Ns1 a mA/\∀f,ng (fs.lookup f) (mA f)
 |.rng lo hi=>∃t u v,h.get? a=Z8 {cls:=.type "range",data:=.fields #[.int lo t,.int hi u,.int 1 v]}
 |.frz o u=>h.get? a=Z8 o/\gE H h a u
 |.tbl ps=>h.get? a=Z8 {cls:=.none,data:=.fields ps}
 |.met f x=>h.get? a=Z8 (PySem.W.methodObj (.ref f) (.ref x))
 |.ext φ=>φ h/\(∃o,h.get? a=Z8 o)/\∀h1 h2:cz,φ h1->(∀o,h1.get? a=Z8 o->h2.get? a=Z8 o)->φ h2
def HOk(H:Hp)(h:cz):Prop:=∀a o,H a=Z8 o->gE P w H h a o
end
section
variable{P:aP}{w:bF}{H H':Hp}{h h':cz}{a:ab}{o:HO}
theorem gE.lt(x:gE P w H h a o):a<h.objs.size:=by
 cases o with
 |l xs=>obtain⟨_,_,_,_,e⟩:=x;exact aI e
 |t xs=>obtain⟨_,_,_,p⟩:=x;exact p.lt
 |dK kvs=>obtain⟨_,_,_,_,o,_,_,e,_⟩:=x;exact aI e
 |dT kvs=>obtain⟨_,_,_,_,o,_,_,e,_⟩:=x;exact aI e
 |set S n=>obtain⟨o,_,_,_,e,_⟩:=x;exact aI e
 |ins C dx fs=>obtain⟨_,_,_,e,_⟩:=x;exact aI e
 |own y=>obtain⟨_,e⟩:=x;exact aI e
 |xd fs=>obtain⟨_,⟨_,_,_,e,_⟩,_⟩:=x;exact aI e
 |rng lo hi=>obtain⟨_,_,_,e⟩:=x;exact aI e
 |frz Z u=>obtain⟨e,_⟩:=x;exact aI e
 |tbl ps=>exact aI (x)
 |met f y=>exact aI (x)
 |ext φ=>obtain⟨_,⟨_,e⟩,_⟩:=x;exact aI e
theorem Paired.mapP{X W:Type}{F G:X->W->Prop}:∀{Z:List X} {Y:List W},bM F Z Y->(∀a b,F a b->G a b)->bM G Z Y
 |_,_,.nil,_=>.nil
 |_,_,.cons r t,f=>.cons (f _ _ r) (Paired.mapP t f)
theorem Paired.imp'{X W:Type}{F G:X->W->Prop}(f:∀a b,F a b->G a b){Z:List X}{Y:List W}(r:bM F Z Y):bM G Z Y:=Paired.mapP r f
theorem gE.stay(x:gE P w H h a o)(k:∀b u,(b=a\/H b=Z8 (.own a))->h.get? b=Z8 u->h'.get? b=Z8 u)
  (W:∀b,H b=Z8 (.own a)->H' b=Z8 (.own a)) (X:∀b xs,H b=Z8 (.t xs)->H' b=Z8 (.t xs)):gE P w H' h' a o:=by
 induction o with
 |l xs=>obtain⟨z,its,n,r,e⟩:=x;exact{z,its,n,r,k _ _ (.inl rfl) e}
 |t xs=>obtain⟨z,its,r,Z,e,c⟩:=x;exact{z,its,r,Z,k _ _ (.inl rfl) e,c}
 |dK kvs=>obtain⟨z,y,vs,r,Z,es,ep,e,c⟩:=x;exact{z,y,vs,r,Z,es,ep,k _ _ (.inl rfl) e,c}
 |dT kvs=>
  obtain⟨z,y,xs,r,Z,es,ep,e,c⟩:=x;exact{z,y,xs,Paired.mapP r fun p q z=>{z.1,X _ _ z.2.1,z.2.2},Z,es,ep,k _ _ (.inl rfl) e,c}
 |set S n=>obtain⟨Z,es,ep,t,e,c⟩:=x;exact{Z,es,ep,t,k _ _ (.inl rfl) e,c}
 |ins C dx fs=>
  obtain⟨d,z,ne,e,mA,⟨Y,es,ep,V,c⟩,r⟩:=x;exact{W _ d,z,ne,k _ _ (.inl rfl) e,mA,{Y,es,ep,k _ _ (.inr d) V,c},r}
 |own y=>obtain⟨Z,e⟩:=x;exact{Z,k _ _ (.inl rfl) e}
 |xd fs=>obtain⟨mA,⟨Y,es,ep,e,c⟩,r⟩:=x;exact{mA,{Y,es,ep,k _ _ (.inl rfl) e,c},r}
 |rng lo hi=>obtain⟨t,u,v,e⟩:=x;exact{t,u,v,k _ _ (.inl rfl) e}
 |frz Z u U=>obtain⟨e,q⟩:=x;exact{k _ _ (.inl rfl) e,U q}
 |tbl ps=>
  exact k a _ (.inl rfl) (x)
 |met f y=>
  exact k a _ (.inl rfl) (x)
 |ext φ=>obtain⟨p,⟨o,e⟩,st⟩:=x;exact{st _ _ p fun o q=>k _ _ (.inl rfl) q,{o,k _ _ (.inl rfl) e},st}
theorem HOk.lt(x:HOk P w H h)(e:H a=Z8 o):a<h.objs.size:=(x a o e).lt
theorem HOk.fresh(x:HOk P w H h)(e:h.objs.size<=a):H a=Z7:=by
 cases q:H a with
 |none=>rfl
 |some u=>exact Q7 (aZ (x.lt q) e) (fh _)
theorem HOk.kept(x:HOk P w H h)(k:∀b u,h.get? b=Z8 u->h'.get? b=Z8 u):HOk P w H h':=fun a o e=>
 (x a o e).stay (fun b u _ q=>k b u q) (fun _ q=>q) fun _ _ q=>q
theorem HOk.laid(x:HOk P w H h)(k:∀b u,h.get? b=Z8 u->h'.get? b=Z8 u)(hp:h.objs.size<=a)(new:gE P w (upd H a o) h' a o):HOk P w (upd H a o) h':=fun b u e=>by
 have hn:=x.fresh hp
 by_cases hb:b=a
 ·subst hb;rw[ai]at e;cases e;exact new
 ·rw[aV hb]at e;exact (x b u e).stay (fun c v _ q=>k c v q) (fun c q=>(aV (aC q hn)) ▸ q) fun c xs q=>(aV (aC q hn)) ▸ q
end
def Rd(H:Hp)(a:ab)(u:HO):Prop:=H a=Z8 u\/∃o,H a=Z8 (.frz o u)
theorem Rd.ok{P:aP}{w:bF}{H:Hp}{h:cz}{a:ab}{u:HO}(r:Rd H a u)(x:HOk P w H h):gE P w H h a u:=by
 rcases r with r|⟨o,r⟩
 ·exact x a u r
 ·obtain⟨_,q⟩:=x a _ r;exact q
def Mut:Option HO->Prop
 |some (.l _)=>True
 |some (.dK _)=>True
 |some (.dT _)=>True
 |some (.set _ _)=>True
 |some (.ins _ _ _)=>True
 |some (.ext _)=>True
 |_=>False
section
variable{P:aP}{w:bF}{H:Hp}{h h':cz}{x e:ab}{o':HO}
theorem HOk.write(ok:HOk P w H h)(X:Mut (H x))(U:e=x\/H e=Z8 (.own x))(k:∀b u,b≠e->h.get? b=Z8 u->h'.get? b=Z8 u)(W:∃u,h'.get? e=Z8 u)
  (new:gE P w (upd H x o') h' x o'):HOk P w (upd H x o') h':=fun b u q=>by
 have Y:∀c y,H c=Z8 (.own y)->c≠x:=fun c y r z=>by subst z;rw[r]at X;exact X
 by_cases hb:b=x
 ·subst hb;rw[ai]at q;cases q;exact new
 ·rw[aV hb]at q
  by_cases Z:b=e
  ·have V:H b=Z8 (.own x):=by
    rcases U with z|z
    ·exact Q7 (Z.trans z) hb
    ·rw[Z];exact z
   rw[q]at V;cases V;obtain⟨v,hv⟩:=W;exact{v,Z ▸ hv}
  ·refine (ok b u q).stay (fun c v hc r=>k c v ?_ r) (fun c r=>(aV (Y c b r)) ▸ r) fun c xs r=>by rw[aV ((fun c xs r z=>by subst z;rw[r]at X;exact X) c xs r)];exact r
   rcases hc with rfl|hc
   ·exact Z
   ·grind
end
structure Un(fs ex:List ab)(H H':Hp)(h h':cz):Prop where
 keep:∀b o,h.get? b=Z8 o->H b=Z7->b∉fs->b∉ex->h'.get? b=Z8 o
 slot:∀b o,h.get? b=Z8 o->H b=Z7->b∈fs->b∉ex->∃sl,h'.get? b=Z8 {o with slots:=sl}
 free:∀b o,h.get? b=Z8 o->H b=Z7->b∉ex->H' b=Z7
 there:∀b o,h.get? b=Z8 o->b∉ex->∃o',h'.get? b=Z8 o'
 tups:∀b xs,H b=Z8 (.t xs)->H' b=Z8 (.t xs)
 frzs:∀b o u,H b=Z8 (.frz o u)->H' b=Z8 (.frz o u)
 tbls:∀b ps,H b=Z8 (.tbl ps)->∃more,H' b=Z8 (.tbl (ps++more))
section
variable{fs fs' ex ex':List ab}{H H1 H2:Hp}{h h1 h2 h':cz}{a x e:ab}{o:HO}
theorem Un.any(u:Un fs ex H H1 h h1){b:ab}{Z:Obj}(q:h.get? b=Z8 Z)(n:H b=Z7)(hx:b∉ex):∃Y,h1.get? b=Z8 {Z with slots:=Y}:=by
 by_cases hb:b∈fs
 ·exact u.slot b Z q n hb hx
 ·exact{Z.slots,u.keep b Z q n hb hx}
theorem Un.kept(k:∀b u,h.get? b=Z8 u->h'.get? b=Z8 u):Un fs ex H H h h':=
 {fun b Z q _ _ _=>k b Z q,fun b Z q _ _ _=>{Z.slots,k b Z q},fun _ _ _ n _=>n,fun b Z q _=>{Z,k b Z q},fun _ _ q=>q,fun _ _ _ q=>q,fun _ ps q=>{#[],by rw[q];simp}}
theorem Un.refl:Un fs ex H H h h:=Un.kept fun _ _ q=>q
theorem Un.laid(k:∀b u,h.get? b=Z8 u->h'.get? b=Z8 u)(hp:h.objs.size<=a)(hn:H a=Z7):Un fs ex H (upd H a o) h h' where
 keep:=fun b u q _ _ _=>k b u q
 slot:=fun b u q _ _ _=>{u.slots,k b u q}
 free:=fun b u q n _=>(aV (aG (aZ (aI q) hp))) ▸ n
 there:=fun b u q _=>{u,k b u q}
 tups:=fun b xs q=>(aV (aC q hn)) ▸ q
 frzs:=fun b u xs q=>(aV (aC q hn)) ▸ q
 tbls:=fun b ps q=>{#[],by rw[aV (aC q hn),q];simp}
theorem Un.write(Y:Mut (H x))(V:e=x\/H e=Z8 (.own x))(k:∀b u,b≠e->h.get? b=Z8 u->h'.get? b=Z8 u)(X:∃u,h'.get? e=Z8 u):Un fs ex H (upd H x o) h h':=by
 have hx:∀b,H b=Z7->b≠x:=fun b n z=>by subst z;rw[n]at Y;exact Y
 have hb:∀b,H b=Z7->b≠e:=fun b n z=>by
  subst z
  rcases V with r|r
  ·exact hx b n r
  ·rw[n]at r;cases r
 have W:∀b u,H b=Z8 u->¬Mut (Z8 u)->b≠x:=fun b u q nm z=>by subst z;rw[q]at Y;exact nm Y
 refine⟨fun b u q n _ _=>k b u (hb b n) q,fun b u q n _ _=>{u.slots,k b u (hb b n) q},fun b u q n _=>(aV (hx b n)) ▸ n,fun b u q _=>?_,
  fun b xs q=>(aV (W b _ q fun z=>z)) ▸ q,fun b u xs q=>(aV (W b _ q fun z=>z)) ▸ q,fun b ps q=>{#[],by rw[aV (W b _ q fun z=>z),q];simp}⟩
 by_cases Z:b=e
 ·subst Z;exact X
 ·exact{u,k b u Z q}
end
def trk(h:cz)(H:Hp):List ab:=(i9 h.objs.size).filter fun a=>(H a).isSome
def Ao(h:cz)(H:Hp):cz:=PySem.W.hideAll h (trk h H)
theorem Ap(h:cz)(H:Hp):(Ao h H).objs.size=h.objs.size:=PySem.W.hideAll_size _ _
theorem Bz{h:cz}{H:Hp}{b:ab}{o:Obj}(e:h.get? b=Z8 o)(n:H b=Z7):(Ao h H).get? b=Z8 o:=
 PySem.W.hideAll_get _ e fun Z=>by
  have q:=(eQ.mp Z).2;rw[n]at q;simp at q
theorem Ek{h:cz}{H:Hp}{b:ab}{o:Obj}(e:(Ao h H).get? b=Z8 o):h.get? b=Z8 o/\H b=Z7:=by
 have Z:=PySem.W.of_hideAll (trk h H) e;refine{Z,?_}
 cases q:H b with
 |none=>rfl
 |some x=>
  have z:(Ao h H).get? b=Z7:=PySem.W.hideAll_none (trk h H) (eQ.mpr {ug.mpr (aI Z),by simp[q]});rw[z]at e;cases e
structure Mod(K:ag)(mg:Str->Option ae)(base:cz):Prop where
 kin:K.In base
 glob:base.Ns bW mg
 blt:∃mb,base.Ns HH mb/\∀x:Str,x≠"__name__"->mb x=eh x
 nolimit:base.NoLimit
structure Cx where
 prog:aP
 w:bF
 K:ag
 mg:Str->Option ae
 base:cz
 A:cm
 N:List Str
 s₀:aj
 H₀:Hp
 env:Env
 outer:List Env
 stack:List Env
 ex:List ab
 fn:Str->Bool
 calm:Bool
 pn:List (ab×Obj)
 xe:ae->aj->Prop
def frs(l:List Env):List ab:=l.filterMap (·.frame)
abbrev Cx.fs(X:Cx):List ab:=frs X.outer
def Vis(sc:kE)(x:Str):Prop:=sc.names.lookup x=Z8 .local\/sc.names.lookup x=Z8 .cell\/sc.names.lookup x=Z8 .free
def Loc(sc:kE)(x:Str):Prop:=sc.names.lookup x=Z8 .local\/sc.names.lookup x=Z8 .cell
def Look(env:Env)(h:cz)(m:Str->Option ae)(x:Str)(u:ae):Prop:=
 (env.kindOf x=Z8 .local/\m x=Z8 u)\/((env.kindOf x=Z8 .cell\/env.kindOf x=Z8 .free)/\∃c,env.cells.lookup x=Z8 c/\h.IsCell c (Z8 u))
structure Cx.Ok(X:Cx):Prop where
 mod:Mod X.K X.mg X.base
 kind:X.env.scope.kind=.function
 glob:X.env.globals=bW
 blt:X.env.builtins=HH
 above:X.s₀.heap.objs.size<=X.env.locals
 inj:∀x y c,X.env.cells.lookup x=Z8 c->X.env.cells.lookup y=Z8 c->x=y
 has:∀x,(X.env.kindOf x=Z8 .cell\/X.env.kindOf x=Z8 .free)->∃c,X.env.cells.lookup x=Z8 c
 cab:∀x c,X.fn x=true->X.env.cells.lookup x=Z8 c->X.s₀.heap.objs.size<=c
 hd:X.calm=true->X.A.handled=Z7
 frames:X.A.frames=Z8 X.stack
 stk:X.stack=X.outer\/(X.stack=X.env::X.outer/\X.env.frame=Z8 X.env.locals)
 exf:∀b∈X.ex,b≠X.env.locals/\∀x c,X.env.cells.lookup x=Z8 c->c≠b
 bs:∀b o,X.base.get? b=Z8 o->X.s₀.heap.get? b=Z8 o/\X.H₀ b=Z7
 bsz:X.base.objs.size<=X.s₀.heap.objs.size
 noex:∀b o,X.base.get? b=Z8 o->b∉X.ex
 exfs:∀b∈X.ex,b∉X.fs
 funs:X.s₀.heap.FunFrames X.base X.outer
 frf:∀b∈X.fs,X.H₀ b=Z7
structure Inv(X:Cx)(pins:List (ab×Obj))(σ:List (Option V))(H:Hp)(s:aj):Prop where
 ok:X.Ok
 os:s.os=X.s₀.os
 bare:pk s.gens
 base:Un X.fs X.ex X.H₀ H X.s₀.heap s.heap
 loc:∃m,s.heap.Ns X.env.locals m/\∀(i:Nat) (x:Str) (v:V),X.N[i]?=Z8 x->σ[i]?=Z8 (Z8 v)->Vis X.env.scope x->∃u,RelV v u/\Look X.env s.heap m x u
 cell:∀x c,X.env.cells.lookup x=Z8 c->∃v,s.heap.IsCell c v
 free:H X.env.locals=Z7
 freeC:∀x c,X.env.cells.lookup x=Z8 c->H c=Z7
 pin:∀p∈X.pn++pins,s.heap.get? p.1=Z8 p.2/\H p.1=Z7/\p.1≠X.env.locals/\p.1∉X.fs/\∀v,p.2.data≠.cell v
 hok:HOk X.prog X.w H s.heap
 len:σ.length=X.N.length
section
variable{X:Cx}{pins:List (ab×Obj)}{σ:List (Option V)}{H H':Hp}{s:aj}{h':cz}
theorem Cx.Ok.nofr(ok:X.Ok){b:ab}{o:Obj}(e:X.base.get? b=Z8 o):b∉X.fs:=fun hb=>by
 have:=(ok.funs.mem hb).1;rw[e]at this;cases this
theorem Inv.bs(I:Inv X pins σ H s):∀b o,X.base.get? b=Z8 o->s.heap.get? b=Z8 o/\H b=Z7:=fun b o e=>
 {I.base.keep b o (I.ok.bs b o e).1 (I.ok.bs b o e).2 (I.ok.nofr e) (I.ok.noex b o e),I.base.free b o (I.ok.bs b o e).1 (I.ok.bs b o e).2 (I.ok.noex b o e)}
theorem Inv.bk(I:Inv X pins σ H s):∀b o,X.base.get? b=Z8 o->s.heap.get? b=Z8 o:=fun b o e=>(I.bs b o e).1
theorem Inv.mod(I:Inv X pins σ H s):Mod X.K X.mg X.base:=I.ok.mod
theorem Inv.kIn(I:Inv X pins σ H s):X.K.In s.heap:=I.ok.mod.kin.keeps I.bk
theorem Inv.fr(I:Inv X pins σ H s):∃m,Fr X.base X.env.locals s.heap m:=
 let ⟨m,hn,_⟩:=I.loc
 {m,hn,I.bk,dh I.ok.bsz I.ok.above}
theorem Inv.lt(I:Inv X pins σ H s):X.env.locals<s.heap.objs.size:=let ⟨_,hn,_⟩:=I.loc;hn.lt
theorem Inv.sz(I:Inv X pins σ H s):X.s₀.heap.objs.size<=s.heap.objs.size:=dh I.ok.above (nY I.lt)
theorem Inv.nofs(I:Inv X pins σ H s){a:ab}(h:s.heap.objs.size<=a):a∉X.fs:=fun hb=>by
 obtain⟨_,o,Z,_⟩:=I.ok.funs.mem hb;exact Q7 (aZ (aI Z) (dh I.sz h)) (fh _)
theorem Inv.cne(I:Inv X pins σ H s):∀x c,X.env.cells.lookup x=Z8 c->c≠X.env.locals:=fun x c e z=>by
 obtain⟨v,o,V,W⟩:=I.cell x c e;obtain⟨m,⟨o',es,ep,Z,Y,_⟩,_⟩:=I.loc;rw[z,Z]at V;cases V;rw[Y]at W;cases W
theorem Inv.funs(I:Inv X pins σ H s):s.heap.FunFrames X.base X.outer:=by
 have all:∀l,(∀b∈frs l,b∈X.fs)->X.s₀.heap.FunFrames X.base l->s.heap.FunFrames X.base l:=by
  intro l
  induction l with
  |nil=>intro _ _;trivial
  |cons env r M=>
   intro hs O;obtain⟨hk,⟨L,o,Z,hn,U,W⟩,V⟩:=O;have Y:=hs L (by unfold frs;rw[pM,Z];exact aU);obtain⟨J,e⟩:=I.base.slot L o U (I.ok.frf L Y) Y fun z=>I.ok.exfs L z Y;exact{hk,{L,_,Z,hn,e,W},M (fun b hb=>hs b (by unfold frs;rw[pM,Z];exact bL _ hb)) V}
 exact all X.outer (fun _ hb=>hb) I.ok.funs
theorem Inv.stack(I:Inv X pins σ H s):s.heap.FunFrames X.base X.stack:=by
 rcases I.ok.stk with e|⟨e,Z⟩
 ·rw[e];exact I.funs
 ·rw[e];obtain⟨m,hn,_⟩:=I.loc;exact .cons (by rw[I.ok.kind];decide) Z hn (Heap.get?_none_of_le (dh I.ok.bsz I.ok.above)) I.funs
theorem Inv.stkSub(I:Inv X pins σ H s):∀b∈frs X.stack,b∈X.env.locals::X.fs:=fun b hb=>by
 rcases I.ok.stk with e|⟨e,Z⟩
 ·rw[e]at hb;exact bL _ hb
 ·rw[e]at hb;unfold frs at hb;rw[pM,Z]at hb;exact hb
theorem Inv.stkFree(I:Inv X pins σ H s):∀b∈frs X.stack,H b=Z7:=fun b hb=>by
 rcases aD.mp (I.stkSub b hb) with e|hb
 ·rw[e];exact I.free
 ·obtain⟨_,o,Z,_⟩:=I.ok.funs.mem hb;exact I.base.free b o Z (I.ok.frf b hb) fun z=>I.ok.exfs b z hb
theorem Inv.step{g':Array El}{t':Nat}{d':Drawn}{ch:List ab}(I:Inv X pins σ H s)
  (Y:∀b∈ch,(b∈X.ex\/X.s₀.heap.objs.size<=b)/\b≠X.env.locals/\(∀x c,X.env.cells.lookup x=Z8 c->c≠b)/\∀p∈X.pn++pins,p.1≠b)
  (keep:∀b o,b≠X.env.locals->b∉X.fs->b∉ch->s.heap.get? b=Z8 o->H b=Z7->h'.get? b=Z8 o)
  (slot:∀b o,b≠X.env.locals->b∈X.fs->b∉ch->s.heap.get? b=Z8 o->H b=Z7->∃B,h'.get? b=Z8 {o with slots:=B}) (free:∀b o,b∉ch->s.heap.get? b=Z8 o->H b=Z7->H' b=Z7)
  (there:∀b o,b∉ch->s.heap.get? b=Z8 o->∃o',h'.get? b=Z8 o')
  (tups:∀b xs,H b=Z8 (.t xs)->H' b=Z8 (.t xs)) (frzs:∀b o u,H b=Z8 (.frz o u)->H' b=Z8 (.frz o u)) (tbls:∀b ps,H b=Z8 (.tbl ps)->∃more,H' b=Z8 (.tbl (ps++more)))
  (f:∀m,s.heap.Ns X.env.locals m->h'.Ns X.env.locals m) (J:HOk X.prog X.w H' h') (g:pk g') :
  Inv X pins σ H' {s with heap:=h',gens:=g',drawn:=d',toks:=t'}:=by
 have O:∀b o,X.s₀.heap.get? b=Z8 o->b≠X.env.locals:=fun b o e=>aG (aZ (aI e) I.ok.above);have V:∀b o,X.s₀.heap.get? b=Z8 o->b∉X.ex->b∉ch:=fun b o e hx hb=>by
  rcases (Y b hb).1 with z|z
  ·exact hx z
  ·exact Q7 (aZ (aI e) z) (fh _)
 have Z:∀x c,X.env.cells.lookup x=Z8 c->∀v,s.heap.IsCell c v->h'.IsCell c v:=fun x c e v ⟨o,U,L⟩=>by
  have W:=fun z=>(Y c z).2.2.1 x c e rfl
  by_cases hc:c∈X.fs
  ·obtain⟨B,q⟩:=slot c o (I.cne x c e) hc W U (I.freeC x c e);exact{_,q,L}
  ·exact{o,keep c o (I.cne x c e) hc W U (I.freeC x c e),L}
 refine{I.ok,I.os,g,{fun b o e n hb hx=>?_,fun b o e n hb hx=>?_,fun b o e n hx=>?_,fun b o e hx=>?_,fun b xs e=>tups b xs (I.base.tups b xs e),fun b o xs e=>frzs b o xs (I.base.frzs b o xs e),fun b ps e=>?_},?_,fun x c e=>?_,?_,fun x c e=>?_,fun p hp=>?_,J,I.len}
 ·exact keep b o (O b o e) hb (V b o e hx) (I.base.keep b o e n hb hx) (I.base.free b o e n hx)
 ·obtain⟨B,e1⟩:=I.base.slot b o e n hb hx;obtain⟨D,M⟩:=slot b _ (O b o e) hb (V b o e hx) e1 (I.base.free b o e n hx);exact⟨D,M⟩
 ·obtain⟨o',e1⟩:=I.base.there b o e hx;exact free b o' (V b o e hx) e1 (I.base.free b o e n hx)
 ·obtain⟨o',e1⟩:=I.base.there b o e hx;exact there b o' (V b o e hx) e1
 ·obtain⟨t,e1⟩:=I.base.tbls b ps e;obtain⟨m2,M⟩:=tbls b _ e1;exact{t++m2,by rw[M,Array.append_assoc]}
 ·obtain⟨m,hn,hl⟩:=I.loc;refine{m,f m hn,fun i x v e1 M e3=>?_};obtain⟨u,r,l⟩:=hl i x v e1 M e3;refine{u,r,?_}
  rcases l with l|⟨k,c,e,z⟩
  ·exact .inl l
  ·exact .inr {k,c,e,Z x c e _ z}
 ·obtain⟨v,z⟩:=I.cell x c e;exact{v,Z x c e v z}
 ·obtain⟨m,⟨o,_,_,U,_⟩,_⟩:=I.loc;exact free _ o (fun z=>(Y _ z).2.1 rfl) U I.free
 ·obtain⟨v,o,U,L⟩:=I.cell x c e;exact free c o (fun z=>(Y c z).2.2.1 x c e rfl) U (I.freeC x c e)
 ·obtain⟨e,n,ne,y,d⟩:=I.pin p hp;have W:=fun z=>(Y p.1 z).2.2.2 p hp rfl;exact{keep p.1 p.2 ne y W e n,free p.1 p.2 W e n,ne,y,d}
theorem Inv.un{t':Nat}(I:Inv X pins σ H s)(u:Un X.fs [] H H' s.heap h')(W:HOk X.prog X.w H' h'):Inv X pins σ H' {s with heap:=h',toks:=t'}:=by
 obtain⟨m,⟨o,es,ep,U,r⟩,_⟩:=id I.loc;obtain⟨J,L⟩:=u.any U I.free (by simp);exact I.step (g':=s.gens) (d':=s.drawn) (ch:=[]) (fun _ z=>nomatch z) (fun b o _ hb _ e n=>u.keep b o e n hb (by simp)) (fun b o _ hb _ e n=>u.slot b o e n hb (by simp)) (fun b o _ e n=>u.free b o e n (by simp)) (fun b o _ e=>u.there b o e (by simp)) u.tups u.frzs u.tbls (fun D M=>by
  obtain⟨o',V,Y,Z,O⟩:=M;rw[U]at Z;cases Z;exact{_,V,Y,L,O}) W I.bare
theorem Inv.call{g':Array El}{t':Nat}{d':Drawn}{ch:List ab}(I:Inv X pins σ H s)(u:Un (frs X.stack) ch H H' s.heap h')(V:HOk X.prog X.w H' h')(L:pk g')
  (Y:∀b∈ch,(b∈X.ex\/X.s₀.heap.objs.size<=b)/\b≠X.env.locals/\(∀x c,X.env.cells.lookup x=Z8 c->c≠b)/\∀p∈X.pn++pins,p.1≠b) :
  Inv X pins σ H' {s with heap:=h',gens:=g',drawn:=d',toks:=t'}:=by
 obtain⟨m,⟨o,es,ep,M,r⟩,_⟩:=id I.loc;obtain⟨B,O⟩:=u.any M I.free fun z=>(Y _ z).2.1 rfl;exact I.step Y (fun b o O hb hc e n=>u.keep b o e n (fun z=>(aD.mp (I.stkSub b z)).elim O hb) hc) (fun b o _ _ hc e n=>u.any e n hc) (fun b o hc e n=>u.free b o e n hc) (fun b o hc e=>u.there b o e hc) u.tups u.frzs u.tbls (fun y D=>by
  obtain⟨o',U,W,Z,J⟩:=D;rw[M]at Z;cases Z;exact{_,U,W,O,J}) V L
theorem Inv.turned{t':Nat}{it:ab}(I:Inv X pins σ H s)(k:∀b o,b≠it->s.heap.get? b=Z8 o->h'.get? b=Z8 o)(hn:H it=Z7)(Y:it≠X.env.locals)
  (h1:it∈X.ex\/X.s₀.heap.objs.size<=it) (h2:∀x c,X.env.cells.lookup x=Z8 c->c≠it) (U:∀p∈X.pn++pins,p.1≠it):Inv X pins σ H {s with heap:=h',toks:=t'}:=by
 have Z:∀b u,H b=Z8 u->b≠it:=fun b u e z=>by rw[z,hn]at e;cases e
 refine I.step (g':=s.gens) (d':=s.drawn) (ch:=[it]) (fun b hb=>?_) (fun b o _ _ hc e _=>k b o (fun z=>hc (by simp[z])) e) (fun b o _ _ hc e _=>{o.slots,k b o (fun z=>hc (by simp[z])) e}) (fun _ _ _ _ n=>n)
  (fun b o hc e=>{o,k b o (fun z=>hc (by simp[z])) e}) (fun _ _ e=>e) (fun _ _ _ e=>e) (fun b ps e=>{#[],by rw[e];simp}) (fun m V=>?_) (fun b u e=>?_) I.bare
 ·have e:b=it:=by simpa using hb
  subst e;exact⟨h1,Y,h2,U⟩
 ·obtain⟨o,es,ep,W,r⟩:=V;exact{o,es,ep,k _ o (cE Y) W,r}
 ·refine (I.hok b u e).stay (fun c v hc q=>k c v ?_ q) (fun _ q=>q) fun _ _ q=>q
  rcases hc with z|z
  ·rw[z];exact Z b u e
  ·exact Z c _ z
theorem Inv.tok(I:Inv X pins σ H s)(t:Nat):Inv X pins σ H {s with toks:=t}:=I.un (h':=s.heap) (t':=t) Un.refl I.hok
theorem Inv.kept{t':Nat}(I:Inv X pins σ H s)(k:∀b u,s.heap.get? b=Z8 u->h'.get? b=Z8 u):Inv X pins σ H {s with heap:=h',toks:=t'}:=I.un (Un.kept k) (I.hok.kept k)
theorem Inv.laid{a:ab}{o:HO}{t':Nat}(I:Inv X pins σ H s)(k:∀b u,s.heap.get? b=Z8 u->h'.get? b=Z8 u)(hp:s.heap.objs.size<=a)(new:gE X.prog X.w (upd H a o) h' a o) :
  Inv X pins σ (upd H a o) {s with heap:=h',toks:=t'}:=I.un (Un.laid k hp (I.hok.fresh hp)) (I.hok.laid k hp new)
theorem Inv.write{x e:ab}{o:HO}{t':Nat}(I:Inv X pins σ H s)(W:Mut (H x))(Y:e=x\/H e=Z8 (.own x))(k:∀b u,b≠e->s.heap.get? b=Z8 u->h'.get? b=Z8 u)(Z:∃u,h'.get? e=Z8 u)
  (new:gE X.prog X.w (upd H x o) h' x o):Inv X pins σ (upd H x o) {s with heap:=h',toks:=t'}:=I.un (Un.write W Y k Z) (I.hok.write W Y k Z new)
theorem Inv.weak{Z:List (Option V)}(I:Inv X pins σ H s)(U:Z.length=σ.length)(w:∀(i:Nat) v,Z[i]?=Z8 (Z8 v)->σ[i]?=Z8 (Z8 v)):Inv X pins Z H s:=
 {I.ok,I.os,I.bare,I.base,let ⟨m,hn,Y⟩:=I.loc;{m,hn,fun i x v e1 W e3=>Y i x v e1 (w i v W) e3},I.cell,I.free,I.freeC,I.pin,I.hok,U.trans I.len}
theorem Inv.pins_of{Z:List (ab×Obj)}(I:Inv X pins σ H s)(h:∀p∈Z,s.heap.get? p.1=Z8 p.2/\H p.1=Z7/\p.1≠X.env.locals/\p.1∉X.fs/\∀v,p.2.data≠.cell v):Inv X Z σ H s:=
 {I.ok,I.os,I.bare,I.base,I.loc,I.cell,I.free,I.freeC,fun p hp=>(cj.mp hp).elim (fun z=>I.pin p (o6 _ z)) (h p),I.hok,I.len}
theorem wI{N:List Str}(Y:N.Nodup){i j:Nat}{x:Str}(a:N[i]?=Z8 x)(b:N[j]?=Z8 x):i=j:=by
 obtain⟨h1,e1⟩:=ay.mp a;obtain⟨h2,Z⟩:=ay.mp b;exact (List.getElem_inj Y).mp (e1.trans Z.symm)
theorem uh{M:Model}{A:cm}{E:ae->aj->Prop}{i:Nat}{x:Str}{v:V}{u:ae}{Q:Unit->aj->Prop}(I:Inv X pins σ H s)(hN:X.N.Nodup)(hi:X.N[i]?=Z8 x)(hx:Loc X.env.scope x)(r:RelV v u)
  (h:∀s',Inv X pins (σ.set i (Z8 v)) H s'->(∃a,fX a s.heap s'.heap/\(a=X.env.locals\/X.env.cells.lookup x=Z8 a))->Q () s') (hf:X.fn x=true\/X.env.scope.names.lookup x=Z8 .local:=by first|exact .inl rfl|exact .inr rfl|assumption):aN M A (storeName X.env x u) Q E s:=by
 obtain⟨m,hn,hl⟩:=id I.loc;have W:=I.len ▸ (ay.mp hi).1;have cne:=I.cne;have Z:∀{a:ab} {h':cz},(∃o,s.heap.get? a=Z8 o/\H a=Z7)->fX a s.heap h'->HOk X.prog X.w H h':=fun {a h'} ha hs b ob e=>by
  obtain⟨_,_,bv⟩:=ha;refine (I.hok b ob e).stay (fun c g hc q=>(hs.2 c ?_).trans q) (fun _ q=>q) fun _ _ q=>q;rintro rfl
  rcases hc with rfl|hc
  ·simp_all
  ·simp_all
 rcases hx with hk|hk
 ·refine wpAny_storeName_local hk hn (fun h' bu hs=>?_) (I.ok.kind ▸ rfl);obtain⟨oL,_,_,bw,_⟩:=id hn;refine h _ {I.ok,I.os,I.bare,{fun b o e n hb hx=>?_,fun b o e n hb hx=>?_,I.base.free,fun b o e hx=>?_,I.base.tups,I.base.frzs,I.base.tbls},{_,bu,fun j y v' e1 Y e3=>?_},fun y c e=>?_,I.free,I.freeC,fun p hp=>?_,Z ⟨oL,bw,I.free⟩ hs,by simpa using I.len} {_,hs,.inl rfl}
  ·exact (hs.2 b (aG (aZ (aI e) I.ok.above))).trans (I.base.keep b o e n hb hx)
  ·obtain⟨sl,e1⟩:=I.base.slot b o e n hb hx;exact{sl,(hs.2 b (aG (aZ (aI e) I.ok.above))).trans e1}
  ·obtain⟨o',e1⟩:=I.base.there b o e hx;exact{o',(hs.2 b (aG (aZ (aI e) I.ok.above))).trans e1}
  ·by_cases O:j=i
   ·subst O;rw[hi]at e1;cases e1;rw[xY W]at Y
    cases Y;exact{u,r,.inl {hk,by simp}}
   ·rw[zu (cE O)]at Y;obtain⟨u',f,q⟩:=hl j y v' e1 Y e3;refine{u',f,?_}
    rcases q with⟨k,e⟩|⟨k,c,e,z⟩
    ·refine .inl {k,?_};have:y≠x:=fun e=>O (wI hN e1 (e ▸ hi));simp[this,e]
    ·exact .inr {k,c,e,z.sameBut hs (cne y c e)}
  ·obtain⟨g,z⟩:=I.cell y c e;exact{g,z.sameBut hs (cne y c e)}
  ·obtain⟨e,n,ne,nf,d⟩:=I.pin p hp;exact{(hs.2 p.1 ne).trans e,n,ne,nf,d}
 ·have U:X.fn x=true:=by
   rcases hf with z|z
   ·exact z
   ·rw[z]at hk;cases hk
  obtain⟨c,hc⟩:=I.ok.has x (.inl hk);obtain⟨g,z⟩:=I.cell x c hc;refine wpAny_storeName_cell I.ok.kind hk hc z (fun h' J hs=>?_);obtain⟨oc,D,B⟩:=id z;refine h {s with heap:=h'} {I.ok,I.os,I.bare,{fun b o e n hb hx=>?_,fun b o e n hb hx=>?_,I.base.free,fun b o e hx=>?_,I.base.tups,I.base.frzs,I.base.tbls},{m,hn.sameBut hs (cE (cne x c hc)),fun j y v' e1 Y e3=>?_},fun y t e=>?_,I.free,I.freeC,fun p hp=>?_,Z {oc,D,I.freeC x c hc} hs,by simpa using I.len} {c,hs,.inr hc}
  ·exact (hs.2 b (aG (aZ (aI e) (I.ok.cab x c U hc)))).trans (I.base.keep b o e n hb hx)
  ·obtain⟨sl,e1⟩:=I.base.slot b o e n hb hx;exact{sl,(hs.2 b (aG (aZ (aI e) (I.ok.cab x c U hc)))).trans e1}
  ·obtain⟨o',e1⟩:=I.base.there b o e hx;exact{o',(hs.2 b (aG (aZ (aI e) (I.ok.cab x c U hc)))).trans e1}
  ·by_cases O:j=i
   ·subst O;rw[hi]at e1;cases e1;rw[xY W]at Y
    cases Y;exact{u,r,.inr {.inl hk,c,hc,J}}
   ·rw[zu (cE O)]at Y;obtain⟨u',f,q⟩:=hl j y v' e1 Y e3;refine{u',f,?_}
    rcases q with q|⟨k,t,e,z'⟩
    ·exact .inl q
    ·refine .inr {k,t,e,z'.sameBut hs ?_};rintro rfl;exact O (wI hN e1 (I.ok.inj _ _ _ e hc ▸ hi))
  ·by_cases L:t=c
   ·subst L;exact{_,J}
   ·obtain⟨w2,z2⟩:=I.cell y t e;exact{w2,z2.sameBut hs L}
  ·obtain⟨e,n,ne,nf,d⟩:=I.pin p hp;refine{(hs.2 p.1 ?_).trans e,n,ne,nf,d};intro q;rw[q,D]at e;exact d g (((cv e)) ▸ B)
theorem wJ{M:Model}{A:cm}{E:ae->aj->Prop}{i:Nat}{x:Str}{v:V}{u:ae}{Q:Unit->aj->Prop}(I:Inv X pins σ H s)(W:X.N.Nodup)(hi:X.N[i]?=Z8 x)(hx:Loc X.env.scope x)(r:RelV v u)
  (h:∀s',Inv X pins (σ.set i (Z8 v)) H s'->Q () s') (Y:autoParam (X.fn x=true\/X.env.scope.names.lookup x=Z8 .local) uh._auto_1):aN M A (storeName X.env x u) Q E s:=
 uh I W hi hx r (fun s' Z _=>h s' Z) Y
theorem Inv.call'{s':aj}{ch:List ab}(I:Inv X pins σ H s)(W:s'.os=s.os)(u:Un (frs X.stack) ch H H' s.heap s'.heap)(Y:HOk X.prog X.w H' s'.heap)(V:pk s'.gens)
  (Z:∀b∈ch,(b∈X.ex\/X.s₀.heap.objs.size<=b)/\b≠X.env.locals/\(∀x c,X.env.cells.lookup x=Z8 c->c≠b)/\∀p∈X.pn++pins,p.1≠b):Inv X pins σ H' s':=by
 obtain⟨h',g',d',t',o'⟩:=s';subst (W);exact I.call (g':=g') (t':=t') (d':=d') u Y V Z
end
abbrev XK:=ae->Option ab->Hp->Prop
abbrev St:=List (Option V)
abbrev VK:=V->Hp->Prop
abbrev TE:=St->Hp->VK->Prop
abbrev TT:=St->Hp->(Bool->Hp->Prop)->Prop
abbrev TA:=St->Hp->(List V->Hp->Prop)->Prop
structure jW where
 nx:St->Hp->Prop
 rt:VK
 bk:St->Hp->Prop:=fun _ _=>False
 ct:St->Hp->Prop:=fun _ _=>False
abbrev TS:=jW->St->Hp->Prop
def EP(X:Cx)(pins:List (ab×Obj))(σ:St)(Q:VK)(u:ae)(s':aj):Prop:=∃v H',Inv X pins σ H' s'/\RelV v u/\Q v H'
def TP(X:Cx)(pins:List (ab×Obj))(σ:St)(Q:Bool->Hp->Prop)(b:Bool)(s':aj):Prop:=∃H',Inv X pins σ H' s'/\Q b H'
def AP(X:Cx)(pins:List (ab×Obj))(σ:St)(Q:List V->Hp->Prop)(us:List ae)(s':aj):Prop:=∃vs H',Inv X pins σ H' s'/\dU vs us/\Q vs H'
def SP(X:Cx)(pins:List (ab×Obj))(D:jW)(f:Flow)(s':aj):Prop:=
 match f with
 |.next=>∃Z H',Inv X pins Z H' s'/\D.nx Z H'
 |.brk=>∃Z H',Inv X pins Z H' s'/\D.bk Z H'
 |.cont=>∃Z H',Inv X pins Z H' s'/\D.ct Z H'
 |.ret u=>∃v Z H',Inv X pins Z H' s'/\RelV v u/\D.rt v H'
def PE(X:Cx)(e:cH)(t:TE):Prop:=
 ∀(pins:List (ab×Obj)) (s:aj) (σ:St) (H:Hp) (Q:VK),Inv X pins σ H s->t σ H Q->aN (aW X.prog X.w) X.A (eY e X.env) (EP X pins σ Q) X.xe s
def PT(X:Cx)(e:cH)(t:TT):Prop:=
 ∀(pins:List (ab×Obj)) (s:aj) (σ:St) (H:Hp) (Q:Bool->Hp->Prop),Inv X pins σ H s->t σ H Q->aN (aW X.prog X.w) X.A (BA e X.env (eY e X.env)) (TP X pins σ Q) X.xe s
def PW(X:Cx)(e:cH)(t:TT):Prop:=
 ∀(Z:Sem ae) (pins:List (ab×Obj)) (s:aj) (σ:St) (H:Hp) (Q:Bool->Hp->Prop),Inv X pins σ H s->t σ H Q->aN (aW X.prog X.w) X.A (BA e X.env Z) (TP X pins σ Q) X.xe s
theorem PW.pt{X:Cx}{e:cH}{t:TT}(h:PW X e t):PT X e t:=h _
def PA(X:Cx)(es:List cH)(t:TA):Prop:=
 ∀(pos:Pos) (pins:List (ab×Obj)) (s:aj) (σ:St) (H:Hp) (Q:List V->Hp->Prop),Inv X pins σ H s->t σ H Q->aN (aW X.prog X.w) X.A (spliced (jw pos (cL es X.env))) (AP X pins σ Q) X.xe s
def PS(X:Cx)(st:dI)(t:TS):Prop:=
 ∀(pins:List (ab×Obj)) (s:aj) (σ:St) (H:Hp) (D:jW),Inv X pins σ H s->t D σ H->aN (aW X.prog X.w) X.A (exec st X.env) (SP X pins D) X.xe s
def PSs(X:Cx)(st:List dI)(t:TS):Prop:=
 ∀(pins:List (ab×Obj)) (s:aj) (σ:St) (H:Hp) (D:jW),Inv X pins σ H s->t D σ H->aN (aW X.prog X.w) X.A (execs st X.env) (SP X pins D) X.xe s
theorem thn{Z:Type}{t:Sem Z}{Q Y:Z->aj->Prop}{M:Model}{A:cm}{E:ae->aj->Prop}{s:aj}(h:aN M A t Q E s)(X:∀a s,Q a s->Y a s):aN M A t Y E s:=fo h X fun _ _ x=>x
section
variable{X:Cx}
theorem bin{a b:cH}{ta tb:TE}(ha:PE X a ta)(hb:PE X b tb){pins:List (ab×Obj)}{s:aj}{σ:St}{H:Hp}{R:V->V->Hp->Prop}(I:Inv X pins σ H s)(h:ta σ H fun x H1=>tb σ H1 fun y H2=>R x y H2)
  {W:Type} {Q:W->aj->Prop} {f:ae->ae->Sem W}
  (U:∀v u s2 x y H2,Inv X pins σ H2 s2->RelV x v->RelV y u->R x y H2->aN (aW X.prog X.w) X.A (f v u) Q X.xe s2) :
  aN (aW X.prog X.w) X.A (eY a X.env) (fun v Z=>aN (aW X.prog X.w) X.A (eY b X.env) (fun u Y=>aN (aW X.prog X.w) X.A (f v u) Q X.xe Y) X.xe Z) X.xe s:=thn (ha pins s σ H _ I h) fun v M ⟨x,H1,O,L,J⟩=>thn (hb pins M σ H1 _ O J) fun u s2 ⟨y,H2,D,B,z⟩=>U v u s2 x y H2 D L B z
inductive TVar(i:Nat)(σ:St)(H:Hp)(Q:VK):Prop where
 |mk(v:V)(h:σ[i]?=Z8 (Z8 v))(q:Q v H):TVar i σ H Q
def lV(i:Nat):TE:=fun σ H Q=>TVar i σ H Q
def tC(v:V):TE:=fun _ H Q=>Q v H
theorem HI{i:Nat}{x:Str}{pos:Pos}(V:X.N[i]?=Z8 x)(hv:Vis X.env.scope x)(Y:(x==("__debug__":Str))=false:=by decide)(W:(x==("__classdict__":Str))=false:=by decide):PE X (.Name x pos) (lV i):=by
 intro pins s σ H Q I h;obtain⟨v,e,h⟩:=h;obtain⟨m,hn,O⟩:=I.loc;obtain⟨u,r,l⟩:=O i x v V e hv;have fin:EP X pins σ Q u s:=⟨v,H,I,r,h⟩
 rcases l with⟨hk,U⟩|⟨hk,c,hc,Z⟩
 ·exact HJ (wpAny_loadName_local I.ok.kind hk hn U fin) Y
 ·rcases hk with hk|hk
  ·exact HJ (wpAny_loadName_cell I.ok.kind hk hc Z fin) Y
  ·exact HJ (wpAny_loadName_free I.ok.kind hk hc Z fin W) Y
theorem au {i j pos}:PE X (.Constant (.int i) j pos) (tC (.int i)):=fun _ _ _ H _ I h=>wpAny_Constant_int {.int i,H,I.tok _,{_,Z9},h}
theorem rP {b j pos}:PE X (.Constant (.bool b) j pos) (tC (.bl b)):=fun _ _ _ H _ I h=>Constant_bool {.bl b,H,I,Z9,h}
theorem pq {j pos}:PE X (.Constant .none j pos) (tC .non):=fun _ _ _ H _ I h=>Aq {.non,H,I,Z9,h}
theorem eO {x j pos}:PE X (.Constant (.str x) j pos) (tC (.str x)):=fun _ _ _ H _ I h=>Calls.Constant_str {.str x,H,I.tok _,{_,Z9},h}
def Gl(X:Cx)(x:Str):Prop:=X.env.kindOf x=Z8 .globalImplicit
theorem rA{E:ae->aj->Prop}{pins:List (ab×Obj)}{s:aj}{σ:St}{H:Hp}{x:Str}{u:ae}{pos:Pos}{Q:ae->aj->Prop}(I:Inv X pins σ H s)(Y:Gl X x)(W:X.mg x=Z8 u)(h:Q u s)
  (Z:(x==("__debug__":Str))=false:=by decide):aN (aW X.prog X.w) X.A (eY (.Name x pos) X.env) Q E s:=
 tL I.ok.kind Y (Calls.loadGlobal_global (I.ok.glob ▸ I.mod.glob.keeps I.bk) W h) Z
theorem pw{E:ae->aj->Prop}{pins:List (ab×Obj)}{s:aj}{σ:St}{H:Hp}{x:Str}{u:ae}{pos:Pos}{Q:ae->aj->Prop}(I:Inv X pins σ H s)(Y:Gl X x)(W:X.mg x=Z7)(hv:eh x=Z8 u)(h:Q u s)
  (hn:x≠"__name__":=by decide) (Z:(x==("__debug__":Str))=false:=by decide):aN (aW X.prog X.w) X.A (eY (.Name x pos) X.env) Q E s:=by
 obtain⟨V,h1,h2⟩:=I.mod.blt;exact tL I.ok.kind Y (Calls.loadGlobal_builtin (I.ok.glob ▸ I.mod.glob.keeps I.bk) W (I.ok.blt ▸ h1.keeps I.bk) ((h2 x hn).trans hv) h) Z
theorem Em{x:Str}{v:V}{u:ae}{pos:Pos}(Y:Gl X x)(W:X.mg x=Z8 u)(r:RelV v u)(Z:(x==("__debug__":Str))=false:=by decide):PE X (.Name x pos) (tC v):=
 fun _ _ _ H _ I h=>rA I Y W ⟨v,H,I,r,h⟩ Z
theorem pU{x:Str}{v:V}{u:ae}{pos:Pos}(Y:Gl X x)(W:X.mg x=Z7)(hv:eh x=Z8 u)(r:RelV v u)(hn:x≠"__name__":=by decide)(Z:(x==("__debug__":Str))=false:=by decide):PE X (.Name x pos) (tC v):=
 fun _ _ _ H _ I h=>pw I Y W hv ⟨v,H,I,r,h⟩ hn Z
variable{a b:cH}{ta tb:TE}{pos:Pos}
def PC(X:Cx)(op:Bo)(a b:cH)(t:TE):Prop:=
 ∀(pins:List (ab×Obj)) (s:aj) (σ:St) (H:Hp) (Q:VK),Inv X pins σ H s->t σ H Q ->
  aN (aW X.prog X.w) X.A (eY a X.env) (fun v Y=>aN (aW X.prog X.w) X.A (eY b X.env) (fun u Z=>aN (aW X.prog X.w) X.A (gi op v u) (EP X pins σ Q) X.xe Z) X.xe Y) X.xe s
theorem wK(b:cH){op:Bo}(h:op≠.In)(h2:op≠.NotIn):ja op b=false:=by
 have e1:(op==CmpOp.In)=false:=by simp_all
 have Z:(op==CmpOp.NotIn)=false:=by simp_all
 cases b<;>simp[ja,e1,Z]
def tIsN(ta:TE):TE:=fun σ H Q=>ta σ H fun x H1=>Q (.bl (decide (x=.non))) H1
def tNotN(ta:TE):TE:=fun σ H Q=>ta σ H fun x H1=>Q (.bl (!decide (x=.non))) H1
theorem RelV.none_iff{x:V}{v:ae}(r:RelV x v):(v==Value.none)=decide (x=.non):=by
 cases x with
 |non=>cases r;rfl
 |bl _=>cases r;rfl
 |int _=>obtain⟨t,rfl⟩:=r;rfl
 |str _=>obtain⟨t,rfl⟩:=r;rfl
 |byt _=>obtain⟨t,rfl⟩:=r;rfl
 |flt _=>obtain⟨t,rfl⟩:=r;rfl
 |ref _=>cases r;rfl
 |ty _=>cases r;rfl
theorem nZ {j pos'} (ha:PE X a ta):PC X .Is a (.Constant .none j pos') (tIsN ta):=by
 intro pins s σ H Q I h;exact thn (ha pins s σ H _ I h) fun v V ⟨x,H1,Y,Z,W⟩=>Aq (is_none_gen {.bl _,H1,Y,Z.none_iff ▸ rfl,W})
theorem j7 {j pos'} (ha:PE X a ta):PC X .IsNot a (.Constant .none j pos') (tNotN ta):=by
 intro pins s σ H Q I h;exact thn (ha pins s σ H _ I h) fun v V ⟨x,H1,Y,Z,W⟩=>Aq (isnot_none_gen {.bl _,H1,Y,Z.none_iff ▸ rfl,W})
inductive BlI(x:V)(H:Hp)(Q:Bool->Hp->Prop):Prop where
 |mk(c:Bool)(h:x=.bl c)(q:Q c H):BlI x H Q
def tB(t:TE):TT:=fun σ H Q=>t σ H fun x H1=>BlI x H1 Q
theorem vm{op:Bo}{t:TE}(h:PC X op a b t)(h1:ja op b=false:=by first|exact wK _ (by decide) (by decide)|rfl):PE X (.Compare a [op] [b] pos) t:=fun pins s σ H Q I hw=>wpAny_Compare1 (h pins s σ H Q I hw) h1
theorem jx{op:Bo}{t:TE}(h:PC X op a b t)(h1:autoParam (ja op b=false) vm._auto_1):PT X (.Compare a [op] [b] pos) (tB t):=by
 intro pins s σ H Q I hw;refine Ef (thn (h pins s σ H _ I hw) fun v V h1=>thn h1 fun u s2 h2=>thn h2 fun c U ⟨x,H1,Z,Y,W⟩=>?_) h1;obtain⟨d,rfl,q⟩:=W;subst Y;exact gH ⟨H1,Z,q⟩
theorem mB{e:cH}{t:TE}(h:PE X e t)(U:∀Z,BA e X.env Z=(do let v <- Z;xZ e.pos;nF [v] (truthy v)):=by intro _;rfl):PT X e (tB t):=by
 intro pins s σ H Q I hw;refine isTrue_plain (thn (h pins s σ H _ I hw) fun v O ⟨x,H1,Y,W,V⟩=>?_) (U _);obtain⟨d,rfl,q⟩:=V;subst W;exact gH ⟨H1,Y,q⟩
variable{tA tB':TT}{rest:List cH}
def tAnd(t u:TT):TT:=fun σ H Q=>t σ H fun c H1=>if c=true then u σ H1 Q else Q false H1
def tOr(t u:TT):TT:=fun σ H Q=>t σ H fun c H1=>if c=true then Q true H1 else u σ H1 Q
def tNot(t:TT):TT:=fun σ H Q=>t σ H fun c H1=>Q (!c) H1
theorem j8(ha:PT X a tA):PW X (.BoolOp .And [a] pos) tA:=by
 intro Y pins s σ H Q I h;refine isTrue_and (thn (ha pins s σ H Q I h) fun c Z e=>?_)
 cases c with
 |true=>exact isTrue_and_nil e
 |false=>exact e
theorem px(ha:PT X a tA):PW X (.BoolOp .Or [a] pos) tA:=by
 intro Y pins s σ H Q I h;refine isTrue_or (thn (ha pins s σ H Q I h) fun c Z e=>?_)
 cases c with
 |false=>exact isTrue_or_nil e
 |true=>exact e
theorem lQ(ha:PT X a tA)(hb:PW X (.BoolOp .And (b::rest) pos) tB'):PW X (.BoolOp .And (a::b::rest) pos) (tAnd tA tB'):=by
 intro U pins s σ H Q I h;refine isTrue_and (thn (ha pins s σ H _ I h) fun c V W=>?_);obtain⟨H1,Z,Y⟩:=W
 cases c with
 |true=>exact hb U pins V σ H1 Q Z Y
 |false=>exact⟨H1,Z,Y⟩
theorem pV(ha:PT X a tA)(hb:PW X (.BoolOp .Or (b::rest) pos) tB'):PW X (.BoolOp .Or (a::b::rest) pos) (tOr tA tB'):=by
 intro U pins s σ H Q I h;refine isTrue_or (thn (ha pins s σ H _ I h) fun c V W=>?_);obtain⟨H1,Z,Y⟩:=W
 cases c with
 |true=>exact⟨H1,Z,Y⟩
 |false=>exact hb U pins V σ H1 Q Z Y
theorem BB(ha:PT X a tA):PT X (.UnaryOp .Not a pos) (tNot tA):=by
 intro pins s σ H Q I h;exact isTrue_not (ha pins s σ H (fun c H1=>Q (!c) H1) I h)
def tAndV(ta tb:TE):TE:=fun σ H Q=>ta σ H fun x H1=>∃c,x=.bl c/\if c=true then tb σ H1 Q else Q (.bl false) H1
def tOrV(ta tb:TE):TE:=fun σ H Q=>ta σ H fun x H1=>∃c,x=.bl c/\if c=true then Q (.bl true) H1 else tb σ H1 Q
theorem yh {op} {t:TE} (h:PE X a t):PE X (.BoolOp op [a] pos) t:=fun pins s σ H Q I hw=>BoolOp_one (h pins s σ H Q I hw)
theorem BC(ha:PE X a ta)(hb:PE X (.BoolOp .And (b::rest) pos) tb):PE X (.BoolOp .And (a::b::rest) pos) (tAndV ta tb):=by
 intro pins s σ H Q I h;refine BoolOp_and (thn (ha pins s σ H _ I h) fun v W ⟨x,H1,Y,V,Z⟩=>?_);obtain⟨c,rfl,Z⟩:=Z
 cases V;refine gH ?_
 cases c with
 |true=>exact hb pins W σ H1 Q Y Z
 |false=>exact{.bl false,H1,Y,Z9,Z}
theorem pe_or(ha:PE X a ta)(hb:PE X (.BoolOp .Or (b::rest) pos) tb):PE X (.BoolOp .Or (a::b::rest) pos) (tOrV ta tb):=by
 intro pins s σ H Q I h;refine BoolOp_or (thn (ha pins s σ H _ I h) fun v W ⟨x,H1,Y,V,Z⟩=>?_);obtain⟨c,rfl,Z⟩:=Z
 cases V;refine gH ?_
 cases c with
 |false=>exact hb pins W σ H1 Q Y Z
 |true=>exact{.bl true,H1,Y,Z9,Z}
def tIf(t:TT)(ta tb:TE):TE:=fun σ H Q=>t σ H fun c H1=>if c=true then ta σ H1 Q else tb σ H1 Q
theorem BD{c:cH}(hc:PT X c tA)(ha:PE X a ta)(hb:PE X b tb):PE X (.IfExp c a b pos) (tIf tA ta tb):=by
 intro pins s σ H Q I h;refine wpAny_IfExp (thn (hc pins s σ H _ I h) fun d Z V=>?_);obtain⟨H1,Y,W⟩:=V
 cases d with
 |true=>exact ha pins Z σ H1 Q Y W
 |false=>exact hb pins Z σ H1 Q Y W
end
def SqL(K:ag)(H:Hp)(a:ab)(xs:List V):Prop:=
 Rd H a (.l xs) \/
  ∃(o:Obj) (its:Array ae) (n:Nat),K.lookup a=Z8 o/\o.cls=.type "list"/\o.dict=Z7/\o.data=.seq its n/\its.size<=aF/\dU xs its.toList
def SqT(K:ag)(H:Hp)(a:ab)(xs:List V):Prop:=
 Rd H a (.t xs) \/
  ∃(o:Obj) (its:Array ae) (n:Nat),K.lookup a=Z8 o/\o.cls=.type "tuple"/\o.data=.seq its n/\its.size<=aF/\dU xs its.toList
def absV:ae->Option V
 |.none=>Z8 .non
 |.bool b=>Z8 (.bl b)
 |.int i _=>Z8 (.int i)
 |.str x _=>Z8 (.str x)
 |.bytes b _=>Z8 (.byt b)
 |.float b _=>Z8 (.flt b)
 |.ref a=>Z8 (.ref a)
 |.type n=>Z8 (.ty n)
 |_=>Z7
theorem RelV.abs{x:V}{u:ae}(r:RelV x u):absV u=Z8 x:=by
 cases x with
 |non=>cases r;rfl
 |bl _=>cases r;rfl
 |int _=>obtain⟨t,rfl⟩:=r;rfl
 |str _=>obtain⟨t,rfl⟩:=r;rfl
 |byt _=>obtain⟨t,rfl⟩:=r;rfl
 |flt _=>obtain⟨t,rfl⟩:=r;rfl
 |ref _=>cases r;rfl
 |ty _=>cases r;rfl
theorem RelV.inj{x y:V}{u:ae}(r:RelV x u)(q:RelV y u):x=y:=cv (r.abs.symm.trans q.abs)
theorem dU.inj:∀{xs ys:List V} {us:List ae},dU xs us->dU ys us->xs=ys
 |_,_,_,.nil,.nil=>rfl
 |_,_,_,.cons r t,.cons Z t'=>by rw[r.inj Z,dU.inj t t']
section
variable{X:Cx}{pins:List (ab×Obj)}{σ:St}{H:Hp}{s:aj}{a:ab}{xs ys:List V}
theorem SqL.of{K:ag}(h:H a=Z8 (.l xs)):SqL K H a xs:=.inl (.inl h)
theorem SqT.of{K:ag}(h:H a=Z8 (.t xs)):SqT K H a xs:=.inl (.inl h)
theorem Inv.list(I:Inv X pins σ H s)(h:SqL X.K H a xs):∃its:List ae,dU xs its/\PlainL s.heap a its.toArray/\xs.length<=aF:=by
 rcases h with h|⟨o,its,n,hk,hc,Z,hs,hz,r⟩
 ·obtain⟨z,its,n,r,e⟩:=h.ok I.hok;exact{its,r,{_,n,e,Z9,Z9,Z9},z}
 ·refine{its.toList,r,{o,n,I.kIn a o hk,hc,Z,by simpa using hs},?_};have e:=r.length;simp at e
  lia
theorem Inv.tuple(I:Inv X pins σ H s)(h:SqT X.K H a xs):∃its:List ae,dU xs its/\wx s.heap a its.toArray/\xs.length<=aF:=by
 rcases h with h|⟨o,its,n,hk,hc,hs,hz,r⟩
 ·obtain⟨z,its,r,p⟩:=h.ok I.hok;exact⟨its,r,p,z⟩
 ·refine{its.toList,r,{o,I.kIn a o hk,hc,n,by simpa using hs},?_};have e:=r.length;simp at e
  lia
theorem Inv.list_inj(I:Inv X pins σ H s)(h:SqL X.K H a xs)(h':SqL X.K H a ys):xs=ys:=by
 obtain⟨its,r,⟨o,n,e,_,_,d⟩,_⟩:=I.list h;obtain⟨its',W,⟨o',V,Z,_,_,d'⟩,_⟩:=I.list h';rw[e]at Z;cases Z;rw[d]at d';injection d' with Y _;have:its=its':=by simpa using congrArg HK Y
 subst this;exact r.inj W
theorem Inv.tuple_inj(I:Inv X pins σ H s)(h:SqT X.K H a xs)(h':SqT X.K H a ys):xs=ys:=by
 obtain⟨its,r,⟨o,e,_,n,d⟩,_⟩:=I.tuple h;obtain⟨its',W,⟨o',Z,_,V,d'⟩,_⟩:=I.tuple h';rw[e]at Z;cases Z;rw[d]at d';injection d' with Y _;have:its=its':=by simpa using congrArg HK Y
 subst this;exact r.inj W
end
abbrev Cx.wish(X:Cx)(E:ae->aj->Prop):Cx:={X with xe:=E}
abbrev Cx.nox(X:Cx):Cx:=X.wish fun _ _=>False
theorem Cx.Ok.wish{X:Cx}(ok:X.Ok)(E:ae->aj->Prop):(X.wish E).Ok:=
 ⟨ok.mod,ok.kind,ok.glob,ok.blt,ok.above,ok.inj,ok.has,ok.cab,ok.hd,ok.frames,ok.stk,ok.exf,ok.bs,ok.bsz,ok.noex,ok.exfs,ok.funs,ok.frf⟩
theorem Cx.Ok.unwish{X:Cx}{E:ae->aj->Prop}(ok:(X.wish E).Ok):X.Ok:=
 ⟨ok.mod,ok.kind,ok.glob,ok.blt,ok.above,ok.inj,ok.has,ok.cab,ok.hd,ok.frames,ok.stk,ok.exf,ok.bs,ok.bsz,ok.noex,ok.exfs,ok.funs,ok.frf⟩
section
variable{X:Cx}{pins:List (ab×Obj)}{σ:St}{H:Hp}{s:aj}{E:ae->aj->Prop}
theorem Inv.wish(I:Inv X pins σ H s)(E:ae->aj->Prop):Inv (X.wish E) pins σ H s:={I.ok.wish E,I.os,I.bare,I.base,I.loc,I.cell,I.free,I.freeC,I.pin,I.hok,I.len}
theorem Inv.unwish(I:Inv (X.wish E) pins σ H s):Inv X pins σ H s:=⟨I.ok.unwish,I.os,I.bare,I.base,I.loc,I.cell,I.free,I.freeC,I.pin,I.hok,I.len⟩
theorem SP.unwish{D:jW}{f:Flow}{s':aj}(h:SP (X.wish E) pins D f s'):SP X pins D f s':=by
 cases f with
 |next=>obtain⟨Z,H',I,q⟩:=h;exact⟨Z,H',I.unwish,q⟩
 |brk=>obtain⟨Z,H',I,q⟩:=h;exact⟨Z,H',I.unwish,q⟩
 |cont=>obtain⟨Z,H',I,q⟩:=h;exact⟨Z,H',I.unwish,q⟩
 |ret u=>obtain⟨v,Z,H',I,r,q⟩:=h;exact⟨v,Z,H',I.unwish,r,q⟩
theorem PSs.nox{st:List dI}{t:TS}(h:PSs X.nox st t):PSs X st t:=fun pins s σ H D I hw=>
 fo (h pins s σ H D (I.wish _) hw) (fun _ _ q=>q.unwish) fun _ _ z=>eR z
end
section
variable{X:Cx}{st:dI}{rest:List dI}{t u:TS}{e:cH}{te:TE}{pos:Pos}
def FO:TS:=fun D σ H=>D.nx σ H
def En(t u:TS):TS:=fun D σ H=>t {D with nx:=u D} σ H
theorem cD:PSs X [] FO:=fun _ _ σ H _ I h=>pN ⟨σ,H,I,h⟩
theorem ax(h1:PS X st t)(h2:PSs X rest u):PSs X (st::rest) (En t u):=by
 intro pins s σ H D I h;refine wpAny_execs_cons (thn (h1 pins s σ H {D with nx:=u D} I h) fun f W q=>?_)
 cases f with
 |next=>
  obtain⟨Z,H',Y,q⟩:=q;exact h2 pins W Z H' D Y q
 |ret v=>exact q
 |brk=>exact q
 |cont=>exact q
theorem aJ(h1:PS X st t):PSs X [st] t:=by
 intro pins s σ H D I h;refine wpAny_execs_cons (thn (h1 pins s σ H D I h) fun f Z q=>?_)
 cases f with
 |next=>exact pN q
 |ret v=>exact q
 |brk=>exact q
 |cont=>exact q
theorem Inv.quiet{pins:List (ab×Obj)}{σ:St}{H:Hp}{s:aj}(I:Inv X pins σ H s):interactive X.env=false:=by simp[interactive,I.ok.kind]
def FP(te:TE):TS:=fun D σ H=>te σ H fun _ H1=>D.nx σ H1
theorem eL(W:PE X e te)(hs:qU e Z7 pos.line X.env=pure false:=by rfl):PS X (.Expr e pos) (FP te):=by
 intro pins s σ H D I h;exact wpAny_Expr_any (thn (W pins s σ H _ I h) fun v V ⟨x,H1,Z,U,Y⟩=>⟨σ,H1,Z,Y⟩) I.quiet hs
def HL(te:TE):TS:=fun D σ H=>te σ H D.rt
theorem bT(V:PE X e te):PS X (.Return (Z8 e) pos) (HL te):=by
 intro pins s σ H D I h;exact wpAny_Return_some (thn (V pins s σ H _ I h) fun v U ⟨x,H1,Z,Y,W⟩=>⟨x,σ,H1,Z,Y,W⟩)
def HM(c:TT)(t u:TS):TS:=fun D σ H=>c σ H fun b H1=>if b=true then t D σ H1 else u D σ H1
theorem dW{c:cH}{a b:List dI}{tc:TT}(hc:PT X c tc)(ha:PSs X a t)(hb:PSs X b u):PS X (.If c a b pos) (HM tc t u):=by
 intro pins s σ H D I h;refine wpAny_If (thn (hc pins s σ H _ I h) fun d Z V=>?_);obtain⟨H1,Y,W⟩:=V
 cases d with
 |true=>exact ha pins Z σ H1 D Y W
 |false=>exact hb pins Z σ H1 D Y W
def HN:TS:=fun _ _ _=>False
theorem ui{Z:List dI}:PSs X Z HN:=fun _ _ _ _ _ _ h=>h.elim
end
abbrev TG:=V->St->Hp->(St->Hp->Prop)->Prop
abbrev TGs:=List V->St->Hp->(St->Hp->Prop)->Prop
def PG(X:Cx)(Z:cH)(t:TG):Prop:=
 ∀(pins:List (ab×Obj)) (s:aj) (σ:St) (H:Hp) (v:V) (u:ae) (Q:St->Hp->Prop),Inv X pins σ H s->RelV v u->t v σ H Q ->
  aN (aW X.prog X.w) X.A (HP Z X.env u) (fun _ s'=>∃Y H',Inv X pins Y H' s'/\Q Y H') X.xe s
def PGs(X:Cx)(Y:List cH)(t:TGs):Prop:=
 ∀(pins:List (ab×Obj)) (s:aj) (σ:St) (H:Hp) (vs:List V) (us:List ae) (Q:St->Hp->Prop),Inv X pins σ H s->dU vs us->t vs σ H Q ->
  aN (aW X.prog X.w) X.A (assignInOrder ((kZ Y X.env).map (·.2)) us) (fun _ s'=>∃Z H',Inv X pins Z H' s'/\Q Z H') X.xe s
abbrev HQ:=V->V->V->Hp->(Hp->Prop)->Prop
def PSet(X:Cx)(t:HQ):Prop:=
 ∀(pins:List (ab×Obj)) (s:aj) (σ:St) (H:Hp) (o i v:V) (Z iv u:ae) (Q:Hp->Prop),Inv X pins σ H s->RelV o Z->RelV i iv->RelV v u->t o i v H Q ->
  aN (aW X.prog X.w) X.A (setItem Z iv u) (fun _ s'=>∃H',Inv X pins σ H' s'/\Q H') X.xe s
section
variable{X:Cx}{pos:Pos}
def pW(i:Nat):TG:=fun v σ H Q=>Q (σ.set i (Z8 v)) H
theorem eZ{i:Nat}{x:Str}(W:X.N.Nodup)(hi:X.N[i]?=Z8 x)(hx:Loc X.env.scope x)(Y:autoParam (X.fn x=true\/X.env.scope.names.lookup x=Z8 .local) uh._auto_1):PG X (.Name x pos) (pW i):=by
 intro pins s σ H v u Q I r h;exact Jn (wJ I W hi hx r (fun s' Z=>{_,H,Z,h}) Y)
def gNil:TGs:=fun vs σ H Q=>vs=[]/\Q σ H
inductive FQ(t:TG)(u:TGs)(vs:List V)(σ:St)(H:Hp)(Q:St->Hp->Prop):Prop where
 |mk(v:V)(r:List V)(h:vs=v::r)(q:t v σ H fun σ' H'=>u r σ' H' Q):FQ t u vs σ H Q
def gCons(t:TG)(u:TGs):TGs:=fun vs σ H Q=>FQ t u vs σ H Q
theorem kR:PGs X [] gNil:=by
 intro pins s σ H vs us Q I r h;obtain⟨e,h⟩:=h;subst e
 cases r;exact assignInOrder_nil ⟨σ,H,I,h⟩
theorem e7{e:cH}{es:List cH}{t:TG}{u:TGs}(h1:PG X e t)(h2:PGs X es u)
  (hs:(kZ (e::es) X.env).map (·.2)=HP e X.env::(kZ es X.env).map (·.2):=by rfl):PGs X (e::es) (gCons t u):=by
 intro pins s σ H vs us Q I r h;obtain⟨v,O,e1,h⟩:=h;subst e1
 cases r with
 |cons r U=>
  rw[hs];exact assignInOrder_cons (thn (h1 pins s σ H _ _ _ I r h) fun _ W ⟨Z,H1,Y,V⟩=>h2 pins W Z H1 _ _ Q Y U V)
inductive GTup(K:ag)(n:Nat)(t:TGs)(v:V)(σ:St)(H:Hp)(Q:St->Hp->Prop):Prop where
 |mk(a:ab)(xs:List V)(h:v=.ref a)(s:SqT K H a xs)(l:xs.length=n)(q:t xs σ H Q):GTup K n t v σ H Q
def gTup(K:ag)(n:Nat)(t:TGs):TG:=fun v σ H Q=>GTup K n t v σ H Q
theorem n6{es:List cH}{k:Nat}{t:TGs}{n:Nat}(hc:X.calm=true)(h:PGs X es t)
  (hn:(kZ es X.env).length=n:=by rfl) (Z:(kZ es X.env).findIdx? (·.1)=Z7:=by rfl):PG X (.Tuple es k pos) (gTup X.K n t):=by
 intro pins s σ H v u Q I r hw;obtain⟨a,xs,e1,hq,V,hw⟩:=hw;subst e1;subst r;obtain⟨its,Y,W,hz⟩:=I.tuple hq;exact assign_Tuple_tuple (I.ok.hd hc) W (by simp[hn,<- V,Y.length]) Z fun h' hx=>h pins _ σ H xs _ Q (I.kept (t':=s.toks) fun b o e=>hx b o (aG (aI e)) e) (by simpa using Y) hw
def gSub(to Z:TE)(t:HQ):TG:=fun v σ H Q=>to σ H fun o H1=>Z σ H1 fun i H2=>t o i v H2 fun Y=>Q σ Y
theorem yi{o i:cH}{to Y:TE}{t:HQ}(B:PE X o to)(hi:PE X i Y)(hs:PSet X t)
  (ha:∀v,HP (.Subscript o i pos) X.env v=(do
   let Z <- nF [v] (eY o X.env)
   let iv <- nF [v,Z] (eY i X.env)
   xZ pos
   nF [v,Z,iv] (setItem Z iv v)
   release [v,Z,iv] []):=by intro _;rfl):PG X (.Subscript o i pos) (gSub to Y t):=by
 intro pins s σ H v u Q I r h;rw[ha];exact aa (c8 (thn (B pins s σ H _ I h) fun Z U ⟨x,H1,V,O,L⟩=>aa (c8 (thn (hi pins U σ H1 _ V L) fun iv s2 ⟨y,H2,J,z,q⟩=>aa (Ar (aa (c8 (thn (hs pins s2 σ H2 x y v Z iv u _ J O z r q) fun _ g ⟨D,M,W⟩=>wpAny_release ⟨σ,D,M,W⟩))))))))
def BE(te:TE)(g:TG):TS:=fun D σ H=>te σ H fun x H1=>g x σ H1 D.nx
theorem vn{tg e:cH}{te:TE}{g:TG}(O:PE X e te)(V:PG X tg g)(hs:swapsWithSole [tg] e pos.line X.env=pure false:=by rfl)(hw:swappedStores [tg] e X.env=pure Z7:=by rfl)
  (h1:(kZ [tg] X.env).map (·.2)=[HP tg X.env]:=by rfl):PS X (.Assign [tg] e pos) (BE te g):=by
 intro pins s σ H D I h;refine wpAny_Assign_stores (thn (O pins s σ H _ I h) fun v Y ⟨x,H1,Z,W,U⟩=>?_) hs hw;rw[h1];exact thn (V pins Y σ H1 x v _ Z W U) fun _ s2 q=>q
theorem vo{i:Nat}{x:Str}{e:cH}{te:TE}{pos':Pos}(O:X.N.Nodup)(hi:X.N[i]?=Z8 x)(hx:Loc X.env.scope x)(M:PE X e te)(hs:qU e (Z8 (.Name x pos')) pos.line X.env=pure false:=by rfl)(Z:autoParam (X.fn x=true\/X.env.scope.names.lookup x=Z8 .local) uh._auto_1) :
  PS X (.Assign [.Name x pos'] e pos) (BE te (pW i)):=by
 intro pins s σ H D I h;exact wpAny_Assign_Name (thn (M pins s σ H _ I h) fun v L ⟨y,H1,Y,W,V⟩=>wJ Y O hi hx W (fun s2 U=>{_,H1,U,V}) Z) hs
end
section
variable{X:Cx}{pos:Pos}
def BF(c:TT)(tb:TS):TS:=fun D σ H=>∃W:Nat->St->Hp->Prop,(∃m,W m σ H)/\∀m σ H,W m σ H ->
 c σ H fun b H1=>if b=true then ∃N:St->Hp->Prop,(∀Z H',N Z H'->∃Y,Y<m/\W Y Z H')/\tb {D with nx:=N,ct:=N,bk:=D.nx} σ H1 else D.nx σ H1
theorem wL{c:cH}{V:List dI}{tc:TT}{tb:TS}(hp:PassesOwn (aW X.prog X.w) X.A X.env X.xe)(hc:PT X c tc)(hb:PSs X V tb):PS X (.While c V [] pos) (BF tc tb):=by
 intro pins s σ H D I h;obtain⟨W,⟨m0,g⟩,turn⟩:=h;refine wpAny_While (codeAny_whileLoop (fun n s'=>∃O H',Inv X pins O H' s'/\W n O H') ?_ m0 ⟨σ,H,I,g⟩);rintro n s1 ⟨Y,H1,I1,w1⟩;refine i5 hp (thn (hc pins s1 Y H1 _ I1 (turn n Y H1 w1)) fun b s2 d=>?_);obtain⟨H2,q,L⟩:=d
 cases b with
 |true=>
  obtain⟨N,r,L⟩:=L;refine i5 hp (thn (hb pins s2 Y H2 _ q L) fun f s3 M=>?_)
  cases f with
  |next=>
   obtain⟨Z,U,y,J⟩:=M;obtain⟨B,t,z⟩:=r Z U J;exact⟨B,t,Z,U,y,z⟩
  |cont=>
   obtain⟨Z,U,y,J⟩:=M;obtain⟨B,t,z⟩:=r Z U J;exact⟨B,t,Z,U,y,z⟩
  |brk=>exact M
  |ret v=>exact M
 |false=>
  exact pN ⟨Y,H2,q,L⟩
end
structure It where
 go:Nat->Hp->Prop
 yld:Nat->Hp->V->Hp->Prop
 stop:Nat->Hp->Prop
def vp(X:Cx)(pins:List (ab×Obj))(H:Hp)(b:ab):Prop:=
 H b=Z7/\b≠X.env.locals/\b∉X.fs/\(b∈X.ex\/X.s₀.heap.objs.size<=b)/\(∀x c,X.env.cells.lookup x=Z8 c->c≠b)/\∀p∈X.pn++pins,p.1≠b
theorem Inv.fpOk{X:Cx}{pins:List (ab×Obj)}{σ:St}{H H':Hp}{s:aj}{b:ab}(I:Inv X pins σ H s)(hb:s.heap.objs.size<=b)(hn:H' b=Z7):vp X pins H' b:=by
 refine{hn,gI (aZ I.lt hb),I.nofs hb,.inr (dh I.sz hb),fun x c e z=>?_,fun p hp z=>?_}
 ·obtain⟨v,q⟩:=I.cell x c e;exact Q7 (aZ q.lt (z ▸ hb)) (fh _)
 ·exact Q7 (aZ (aI (I.pin p hp).1) (z ▸ hb)) (fh _)
structure tM(P:aP)(w:bF)(K:ag)(tg:cH)(J:It)(fp:List ab)(it:ab)(tn:Nat->cz->Prop):Prop where
 mem:it∈fp
 obj:∀i h,tn i h->∀b∈fp,∃o,h.get? b=Z8 o/\∀v,o.data≠.cell v
 keep:∀i h h',tn i h->(∀b∈fp,∀o,h.get? b=Z8 o->h'.get? b=Z8 o)->tn i h'
 item:∀(X:Cx),X.prog=P->X.w=w->X.K=K->X.calm=true->∀(i:Nat) (pins:List (ab×Obj)) (s:aj) (σ:St) (H:Hp) (E:ae->aj->Prop),Inv X pins σ H s->(∀b∈fp,vp X pins H b)->tn i s.heap->J.go i H ->
  aN (aW P w) X.A (fH (.ref it)) (fun r s1=>∃u,r=Z8 u /\
   aN (aW P w) X.A (wM tg (.ref it) u) (fun _ s2=>∃x H',Inv X pins σ H' s2/\RelV x u/\J.yld i H x H'/\tn (i+1) s2.heap/\∀b∈fp,H' b=Z7) E s1) E s
 done:∀(X:Cx),X.prog=P->X.w=w->X.K=K->X.calm=true->∀(i:Nat) (pins:List (ab×Obj)) (s:aj) (σ:St) (H:Hp) (E:ae->aj->Prop),Inv X pins σ H s->(∀b∈fp,vp X pins H b)->tn i s.heap->J.stop i H ->
  aN (aW P w) X.A (fH (.ref it)) (fun r s1=>r=Z7/\Inv X pins σ H s1) E s
 self:∀(A:cm) (i:Nat) (s:aj) (Q:ae->aj->Prop) (E:ae->aj->Prop),tn i s.heap->Q (.ref it) s->aN (aW P w) A (qA (.ref it)) Q E s
abbrev TI:=St->Hp->(It->Hp->Prop)->Prop
def PIE(X:Cx)(pins:List (ab×Obj))(σ:St)(tg:cH)(R:It->Hp->Prop)(Z:ae)(s2:aj):Prop:=
 ∃(it:ab) (fp:List ab) (Y:Nat->cz->Prop) (J:It) (H':Hp),Z=.ref it/\Inv X pins σ H' s2/\tM X.prog X.w X.K tg J fp it Y/\Y 0 s2.heap/\(∀b∈fp,vp X pins H' b)/\R J H'
def PI(X:Cx)(tg Z:cH)(W:TI):Prop:=
 ∀(pins:List (ab×Obj)) (s:aj) (σ:St) (H:Hp) (R:It->Hp->Prop),Inv X pins σ H s->W σ H R ->
  aN (aW X.prog X.w) X.A (eY Z X.env) (fun v Y=>aN (aW X.prog X.w) X.A (qA v) (PIE X pins σ tg R) X.xe Y) X.xe s
theorem uj{M:Model}{A:cm}{E:ae->aj->Prop}{s:aj}{tg:cH}{it:ab}{u:ae}{o:Obj}{n:String}{vs:Array ae}{Q:Unit->aj->Prop}(X:s.heap.get? it=Z8 o)(hc:o.cls=.type n)(Y:o.data=.fields vs)
  (hn:["enumerate","zip","dict_itemiterator","dict_reverseitemiterator","odict_iterator","itertools.zip_longest","itertools.pairwise"].contains n=false) (Z:Q () s):aN M A (wM tg (.ref it) u) Q E s:=by
 cases tg<;>first
  |exact af Z
  |(cases u<;>first
    |exact af Z
    |(refine aa (HR X ?_)
      rw[hc,Y];show aN M A (if (["enumerate","zip","dict_itemiterator","dict_reverseitemiterator","odict_iterator","itertools.zip_longest","itertools.pairwise"].contains n&&vs[0]?==Z8 (e8 _))=true then _ else _) Q E s;rw[Q5 (by intro h;rw[hn,Bool.false_and]at h;cases h)];exact af Z))
def Itl(K:ag)(a:ab):It:=
 ⟨fun i H=>∃xs x,SqL K H a xs/\xs[i]?=Z8 x,fun i H x H'=>H'=H/\∀xs,SqL K H a xs->xs[i]?=Z8 x,fun i H=>∃xs,SqL K H a xs/\xs.length<=i⟩
def Itt(K:ag)(a:ab):It:=
 ⟨fun i H=>∃xs x,SqT K H a xs/\xs[i]?=Z8 x,fun i H x H'=>H'=H/\∀xs,SqT K H a xs->xs[i]?=Z8 x,fun i H=>∃xs,SqT K H a xs/\xs.length<=i⟩
def Itr(lo:Int)(n:Nat):It:=⟨fun i _=>i<n,fun i H x H'=>H'=H/\x=.int (lo+i),fun i _=>n<=i⟩
theorem As{P:aP}{w:bF}{K:ag}{tg:cH}(a it:ab):tM P w K tg (Itl K a) [it] it (fun i h=>h.IsListIter it a i) where
 mem:=by simp
 obj:=fun i h st b hb=>by
  have e:b=it:=by simpa using hb
  subst e;obtain⟨o,e,c,d⟩:=st;exact{o,e,fun v z=>by rw[d]at z;cases z}
 keep:=fun i h h' st k=>st.at fun o e=>k it (by simp) o e
 item:=by
  intro X J hw V hc i pins s σ H E I Y st U;refine Z0 fun y B=>?_;subst J hw V;obtain⟨xs,x,hq,hx⟩:=U;obtain⟨its,L,p,hz⟩:=I.list hq;obtain⟨u,g,r⟩:=L.get hx;obtain⟨D,f1,q,M,O,W⟩:=Y it (by simp);refine B (BG st p.isList (by simpa using g) fun h' Z f=>?_);obtain⟨o,e,c,d⟩:=id Z;exact{u,Z9,uj e c d (by decide) {x,H,(I.turned (t':=s.toks) (fun b o hb e=>(f.2 b hb).trans e) D f1 M O W),r,{Z9,fun ys hy=>(I.list_inj hy hq) ▸ hx},Z,fun b hb=>(Y b hb).1}}
 done:=by
  intro X J hw V hc i pins s σ H E I Y st U;refine Z0 fun y B=>?_;subst J hw V;obtain⟨xs,hq,hx⟩:=U;obtain⟨its,L,p,hz⟩:=I.list hq;obtain⟨D,f1,q,M,O,W⟩:=Y it (by simp);refine B ?_;have hl:=L.length;exact Eg (I.ok.hd hc) st p.isList (by simp;lia) fun h' t=>{Z9,I.turned (t':=s.toks) (fun b o hb e=>t b o hb e) D f1 M O W}
 self:=fun _ _ _ _ _ st h=>wpAny_pyIter_listiter st h
theorem yj{P:aP}{w:bF}{K:ag}{tg:cH}(a it:ab):tM P w K tg (Itt K a) [it] it (fun i h=>h.IsTupleIter it a i) where
 mem:=by simp
 obj:=fun i h st b hb=>by
  have e:b=it:=by simpa using hb
  subst e;obtain⟨o,e,c,d⟩:=st;exact{o,e,fun v z=>by rw[d]at z;cases z}
 keep:=fun i h h' st k=>st.at fun o e=>k it (by simp) o e
 item:=by
  intro X J hw V hc i pins s σ H E I Y st U;refine Z0 fun y B=>?_;subst J hw V;obtain⟨xs,x,hq,hx⟩:=U;obtain⟨its,L,p,hz⟩:=I.tuple hq;obtain⟨u,g,r⟩:=L.get hx;obtain⟨D,f1,q,M,O,W⟩:=Y it (by simp);refine B (wpAny_pyNext_tuple_item st (p) (by simpa using g) fun h' Z f=>?_);obtain⟨o,e,c,d⟩:=id Z;exact{u,Z9,uj e c d (by decide) {x,H,(I.turned (t':=s.toks) (fun b o hb e=>(f.2 b hb).trans e) D f1 M O W),r,{Z9,fun ys hy=>(I.tuple_inj hy hq) ▸ hx},Z,fun b hb=>(Y b hb).1}}
 done:=by
  intro X J hw V hc i pins s σ H E I Y st U;refine Z0 fun y B=>?_;subst J hw V;obtain⟨xs,hq,hx⟩:=U;obtain⟨its,L,p,hz⟩:=I.tuple hq;obtain⟨D,f1,q,M,O,W⟩:=Y it (by simp);refine B ?_;have hl:=L.length;exact wpAny_pyNext_tuple_end (I.ok.hd hc) st (p) (by simp;lia) fun h' t=>{Z9,I.turned (t':=s.toks) (fun b o hb e=>t b o hb e) D f1 M O W}
 self:=fun _ _ _ _ _ st h=>wpAny_pyIter_tupleiter st h
theorem yk{P:aP}{w:bF}{K:ag}{tg:cH}(it:ab)(lo:Int)(n:Nat):tM P w K tg (Itr lo n) [it] it (fun i h=>IsRangeIter h it (lo+(i:Nat)*1) ((n:Int)-(i:Nat)) 1) where
 mem:=by simp
 obj:=fun i h st b hb=>by
  have e:b=it:=by simpa using hb
  subst e;exact⟨_,st,fun v z=>by
   cases (z)⟩
 keep:=fun i h h' st k=>k it (by simp) _ st
 item:=by
  intro X B hw J hc i pins s σ H E I Y st V;obtain⟨M,f1,D,O,U,W⟩:=Y it (by simp);refine (Walks.range (I.ok.hd hc) it lo 1 n).item i s _ _ V st fun v h' tk hv Z kk=>?_;obtain⟨t,rfl⟩:=hv;refine{_,Z9,uj Z rfl rfl (by decide) {.int (lo+i),H,(I.turned (fun b o hb e=>kk b o (by simpa using hb) e) M f1 O U W),{t,?_},⟨Z9,Z9⟩,Z,fun b hb=>(Y b hb).1}};rw[Int.mul_one]
 done:=by
  intro X B hw J hc i pins s σ H E I Y st V;obtain⟨M,f1,D,O,U,W⟩:=Y it (by simp);exact wpAny_pyNext_range_end (I.ok.hd hc) st (by have:n<=i:=V;lia) fun h' L=>{Z9,I.turned (t':=s.toks) (fun b o hb e=>L b o hb e) M f1 O U W}
 self:=fun _ _ _ _ _ st h=>wpAny_pyIter_rangeiter st h
section
variable{X:Cx}{tg:cH}
inductive BH(K:ag)(x:V)(H:Hp)(R:It->Hp->Prop):Prop where
 |mk(a:ab)(hx:x=.ref a)(s:∃xs,SqL K H a xs)(q:R (Itl K a) H):BH K x H R
def wN(K:ag)(tl:TE):TI:=fun σ H R=>tl σ H fun x H1=>BH K x H1 R
def iTup(K:ag)(tl:TE):TI:=fun σ H R=>tl σ H fun x H1=>∃a,x=.ref a/\(∃xs,SqT K H1 a xs)/\R (Itt K a) H1
theorem eM{l:cH}{tl:TE}(O:PE X l tl):PI X tg l (wN X.K tl):=by
 intro pins s σ H R I h;refine thn (O pins s σ H _ I h) fun v Y W=>?_;obtain⟨x,H1,Z,V,U⟩:=W;obtain⟨a,e,⟨xs,hq⟩,q⟩:=U;subst e;subst V;obtain⟨its,M,p,hz⟩:=Z.list hq;refine kH p.isList ({Y.heap.objs.size,[Y.heap.objs.size],_,_,H1,Z9,Z.kept (t':=Y.toks) fun b o e=>aq _ e,As a _,{_,aE _ rfl,Z9,Z9},fun b hb=>?_,q});have e:b=Y.heap.objs.size:=by simpa using hb
 subst e;exact Z.fpOk (aB _) (Z.hok.fresh (aB _))
theorem HS{l:cH}{tl:TE}(O:PE X l tl):PI X tg l (iTup X.K tl):=by
 intro pins s σ H R I h;refine thn (O pins s σ H _ I h) fun v Y W=>Z0 fun L M=>?_;obtain⟨x,H1,Z,V,U⟩:=W;obtain⟨a,e,⟨xs,hq⟩,q⟩:=U;subst e;subst V;obtain⟨its,J,p,hz⟩:=Z.tuple hq;refine M (wpAny_pyIter_tuple (p) ({Y.heap.objs.size,[Y.heap.objs.size],_,_,H1,Z9,Z.kept (t':=Y.toks) fun b o e=>aq _ e,yj a _,{_,aE _ rfl,Z9,Z9},fun b hb=>?_,q}));have e:b=Y.heap.objs.size:=by simpa using hb
 subst e;exact Z.fpOk (aB _) (Z.hok.fresh (aB _))
theorem BI{pins:List (ab×Obj)}{σ:St}{H:Hp}{s:aj}{R:It->Hp->Prop}{E:ae->aj->Prop}{lo hi:Int}{t u v:Tok}{tk:Nat}(I:Inv X pins σ H s)(h1:-(2^62)<=lo)(h2:lo<2^62)(Y:-(2^62)<=hi)(V:hi<2^62)
  (q:R (Itr lo (hi-lo).toNat) H):aN (aW X.prog X.w) X.A (qA (.ref s.heap.objs.size)) (PIE X pins σ tg R) E {s with heap:=s.heap.push {cls:=.type "range",data:=.fields #[.int lo t,.int hi u,.int 1 v]},toks:=tk}:=by
 refine wpAny_pyIter_range (IsRange.new ..) (small_one h1 h2 Y V) ?_;have Z:Inv X pins σ H {s with heap:=s.heap.push {cls:=.type "range",data:=.fields #[.int lo t,.int hi u,.int 1 v]},toks:=tk}:=I.kept fun b o e=>aq _ e;refine⟨(s.heap.push {cls:=.type "range",data:=.fields #[.int lo t,.int hi u,.int 1 v]}).objs.size,[(s.heap.push {cls:=.type "range",data:=.fields #[.int lo t,.int hi u,.int 1 v]}).objs.size],_,_,H,Z9,
  Z.kept (t':=tk) fun b o e=>aq _ e,yk _ lo (hi-lo).toNat,?_,fun b hb=>?_,q⟩
 ·have e1:lo+((0:Nat):Int)*1=lo:=by simp
  have W:(((hi-lo).toNat:Nat):Int)-((0:Nat):Int)=Builtin.Range.rangeSize lo hi 1:=by rw[rangeSize_one];split<;>lia
  rw[e1,W];exact aE _ rfl
 ·have e:b=(s.heap.push {cls:=.type "range",data:=.fields #[.int lo t,.int hi u,.int 1 v]}).objs.size:=by simpa using hb
  subst e;exact Z.fpOk (aB _) (Z.hok.fresh (aB _))
def BJ(ta:TA):TI:=fun σ H R=>ta σ H fun vs H1=>∃j:Int,vs=[.int j]/\-(2^62)<=j/\j<2^62/\R (Itr 0 j.toNat) H1
theorem gG{a:cH}{ta:TA}{p pos:Pos}(V:Gl X "range")(O:X.mg "range"=Z7)(ha:PA X [a] ta)(hs:cL [a] X.env=[(false,eY a X.env)]:=by rfl):PI X tg (.Call (.Name "range" p) [a] [] pos) (BJ ta):=by
 intro pins s σ H R I h;refine Call_ (pw I V O boot_range (j9 (thn (ha pos pins s σ H _ I h) fun us L ⟨vs,H1,Y,W,Z⟩=>?_) hs rfl));obtain⟨j,e,Z,M,q⟩:=Z;subst e
 cases W with
 |cons r U=>
  cases U;obtain⟨t,rfl⟩:=r;exact call_range_1 (BI Y (by lia) (by lia) Z M (by simpa using q))
def tFor(V:TI)(g:TG)(tb:TS):TS:=fun D σ H=>V σ H fun J H1=>∃W:Nat->Nat->St->Hp->Prop,(∃m,W 0 m σ H1)/\∀i m σ H,W i m σ H ->
 (J.stop i H/\D.nx σ H)\/(J.go i H/\∃N:St->Hp->Prop,(∀Z H',N Z H'->∃X,X<m/\W (i+1) X Z H')/\∀x H',J.yld i H x H'->g x σ H' fun Y H2=>tb {D with nx:=N,ct:=N,bk:=D.nx} Y H2)
def qB(fp:List ab)(h:cz):List (ab×Obj):=fp.filterMap fun b=>(h.get? b).map fun o=>(b,o)
theorem mC{fp:List ab}{h:cz}{b:ab}{o:Obj}(hb:b∈fp)(e:h.get? b=Z8 o):(b,o)∈qB fp h:=Bp.mpr {b,hb,e ▸ rfl}
theorem Au{fp:List ab}{h:cz}{p:ab×Obj}(hp:p∈qB fp h):p.1∈fp/\h.get? p.1=Z8 p.2:=by
 obtain⟨b,hb,e⟩:=Bp.mp hp
 cases q:h.get? b with
 |none=>rw[q]at e;cases e
 |some o=>
  rw[q]at e;have Z:=cv e;subst Z;exact⟨hb,q⟩
theorem Inv.pinned{pins:List (ab×Obj)}{σ:St}{H:Hp}{s:aj}{fp:List ab}(I:Inv X pins σ H s)(Y:∀b∈fp,vp X pins H b)(V:∀b∈fp,∃o,s.heap.get? b=Z8 o/\∀v,o.data≠.cell v):Inv X (pins++qB fp s.heap) σ H s:=
 I.pins_of fun p hp=>(cj.mp hp).elim (fun z=>I.pin p (cT _ z)) fun z=>by
  obtain⟨hb,e⟩:=Au z;obtain⟨U,f1,W,_⟩:=Y p.1 hb;obtain⟨o,Z,d⟩:=V p.1 hb;rw[e]at Z;cases Z;exact⟨e,U,f1,W,d⟩
theorem Inv.unpinned{pins Z:List (ab×Obj)}{σ:St}{H:Hp}{s:aj}(I:Inv X (pins++Z) σ H s):Inv X pins σ H s:=I.pins_of fun p hp=>I.pin p (cT _ (o6 _ hp))
theorem e9{V:cH}{B:List dI}{wi:TI}{g:TG}{tb:TS}{pos:Pos}(hp:PassesOwn (aW X.prog X.w) X.A X.env X.xe)(hc:X.calm=true)(hi:PI X tg V wi)(hg:PG X tg g)(hb:PSs X B tb)
  (hs:∀x,nG V X.env x=pure x:=by intro _;rfl):PS X (.For tg V B [] pos) (tFor wi g tb):=by
 intro pins s σ H D I h;refine wpAny_For (thn (hi pins s σ H _ I h) fun v s1 h1=>thn h1 fun cx s2 h2=>Z0 fun Gz gz=>?_) hs;obtain⟨it,fp,tn,J,H2,e,I2,T,da,f2,W,⟨m0,w0⟩,turn⟩:=h2;subst e;refine gz ?_;have L:∀{H':Hp},(∀b∈fp,H' b=Z7)->∀b∈fp,vp X pins H' b:=fun hn b hb=>{hn b hb,(f2 b hb).2};refine codeAny_forLoop_any (fun n s'=>∃i O H',Inv X pins O H' s'/\tn i s'.heap/\(∀b∈fp,H' b=Z7)/\W i n O H') ?_ m0 {0,σ,H2,I2,da,fun b hb=>(f2 b hb).1,w0};intro n s3 qz;refine Z0 fun Gz gz=>?_;obtain⟨i,Y,H3,I3,de,q,w3⟩:=qz;refine gz ?_
 rcases turn i n Y H3 w3 with⟨dd,qn⟩|⟨go,N,hN,step⟩
 ·refine i5 hp (thn (T.done X rfl rfl rfl hc i pins s3 Y H3 X.xe I3 (L q) de dd) fun r s4 qz=>?_);obtain⟨hr,I4⟩:=qz;subst hr;exact pN ⟨Y,H3,I4,qn⟩
 ·refine i5 hp (thn (T.item X rfl rfl rfl hc i pins s3 Y H3 X.xe I3 (L q) de go) fun r s4 qz=>?_);obtain⟨u,hr,h4⟩:=qz;subst hr;refine i5 hp (thn h4 fun _ s5 ⟨x,H5,I5,r5,y5,y,db⟩=>i5 hp (thn (hg _ s5 Y H5 x u _ (I5.pinned (L db) (T.obj _ _ y)) r5 (step x H5 y5)) fun _ s6 ⟨dc,H6,I6,q6⟩=>i5 hp (thn (hb _ s6 dc H6 _ I6 q6) fun f s7 z=>?_)));have again:∀{Z:St} {M:Hp},Inv X (pins++qB fp s5.heap) Z M s7->N Z M->∃m,m<n/\∃i O H',Inv X pins O H' s7/\tn i s7.heap/\(∀b∈fp,H' b=Z7)/\W i m O H':=fun {Z M} U t=>by
   obtain⟨m',hm,w7⟩:=hN Z M t;refine{m',hm,i+1,Z,M,U.unpinned,T.keep _ _ _ y fun b hb o e=>(U.pin (b,o) (cT _ (cT _ (mC hb e)))).1,fun b hb=>?_,w7};obtain⟨o,e,d⟩:=T.obj _ _ y b hb;exact (U.pin (b,o) (cT _ (cT _ (mC hb e)))).2.1
  cases f with
  |next=>obtain⟨Z,M,U,t⟩:=z;exact again U t
  |cont=>obtain⟨Z,M,U,t⟩:=z;exact again U t
  |brk=>obtain⟨Z,M,U,z⟩:=z;exact⟨Z,M,U.unpinned,z⟩
  |ret v=>obtain⟨x7,Z,M,U,r7,z⟩:=z;exact⟨x7,Z,M,U.unpinned,r7,z⟩
end
theorem pX{K:ag}{a:ab}{xs:List V}{g:TG}{tb:TS}{D:jW}{σ:St}{H:Hp}(Z:Nat->St->Hp->Prop)(h0:Z 0 σ H)(J:∀i σ H,i<=xs.length->Z i σ H->SqL K H a xs)
  (hs:∀i x σ H,xs[i]?=Z8 x->Z i σ H->g x σ H fun X H2=>tb {D with nx:=Z (i+1),ct:=Z (i+1),bk:=D.nx} X H2) (M:∀σ H,Z xs.length σ H->D.nx σ H) :
  ∃W:Nat->Nat->St->Hp->Prop,(∃m,W 0 m σ H)/\∀i m σ H,W i m σ H ->
   ((Itl K a).stop i H/\D.nx σ H)\/((Itl K a).go i H/\∃N:St->Hp->Prop,(∀Y H',N Y H'->∃O,O<m/\W (i+1) O Y H')/\∀x H',(Itl K a).yld i H x H'->g x σ H' fun X H2=>tb {D with nx:=N,ct:=N,bk:=D.nx} X H2):=by
 refine{fun i m σ H=>m=xs.length-i/\i<=xs.length/\Z i σ H,{xs.length,by simp,aO _,h0},?_};rintro i m σ H ⟨rfl,hi,p⟩;have q:=J i σ H hi p
 by_cases U:i<xs.length
 ·refine .inr {{xs,xs[i],q,by simp[U]},Z (i+1),fun Y H' L=>{xs.length-(i+1),by lia,Z9,U,L},fun x H' y=>?_};obtain⟨e,y⟩:=y;subst e;exact hs i x σ _ (y xs q) p
 ·have e:i=xs.length:=by lia
  subst e;exact .inl {{xs,q,aB _},M σ H p}
theorem kW{lo:Int}{n:Nat}{g:TG}{tb:TS}{D:jW}{σ:St}{H:Hp}(V:Nat->St->Hp->Prop)(h0:V 0 σ H)
  (hs:∀i σ H,i<n->V i σ H->g (.int (lo+i)) σ H fun X H2=>tb {D with nx:=V (i+1),ct:=V (i+1),bk:=D.nx} X H2) (O:∀σ H,V n σ H->D.nx σ H) :
  ∃W:Nat->Nat->St->Hp->Prop,(∃m,W 0 m σ H)/\∀i m σ H,W i m σ H ->
   ((Itr lo n).stop i H/\D.nx σ H)\/((Itr lo n).go i H/\∃N:St->Hp->Prop,(∀Y H',N Y H'->∃U,U<m/\W (i+1) U Y H')/\∀x H',(Itr lo n).yld i H x H'->g x σ H' fun X H2=>tb {D with nx:=N,ct:=N,bk:=D.nx} X H2):=by
 refine{fun i m σ H=>m=n-i/\i<=n/\V i σ H,{n,by simp,aO _,h0},?_};rintro i m σ H ⟨rfl,hi,p⟩
 by_cases Z:i<n
 ·refine .inr {Z,V (i+1),fun Y H' M=>{n-(i+1),by lia,Z9,Z,M},fun x H' y=>?_};obtain⟨e,y⟩:=y;subst e y;exact hs i σ _ Z p
 ·have e:i=n:=by lia
  subst e;exact .inl {aB _,O σ H p}
theorem BK{c:TT}{tb:TS}{D:jW}{σ:St}{H:Hp}(Y:St->Hp->Prop)(μ:St->Hp->Nat)(h0:Y σ H)
  (hs:∀σ H,Y σ H->c σ H fun b H1=>if b=true then tb {D with nx:=fun Z H'=>Y Z H'/\μ Z H'<μ σ H,ct:=fun Z H'=>Y Z H'/\μ Z H'<μ σ H,bk:=D.nx} σ H1 else D.nx σ H1)
  (mono:∀σ H Q X,(∀b H1,Q b H1->X b H1)->c σ H Q->c σ H X):BF c tb D σ H:=by
 refine{fun m σ H=>m=μ σ H/\Y σ H,{_,Z9,h0},?_};rintro m σ H ⟨rfl,p⟩;refine mono σ H _ _ (fun b H1 q=>?_) (hs σ H p)
 cases b with
 |true=>exact{_,fun Z H' ⟨W,l⟩=>{_,l,Z9,W},q}
 |false=>exact q
abbrev R2:=V->V->Hp->VK->Prop
def OpR(X:Cx)(f:ae->ae->Sem ae)(r:R2):Prop:=
 ∀(pins:List (ab×Obj)) (s:aj) (σ:St) (H:Hp) (x y:V) (v u:ae) (Q:VK),Inv X pins σ H s->RelV x v->RelV y u->r x y H Q ->
  aN (aW X.prog X.w) X.A (f v u) (EP X pins σ Q) X.xe s
def UnR(X:Cx)(f:ae->Sem ae)(r:V->Hp->VK->Prop):Prop:=
 ∀(pins:List (ab×Obj)) (s:aj) (σ:St) (H:Hp) (x:V) (v:ae) (Q:VK),Inv X pins σ H s->RelV x v->r x H Q ->
  aN (aW X.prog X.w) X.A (f v) (EP X pins σ Q) X.xe s
def kN(X:Cx)(f:ae)(r:List V->Hp->VK->Prop):Prop:=
 ∀(pins:List (ab×Obj)) (s:aj) (σ:St) (H:Hp) (xs:List V) (us:List ae) (Q:VK),Inv X pins σ H s->dU xs us->r xs H Q ->
  aN (aW X.prog X.w) X.A (pz f us) (EP X pins σ Q) X.xe s
def TruR(X:Cx)(r:V->Hp->(Bool->Hp->Prop)->Prop):Prop:=
 ∀(pins:List (ab×Obj)) (s:aj) (σ:St) (H:Hp) (x:V) (v:ae) (Q:Bool->Hp->Prop),Inv X pins σ H s->RelV x v->r x H Q ->
  aN (aW X.prog X.w) X.A (truthy v) (TP X pins σ Q) X.xe s
def tOp(r:R2)(ta tb:TE):TE:=fun σ H Q=>ta σ H fun x H1=>tb σ H1 fun y H2=>r x y H2 Q
def tUn(r:V->Hp->VK->Prop)(ta:TE):TE:=fun σ H Q=>ta σ H fun x H1=>r x H1 Q
inductive RI(C:Int->Int->Prop)(g:Int->Int->V)(x y:V)(H:Hp)(Q:VK):Prop where
 |mk(i j:Int)(hx:x=.int i)(hy:y=.int j)(c:C i j)(q:Q (g i j) H):RI C g x y H Q
def rI(C:Int->Int->Prop)(g:Int->Int->V):R2:=fun x y H Q=>RI C g x y H Q
inductive RI0(g:Int->Int->V)(x y:V)(H:Hp)(Q:VK):Prop where
 |mk(i j:Int)(hx:x=.int i)(hy:y=.int j)(q:Q (g i j) H):RI0 g x y H Q
def rI0(g:Int->Int->V):R2:=fun x y H Q=>RI0 g x y H Q
inductive RU(g:Int->V)(x:V)(H:Hp)(Q:VK):Prop where
 |mk(i:Int)(hx:x=.int i)(q:Q (g i) H):RU g x H Q
def rU(g:Int->V):V->Hp->VK->Prop:=fun x H Q=>RU g x H Q
section
variable{X:Cx}{a b c:cH}{ta tb tc:TE}{pos:Pos}
theorem HU(ha:PE X a ta)(hb:PE X b tb){pins:List (ab×Obj)}{s:aj}{σ:St}{H:Hp}{R:V->V->Hp->Prop}(I:Inv X pins σ H s)
  (h:ta σ H fun x H1=>tb σ H1 fun y H2=>R x y H2) {Q:ae->aj->Prop} {f:ae->ae->Sem ae}
  (W:∀v u s2 x y H2,Inv X pins σ H2 s2->RelV x v->RelV y u->R x y H2->aN (aW X.prog X.w) X.A (f v u) Q X.xe s2) :
  aN (aW X.prog X.w) X.A (eY a X.env) (fun v Z=>aN (aW X.prog X.w) X.A (eY b X.env) (fun u Y=>aN (aW X.prog X.w) X.A (f v u) Q X.xe Y) X.xe Z) X.xe s:=thn (ha pins s σ H _ I h) fun v O ⟨x,H1,U,M,L⟩=>thn (hb pins O σ H1 _ U L) fun u s2 ⟨y,H2,J,D,B⟩=>W v u s2 x y H2 J M D B
theorem cV{op:Eo}{r:R2}(Y:OpR X (kJ op) r)(ha:PE X a ta)(hb:PE X b tb):PE X (.BinOp a op b pos) (tOp r ta tb):=by
 intro pins s σ H Q I h;exact wpAny_BinOp (HU ha hb I h fun v u s2 x y H2 V W Z q=>Y pins s2 σ H2 x y v u Q V W Z q)
theorem wO{op:UnaryOp}{r:V->Hp->VK->Prop}(O:UnR X (unaryOp op) r)(ha:PE X a ta):PE X (.UnaryOp op a pos) (tUn r ta):=by
 intro pins s σ H Q I h;exact UnaryOp_ (thn (ha pins s σ H _ I h) fun v Y ⟨x,H1,Z,W,U⟩=>O pins Y σ H1 x v Q Z W U)
theorem opI{f:ae->ae->Sem ae}{C:Int->Int->Prop}{g:Int->Int->Int}
  (Ep:∀(i j:Int) (t u:Tok) (s:aj) (Q:ae->aj->Prop) (E:ae->aj->Prop),C i j->Q (.int (g i j) s.toks) {s with toks:=s.toks+1}->aN (aW X.prog X.w) X.A (f (.int i t) (.int j u)) Q E s) :
  OpR X f (rI C fun i j=>.int (g i j)):=by
 intro pins s σ H x y v u Q I Y Z h;obtain⟨i,j,rfl,rfl,hc,q⟩:=h;obtain⟨t,rfl⟩:=Y;obtain⟨t',rfl⟩:=Z;exact Ep i j t t' s _ _ hc {.int (g i j),H,I.tok _,{_,Z9},q}
theorem opI0{f:ae->ae->Sem ae}{g:Int->Int->Int}
  (Ep:∀(i j:Int) (t u:Tok) (s:aj) (Q:ae->aj->Prop) (E:ae->aj->Prop),Q (.int (g i j) s.toks) {s with toks:=s.toks+1}->aN (aW X.prog X.w) X.A (f (.int i t) (.int j u)) Q E s) :
  OpR X f (rI0 fun i j=>.int (g i j)):=by
 intro pins s σ H x y v u Q I Y Z h;obtain⟨i,j,rfl,rfl,q⟩:=h;obtain⟨t,rfl⟩:=Y;obtain⟨t',rfl⟩:=Z;exact Ep i j t t' s _ _ {.int (g i j),H,I.tok _,{_,Z9},q}
theorem HV{f:ae->ae->Sem ae}{g:Int->Int->Bool}
  (Ep:∀(i j:Int) (t u:Tok) (s:aj) (Q:ae->aj->Prop) (E:ae->aj->Prop),Q (.bool (g i j)) s->aN (aW X.prog X.w) X.A (f (.int i t) (.int j u)) Q E s) :
  OpR X f (rI0 fun i j=>.bl (g i j)):=by
 intro pins s σ H x y v u Q I Y Z h;obtain⟨i,j,rfl,rfl,q⟩:=h;obtain⟨t,rfl⟩:=Y;obtain⟨t',rfl⟩:=Z;exact Ep i j t t' s _ _ {.bl (g i j),H,I,Z9,q}
def CDiv(i j:Int):Prop:=0<j/\j<1073741824
def BL(i j:Int):Prop:=0<=j/\j<=1000000/\i.natAbs<2^64
def HW(i j:Int):Prop:=(-(2^64)<i/\i<2^64)\/(-(2^64)<j/\j<2^64)
theorem HW.ok{i j:Int}(h:HW i j):IntMulOk i j:=by
 rcases h with⟨h1,h2⟩|⟨h1,h2⟩
 ·exact .of_left (intBits_le_64 h1 h2)
 ·exact .of_right (intBits_le_64 h1 h2)
theorem il:OpR X (kJ .Add) (rI0 fun i j=>.int (i+j)):=opI0 fun _ _ _ _ _ _ _ q=>add_int q
theorem jX:OpR X (kJ .Sub) (rI0 fun i j=>.int (i-j)):=opI0 fun _ _ _ _ _ _ _ q=>sub_int q
theorem oa:OpR X (kJ .Mult) (rI HW fun i j=>.int (i*j)):=opI fun _ _ _ _ _ _ _ hc q=>mul_int q hc.ok
theorem Er:OpR X (kJ .FloorDiv) (rI CDiv fun i j=>.int (i/j)):=opI fun i j _ _ _ _ _ hc q=>by
 have h1:=hc.1;have h2:=hc.2;exact floordiv_int (by omega) (by rw[vt i (by omega)];exact q) (.inl (PyProof.noPylong_small (by omega)))
theorem oe:OpR X (kJ .Mod) (rI (fun _ j=>0<j) fun i j=>.int (i%j)):=opI fun i j _ _ _ _ _ hc q=>by
 exact mod_int' (by lia) (by rw[Int.fmod_eq_emod_of_nonneg i (by lia)];exact q)
theorem pA:OpR X (kJ .Pow) (rI BL fun i j=>.int (i^j.toNat)):=opI fun _ _ _ _ _ _ _ hc q=>pow_int_small hc.1 hc.2.1 hc.2.2 q
theorem unI{f:ae->Sem ae}{g:Int->Int}
  (Ep:∀(i:Int) (t:Tok) (s:aj) (Q:ae->aj->Prop) (E:ae->aj->Prop),Q (.int (g i) s.toks) {s with toks:=s.toks+1}->aN (aW X.prog X.w) X.A (f (.int i t)) Q E s) :
  UnR X f (rU fun i=>.int (g i)):=by
 intro pins s σ H x v Q I Z h;obtain⟨i,rfl,q⟩:=h;obtain⟨t,rfl⟩:=Z;exact Ep i t s _ _ {.int (g i),H,I.tok _,{_,Z9},q}
theorem rQ:UnR X (unaryOp .USub) (rU fun i=>.int (-i)):=unI fun _ _ _ _ _ q=>neg_int q
end
def scal:V->V->Bool
 |.non,.non=>true|.non,.int _=>true|.int _,.non=>true|.non,.bl _=>true|.bl _,.non=>true|.non,.str _=>true|.str _,.non=>true
 |.int _,.int _=>true|.bl _,.bl _=>true|.str _,.str _=>true|.byt _,.byt _=>true
 |.int _,.str _=>true|.str _,.int _=>true|.bl _,.str _=>true|.str _,.bl _=>true
 |_,_=>false
def rEq:R2:=fun x y H Q=>scal x y=true/\Q (.bl (decide (x=y))) H
def rNe:R2:=fun x y H Q=>scal x y=true/\Q (.bl (!decide (x=y))) H
theorem zv{i j:Int}:decide (V.int i=V.int j)=(i==j):=by
 rw[og];simp
theorem BM{i j:Bool}:decide (V.bl i=V.bl j)=(i==j):=by
 rw[og];simp
theorem zw{i j:Str}:decide (V.str i=V.str j)=(i==j):=by
 rw[og];simp
theorem zx{i j:Array UInt8}:decide (V.byt i=V.byt j)=(i.toList==j.toList):=by
 rw[og]
 cases i
 cases j;simp
section
variable{X:Cx}{a b c:cH}{ta tb tc:TE}{pos:Pos}
theorem eS{pins:List (ab×Obj)}{σ:St}{H:Hp}{s:aj}{Q:VK}{k Z:Bool}(I:Inv X pins σ H s)(q:Q (.bl k) H)(e:k=Z):EP X pins σ Q (.bool Z) s:=by
 subst e;exact{.bl k,H,I,Z9,q}
theorem iS:OpR X (gi .Eq) rEq:=by
 intro pins s σ H x y v u Q I Y Z h;obtain⟨hs,q⟩:=h
 cases x with
 |non=>
  cases Y
  cases y with
  |non=>cases Z;exact PySem.EqNone.eq_none_none (eS I q (by simp))
  |bl j=>cases Z;exact PySem.EqNone.eq_none_bool (eS I q (by simp))
  |int j=>obtain⟨t',rfl⟩:=Z;exact PySem.EqNone.eq_none_int (eS I q (by simp))
  |str j=>obtain⟨t',rfl⟩:=Z;exact PySem.EqNone.eq_none_str (eS I q (by simp))
  |_=>exact Q7 (hs) bz
 |bl i=>
  subst Y
  cases y with
  |non=>cases Z;exact PySem.EqNone.eq_bool_none (eS I q (by simp))
  |bl j=>cases Z;exact eq_bool (eS I q BM)
  |str j=>obtain⟨t',rfl⟩:=Z;exact PySem.EqMixed.eq_bool_str (eS I q (by simp))
  |_=>exact Q7 (show false=true from hs) bz
 |int i=>
  obtain⟨t,rfl⟩:=Y
  cases y with
  |non=>cases Z;exact PySem.EqNone.eq_int_none (eS I q (by simp))
  |int j=>obtain⟨t',rfl⟩:=Z;exact eq_int (eS I q zv)
  |str j=>obtain⟨t',rfl⟩:=Z;exact PySem.EqMixed.eq_int_str (eS I q (by simp))
  |_=>exact Q7 (show false=true from hs) bz
 |str i=>
  obtain⟨t,rfl⟩:=Y
  cases y with
  |non=>cases Z;exact PySem.EqNone.eq_str_none (eS I q (by simp))
  |bl j=>cases Z;exact PySem.EqMixed.eq_str_bool (eS I q (by simp))
  |int j=>obtain⟨t',rfl⟩:=Z;exact PySem.EqMixed.eq_str_int (eS I q (by simp))
  |str j=>obtain⟨t',rfl⟩:=Z;exact eq_str (eS I q zw)
  |_=>exact Q7 (show false=true from hs) bz
 |byt i=>
  obtain⟨t,rfl⟩:=Y
  cases y with
  |byt j=>obtain⟨t',rfl⟩:=Z;exact PySem.W.eq_bytes (eS I q zx)
  |_=>exact Q7 (show false=true from hs) bz
 |_=>cases y<;>exact Q7 (show false=true from hs) bz
theorem BN:OpR X (gi .NotEq) rNe:=by
 intro pins s σ H x y v u Q I Y Z h;obtain⟨hs,q⟩:=h
 cases x with
 |non=>
  cases Y
  cases y with
  |non=>cases Z;exact PySem.EqNone.ne_none_none (eS I q (by simp))
  |bl j=>cases Z;exact PySem.EqNone.ne_none_bool (eS I q (by simp))
  |int j=>obtain⟨t',rfl⟩:=Z;exact PySem.EqNone.ne_none_int (eS I q (by simp))
  |str j=>obtain⟨t',rfl⟩:=Z;exact PySem.EqNone.ne_none_str (eS I q (by simp))
  |_=>exact Q7 (hs) bz
 |bl i=>
  subst Y
  cases y with
  |non=>cases Z;exact PySem.EqNone.ne_bool_none (eS I q (by simp))
  |bl j=>cases Z;exact ne_bool (eS I q (congrArg not BM))
  |str j=>obtain⟨t',rfl⟩:=Z;exact PySem.EqMixed.ne_bool_str (eS I q (by simp))
  |_=>exact Q7 (show false=true from hs) bz
 |int i=>
  obtain⟨t,rfl⟩:=Y
  cases y with
  |non=>cases Z;exact PySem.EqNone.ne_int_none (eS I q (by simp))
  |int j=>obtain⟨t',rfl⟩:=Z;exact ne_int (eS I q (congrArg not zv))
  |str j=>obtain⟨t',rfl⟩:=Z;exact PySem.EqMixed.ne_int_str (eS I q (by simp))
  |_=>exact Q7 (show false=true from hs) bz
 |str i=>
  obtain⟨t,rfl⟩:=Y
  cases y with
  |non=>cases Z;exact PySem.EqNone.ne_str_none (eS I q (by simp))
  |bl j=>cases Z;exact PySem.EqMixed.ne_str_bool (eS I q (by simp))
  |int j=>obtain⟨t',rfl⟩:=Z;exact PySem.EqMixed.ne_str_int (eS I q (by simp))
  |str j=>obtain⟨t',rfl⟩:=Z;exact ne_str (eS I q (congrArg not zw))
  |_=>exact Q7 (show false=true from hs) bz
 |byt i=>
  obtain⟨t,rfl⟩:=Y
  cases y with
  |byt j=>obtain⟨t',rfl⟩:=Z;exact PySem.W.ne_bytes (eS I q (congrArg not zx))
  |_=>exact Q7 (show false=true from hs) bz
 |_=>cases y<;>exact Q7 (show false=true from hs) bz
theorem uk:OpR X (gi .Lt) (rI0 fun i j=>.bl (decide (i<j))):=HV fun _ _ _ _ _ _ _ q=>lt_int q
theorem FS:OpR X (gi .LtE) (rI0 fun i j=>.bl (decide (i<=j))):=HV fun _ _ _ _ _ _ _ q=>le_int q
theorem o7:OpR X (gi .Gt) (rI0 fun i j=>.bl (decide (j<i))):=HV fun _ _ _ _ _ _ _ q=>gt_int q
theorem BO(b:cH){op:Bo}(h:op≠.In:=by decide)(h2:op≠.NotIn:=by decide):ja op b=false:=by
 have e1:(op==CmpOp.In)=false:=by simp_all
 have Z:(op==CmpOp.NotIn)=false:=by simp_all
 cases b<;>simp[ja,e1,Z]
theorem pY{op:Bo}{r:R2}(V:OpR X (gi op) r)(ha:PE X a ta)(hb:PE X b tb)(U:ja op b=false:=by first|exact BO _|rfl):PE X (.Compare a [op] [b] pos) (tOp r ta tb):=by
 intro pins s σ H Q I h;exact wpAny_Compare1 (HU ha hb I h fun v u s2 x y H2 Y Z W q=>V pins s2 σ H2 x y v u Q Y Z W q) U
def um(t:TE):TT:=fun σ H Q=>t σ H fun x H'=>BlI x H' Q
theorem cG{op:Bo}{r:R2}(J:OpR X (gi op) r)(ha:PE X a ta)(hb:PE X b tb)(D:autoParam (ja op b=false) pY._auto_1):PT X (.Compare a [op] [b] pos) (um (tOp r ta tb)):=by
 intro pins s σ H Q I h;refine Ef (thn (ha pins s σ H _ I h) fun v W ⟨x,H1,Y,V,O⟩=>thn (hb pins W σ H1 _ Y O) fun u s2 ⟨y,H2,M,B,q⟩=>
  thn (J pins s2 σ H2 x y v u _ M V B q) fun c g ⟨z,L,U,t,k,e,Z⟩=>?_) D
 subst e;subst t;exact gH ⟨L,U,Z⟩
def TruV(K:ag)(x:V)(H:Hp)(k:Bool):Prop:=
 match x with
 |.non=>k=false
 |.bl b=>k=b
 |.int i=>k=(i != 0)
 |.str y=>y.length<=aF/\k=((y.length:Int) != 0)
 |.byt y=>y.size<=aF/\k=((y.size:Int) != 0)
 |.ref p=>(∃xs,SqL K H p xs/\k=!xs.isEmpty)\/(∃xs,SqT K H p xs/\k=!xs.isEmpty)\/∃kvs,H p=Z8 (.dK kvs)/\k=!kvs.isEmpty
 |_=>False
theorem ym{κ:Type}{kvs:List (κ×V)}{vs:List (κ×ae)}(r:KV kvs vs):(!vs.isEmpty)=!kvs.isEmpty:=by
 cases r<;>rfl
theorem rR{xs:List V}{its:List ae}(r:dU xs its):(!its.toArray.isEmpty)=!xs.isEmpty:=by
 cases r<;>simp
theorem rS:(aF:Nat)<2^63:=by rw[qC];decide
theorem HX:TruR X (fun x H Q=>∃k,TruV X.K x H k/\Q k H):=by
 intro pins s σ H x v Q I V h;obtain⟨k,e,q⟩:=h;have hs:=qC
 cases x with
 |non=>
  subst V;subst (e);exact truthy_none ⟨H,I,q⟩
 |bl b=>
  subst V;subst (e);exact gH ⟨H,I,q⟩
 |int i=>
  obtain⟨t,rfl⟩:=V;subst (e);exact PySem.P.truthy_int ⟨H,I,q⟩
 |str y=>
  obtain⟨t,rfl⟩:=V;obtain⟨hy,Z⟩:y.length<=aF/\k=((y.length:Int) != 0):=e;subst Z;exact PySem.P.truthy_str (by lia) {H,I.tok _,q}
 |byt y=>
  obtain⟨t,rfl⟩:=V;obtain⟨hy,Z⟩:y.size<=aF/\k=((y.size:Int) != 0):=e;subst Z;exact PySem.W.truthy_bytes (by lia) {H,I.tok _,q}
 |ref p=>
  subst V;have Z:=e
  rcases Z with⟨xs,hx,Z⟩|⟨xs,hx,Z⟩|⟨kvs,hx,Z⟩
  ·subst Z;obtain⟨its,r,U,hz⟩:=I.list hx;have Y:=r.length;exact wpAny_truthy_list U.isList (by simp only[bj];lia) {H,I.tok _,(rR r) ▸ q}
  ·subst Z;obtain⟨its,r,U,hz⟩:=I.tuple hx;have Y:=r.length;exact truthy_tuple U (by simp only[bj];lia) {H,I.tok _,(rR r) ▸ q}
  ·subst Z;obtain⟨hz,O,vs,r,m⟩:kvs.length<=aF/\(p==gc)=false/\∃vs,KV kvs vs/\s.heap.DictOf (eF X.prog X.w) p vs:=I.hok p _ hx;have Y:=bQ r;exact wpAny_truthy_dict O m (by lia) {H,I.tok _,(ym r) ▸ q}
 |_=>exact (e).elim
theorem rT(ha:PE X a ta)(O:∀Z,BA a X.env Z=(do let v <- Z;xZ a.pos;nF [v] (truthy v))) :
  PT X a (fun σ H Q=>ta σ H fun x H'=>∃k,TruV X.K x H' k/\Q k H'):=by
 intro pins s σ H Q I h;exact isTrue_plain (thn (ha pins s σ H _ I h) fun v W ⟨x,H1,Y,V,U⟩=>HX pins W σ H1 x v Q Y V U) (O _)
theorem yn:OpR X (kJ .Add) (fun x y H Q=>∃i j,x=.str i/\y=.str j/\i.length+j.length<=aF/\Q (.str (i++j)) H):=by
 intro pins s σ H x y v u Q I Y Z h;obtain⟨i,j,rfl,rfl,hz,q⟩:=h;obtain⟨t,rfl⟩:=Y;obtain⟨t',rfl⟩:=Z;exact add_str (fun t' tk=>{.str (i++j),H,I.tok _,{_,Z9},q}) hz
theorem vals1{x:V}{us:List ae}(r:dU [x] us):∃u,us=[u]/\RelV x u:=by
 cases r with
 |cons Y Z=>cases Z;exact{_,Z9,Y}
theorem vals2{x y:V}{us:List ae}(r:dU [x,y] us):∃u Z,us=[u,Z]/\RelV x u/\RelV y Z:=by
 cases r with
 |cons X W=>
  cases W with
  |cons U Y=>cases Y;exact{_,_,Z9,X,U}
theorem Av(hc:X.calm=true):kN X (.builtin "max") (fun xs H Q=>∃i j,xs=[.int i,.int j]/\Q (.int (if j>i then j else i)) H):=by
 intro pins s σ H xs us Q I r h;obtain⟨i,j,rfl,q⟩:=h;obtain⟨u,Y,rfl,⟨t,rfl⟩,⟨t',rfl⟩⟩:=vals2 r;refine max_two_ints (I.ok.hd hc) fun h' tk k=>{_,H,I.kept k,?_,q}
 by_cases Z:j>i
 ·rw[Q6 Z,Q6 Z];exact{_,Z9}
 ·rw[Q5 Z,Q5 Z];exact{_,Z9}
theorem uo:kN X (.type "int") (fun xs H Q=>(∃i,xs=[.int i]/\Q (.int i) H)\/∃k,xs=[.bl k]/\Q (.int (if k then 1 else 0)) H):=by
 intro pins s σ H xs us Q I r h
 rcases h with⟨i,rfl,q⟩|⟨k,rfl,q⟩
 ·obtain⟨u,rfl,t,rfl⟩:=vals1 r;exact call_int_int {.int i,H,I,{_,Z9},q}
 ·obtain⟨u,rfl,Z⟩:=vals1 r;subst Z;exact call_int_bool {.int (if k then 1 else 0),H,I.tok _,{_,Z9},q}
end
structure yo(h:cz)(x dx C:ab)(mA:Str->Option ae):Prop where
 obj:h.get? x=Z8 (gU C dx)
 ns:h.Ns1 dx mA
 ne:dx≠x
theorem Aw{h:cz}{dx:ab}{mA:Str->Option ae}(n:h.Ns1 dx mA):∃Y,h.get? dx=Z8 Y/\∀name,oh name Y=Z8 (mA name):=by
 obtain⟨o,es,ep,W,X,hk,_,V⟩:=n;refine{o,W,fun name=>?_};have e:=V name;unfold nsFind findBy at e;rw[<- Array.find?_toList]at e;unfold oh;rw[X];dsimp only
 split
 ·simp_all
 ·rename_i q
  rw[q]at e;have a:es.toList.any (·.refKey)=false:=by
   rw[List.any_eq_false];intro y hy;obtain⟨z,t,Z⟩:=hk y (Array.mem_toList_iff.mp hy);simp[DictEntry.refKey,Z]
  rw[Q5 (a ▸ bz)];exact congrArg Z8 e
theorem yo.look{h:cz}{x dx C:ab}{mA:Str->Option ae}(I:yo h x dx C mA):∃Z,PySem.W.InstAt h x (gU C dx) C (Z8 Z)/\∀name,oh name Z=Z8 (mA name):=
 let ⟨Z,Y,X⟩:=Aw I.ns
 {Z,⟨I.obj,Z9,Z9,Y⟩,X}
section
variable{prog:aP}{w:bF}{A:cm}{E:ae->aj->Prop}{s:aj}{K:ag}{x dx C f:ab}{mA:Str->Option ae}{name:Str}{v:ae}
theorem Es{Z:Bool}{Q:ae->aj->Prop}(X:K.In s.heap)(I:yo s.heap x dx C mA)(V:lW K C name=true)(U:pZ K C=true)
  (ha:bA K (.ref C) name=Z8 Z7) (hv:mA name=Z8 v) (Y:Ax v=true) (h:Q v {s with toks:=s.toks+1}) :
  aN (aW prog w) A (getAttr (.ref x) name Z) Q E s:=by
 obtain⟨M,J,O⟩:=I.look;exact PySem.W.get_value X J (oY V).1 (PySem.W.findObj_own U ha rfl (by rw[O,hv])) Y h
theorem BP{M:Sem Bool}{Q:ae×List ae->aj->Prop}(X:K.In s.heap)(I:yo s.heap x dx C mA)(Z:lW K C name=true)
  (Y:bA K (.ref C) name=Z8 (Z8 (.ref f))) (V:mI K (.ref f)=true) (hv:mA name=Z7) (h:Q (.ref f,[.ref x]) s) :
  aN (aW prog w) A (vv (.ref x) name M) Q E s:=by
 obtain⟨U,J,O⟩:=I.look;exact PySem.W.method_fn X J (oY Z).1 (oY Z).2 Y (beq_iff_eq.mp V) (by show (oh name U).map (·.isSome)=Z8 false;rw[O,hv];rfl) h
theorem Et{L:List Str}{Q:Unit->aj->Prop}(X:K.In s.heap)(I:yo s.heap x dx C mA)
  (hs:bA K (.ref C) "__setattr__"=Z8 (Z8 (.builtin "object.__setattr__"))) (hp:zy K C=true) (B:rg K C name=Z8 Z7) (z:pZ K C=true)
  (hw:wH mA L) (hsz:L.length<=aF)
  (h:∀h',yo h' x dx C (fun y=>if y=name then Z8 v else mA y)->fX dx s.heap h'->Q () {s with heap:=h',toks:=s.toks+2}) :
  aN (aW prog w) A (setAttr (.ref x) name v) Q E s:=by
 obtain⟨f,J,hl⟩:=I.look;refine PySem.W.set_plain X J hs (PySem.W.osa_open X J hp B fun b=>?_);obtain⟨d,hc,O⟩:=PySem.W.any_some z;refine aa (af (aa (aa (wpAny_loadPart (I.obj) (aa (PySem.W.Looks.here (PySem.W.looks_clsIn X hc) ?_))))));rw[O];refine af (aa (af (aa (wpAny_nsSet1 I.ns fun h' Y Z=>Z0 fun q r=>?_))));obtain⟨g,t,D,M,U,V⟩:=Y.count (PySem.Within.cons name v hw);exact r (aa (wpAny_lookBehind M (U ▸ pastItsLine_dict (dh V (by rw[cY];omega))) (af (h _ {(Z.2 _ (cE I.ne)).trans I.obj,Y,I.ne} Z))))
theorem BQ{R:rV->aj->Prop}{vs:List ae}{kw:List (Str×ae)}(X:K.In s.heap)(Z:rh K C=true)
  (hi:bA K (.ref C) "__init__"=Z8 (Z8 (.ref f))) (Y:PySem.W.typeIn K (.ref f)=Z8 (.type "function"))
  (h:iL (aW prog w) (A.under (.builtin "type.__call__" {.ref C::vs,kw})) (.call (.ref f) {.ref (s.heap.objs.size+1)::vs,kw}) (PySem.W.InitBack (s.heap.objs.size+1) R)
   {s with heap:=(s.heap.push fY).push (gU C s.heap.objs.size)}) :
  iL (aW prog w) A (.call (.ref C) ⟨vs,kw⟩) R s:=PySem.W.make_core (PySem.W.makes_of X Z) (PySem.W.looks_findIn X hi) (fun self=>PySem.W.bind_fn X self Y) (.inl rfl) h
end
def aM(f:Str)(v:V):List (Str×V)->List (Str×V)
 | []=>[(f,v)]
 |(g,x)::r=>if g=f then (g,v)::r else (g,x)::aM f v r
theorem fJ(f g:Str)(v:V):∀fs:List (Str×V),(aM f v fs).lookup g=if g=f then Z8 v else fs.lookup g
 | []=>by
  show o8 g [(f,v)]=_
  by_cases h:g=f
  ·have hb:(g==f)=true:=beq_iff_eq.mpr h;simp only[o8,hb,Q6 h]
  ·have hb:=beq_eq_false_iff_ne.mpr h;simp only[o8,hb,Q5 h]
 |(k,x)::r=>by
  rw[show aM f v ((k,x)::r)=(if k=f then (k,v)::r else (k,x)::aM f v r) from rfl]
  by_cases hk:k=f
  ·rw[Q6 hk]
   by_cases h:g=k
   ·simp_all
   ·have hb:=beq_eq_false_iff_ne.mpr h;simp only[o8,hb,Q5 (fun e:g=f=>h (e.trans hk.symm))]
  ·rw[Q5 hk]
   by_cases h:g=k
   ·simp_all
   ·have hb:=beq_eq_false_iff_ne.mpr h;simp only[o8,hb];exact (fJ f g v r)
theorem qD(f:Str)(v:V):∀fs:List (Str×V),f∈(aM f v fs).map (·.1)/\∀g,g∈fs.map (·.1)->g∈(aM f v fs).map (·.1)
 | []=>{by simp[aM],fun g h=>by simp at h}
 |(k,x)::r=>by
  obtain⟨Z,Y⟩:=qD f v r;rw[show aM f v ((k,x)::r)=(if k=f then (k,v)::r else (k,x)::aM f v r) from rfl]
  by_cases hk:k=f
  ·grind
  ·grind
theorem jB(f:Str)(v:V):∀fs:List (Str×V),(aM f v fs).length<=fs.length+1
 | []=>by simp[aM]
 |(k,x)::r=>by
  have Z:=jB f v r;rw[show aM f v ((k,x)::r)=(if k=f then (k,v)::r else (k,x)::aM f v r) from rfl]
  by_cases hk:k=f
  ·simp_all
  ·simp_all
theorem ng.some_of{v:V}{o:Option ae}(r:ng (Z8 v) o):∃u,o=Z8 u/\RelV v u:=by
 cases o with
 |none=>exact (r).elim
 |some u=>exact⟨u,Z9,r⟩
theorem ng.none_of{o:Option ae}(r:ng Z7 o):o=Z7:=by
 cases o with
 |none=>rfl
 |some u=>exact (r).elim
theorem Ay{v:V}{u:ae}(r:RelV v u):Ax u=true:=by
 cases v with
 |non=>cases (r);rfl
 |bl b=>cases (r);rfl
 |int i=>obtain⟨t,e⟩:=(r);cases e;rfl
 |str x=>obtain⟨t,e⟩:=(r);cases e;rfl
 |byt b=>obtain⟨t,e⟩:=(r);cases e;rfl
 |flt b=>obtain⟨t,e⟩:=(r);cases e;rfl
 |ref a=>cases (r);rfl
 |ty n=>cases (r);rfl
section
variable{P:aP}{w:bF}{H H':Hp}{h h':cz}{a C dx:ab}{fs fs':List (Str×V)}
theorem rB(Z:HOk P w H h)(e:H a=Z8 (.ins C dx fs)):∃mA,yo h a dx C mA/\(∀f,ng (fs.lookup f) (mA f))/\wH mA (fs.map (·.1))/\fs.length<=1000/\H dx=Z8 (.own a):=by
 refine Z0 fun W Y=>?_;obtain⟨d,z,ne,X,mA,n,r,q⟩:=(Z a _ e);exact Y ({mA,⟨X,n,ne⟩,r,q,z,d})
end
structure Cls(K:ag)(C:ab):Prop where
 pg:lW K C Str.empty=true
 hd:pZ K C=true
 po:zy K C=true
 sa:bA K (.ref C) "__setattr__"=Z8 (Z8 (.builtin "object.__setattr__"))
theorem Cls.get{K:ag}{C:ab}(c:Cls K C)(f:Str):lW K C f=true:=c.pg
def eP(K:ag)(C:ab)(f:Str):Prop:=bA K (.ref C) f=Z8 Z7
theorem eP.taker{K:ag}{C:ab}{f:Str}(n:eP K C f):rg K C f=Z8 Z7:=by
 unfold rg;rw[show bA K (.ref C) f=Z8 Z7 from n];rfl
structure yp(K:ag)(C:ab)(m:Str)(f:ab):Prop where
 at_:bA K (.ref C) m=Z8 (Z8 (.ref f))
 fn:mI K (.ref f)=true
 kp:ip K (.ref f)=true
section
variable{X:Cx}{pins:List (ab×Obj)}{σ:St}{H:Hp}{s:aj}{a C dx:ab}{fs:List (Str×V)}{f:Str}{v:V}{A:cm}{E:ae->aj->Prop}
theorem rW{b:Bool}{Q:ae->aj->Prop}(I:Inv X pins σ H s)(e:H a=Z8 (.ins C dx fs))(c:Cls X.K C)(n:eP X.K C f)(l:fs.lookup f=Z8 v)
  (h:∀u s',Inv X pins σ H s'->RelV v u->Q u s'):aN (aW X.prog X.w) A (getAttr (.ref a) f b) Q E s:=by
 obtain⟨mA,O,r,_,_,_⟩:=rB I.hok e;obtain⟨u,Y,Z⟩:=ng.some_of (l ▸ r f);exact Es I.kIn O (c.get f) c.hd n Y (Ay Z) (h u _ (I.tok _) Z)
theorem pB{m:Str}{g:ab}{Z:Sem Bool}{Q:ae×List ae->aj->Prop}(I:Inv X pins σ H s)(e:H a=Z8 (.ins C dx fs))(c:Cls X.K C)(k:yp X.K C m g)(l:fs.lookup m=Z7)
  (h:Q (.ref g,[.ref a]) s):aN (aW X.prog X.w) A (vv (.ref a) m Z) Q E s:=by
 obtain⟨mA,O,r,_,_,_⟩:=rB I.hok e;exact BP I.kIn O (c.get m) k.at_ k.fn (ng.none_of (l ▸ r m)) h
theorem rX{y:V}{u:ae}{Q:Unit->aj->Prop}(I:Inv X pins σ H s)(e:H a=Z8 (.ins C dx fs))(c:Cls X.K C)(n:eP X.K C f)(D:fs.length<1000)(M:RelV y u)
  (h:∀s',Inv X pins σ (upd H a (.ins C dx (aM f y fs))) s'->Q () s'):aN (aW X.prog X.w) A (setAttr (.ref a) f u) Q E s:=by
 obtain⟨mA,O,r,Y,_,W⟩:=rB I.hok e;refine Et I.kIn O c.sa c.po n.taker c.hd Y (by rw[ak,qC];lia) fun h' Z L=>h _ (I.write (e ▸ True.intro) (.inr W) (fun b q hb z=>(L.2 b hb).trans z) (let ⟨o,_,_,J,_⟩:=Z.ns;⟨o,J⟩) ({(aV O.ne) ▸ W,?_,O.ne,Z.obj,_,Z.ns,fun g=>?_,fun g U=>?_}))
 ·have:=jB f y fs;lia
 ·show ng ((aM f y fs).lookup g) (if g=f then Z8 u else mA g);rw[fJ]
  by_cases q:g=f
  ·rw[Q6 q,Q6 q];exact M
  ·simp_all
 ·by_cases q:g=f
  ·rw[q];exact (qD f y fs).1
  ·refine (qD f y fs).2 g (Y g fun z=>U ?_);show (if g=f then Z8 u else mA g)=Z7;rw[Q5 q];exact z
theorem Inv.made(I:Inv X pins σ H s):Inv X pins σ (upd (upd H s.heap.objs.size (.own (s.heap.objs.size+1))) (s.heap.objs.size+1) (.ins C s.heap.objs.size []))
  {s with heap:=(s.heap.push fY).push (gU C s.heap.objs.size)}:=by
 have e1:(s.heap.push fY).get? s.heap.objs.size=Z8 fY:=aE s.heap rfl;have Z:((s.heap.push fY).push (gU C s.heap.objs.size)).get? (s.heap.objs.size+1)=Z8 (gU C s.heap.objs.size):=by
  have:=aE (s.heap.push fY) (o:=gU C s.heap.objs.size) rfl
  rwa[eA]at this
 refine (I.laid (o:=.own (s.heap.objs.size+1)) (h':=s.heap.push fY) (t':=s.toks) (fun b u q=>aq _ q) (aB _) {_,e1}).laid (t':=s.toks) (fun b u q=>aq _ q) (Nat.le_of_eq (eA _ _)) ?_;have ne:s.heap.objs.size≠s.heap.objs.size+1:=aG (iH _);refine{by rw[aV ne,ai],aO _,ne,Z,fun _=>Z7,(Heap.Ns1.of_empty ({fY,#[],_,e1,Z9,(fun e Y=>Q7 Y (by simp)),fun _=>rfl})).at fun o q=>aq _ q,fun _=>True.intro,fun y hy=>Q7 rfl hy}
theorem Eu{prog:aP}{w:bF}{env:Env}{e:cH}{f:Str}{pos:Pos}{s:aj}{Q:ae->aj->Prop}(hb:gW e f env (eY e env)=eY e env)
  (h:aN (aW prog w) A (eY e env) (fun o Z=>aN (aW prog w) A (getAttr o f true) Q E Z) E s):aN (aW prog w) A (eY (.Attribute e f pos) env) Q E s:=
 Attribute_any_ h (by rw[arm_eval_Attribute,hb])
end
inductive FldI(K:ag)(f:Str)(x:V)(H:Hp)(Q:VK):Prop where
 |mk(a C dx:ab)(fs:List (Str×V))(v:V)(hx:x=.ref a)(h:H a=Z8 (.ins C dx fs))(c:Cls K C)(n:eP K C f)(e:fs.lookup f=Z8 v)(q:Q v H):FldI K f x H Q
def tFld(K:ag)(ta:TE)(f:Str):TE:=fun σ H Q=>ta σ H fun x H1=>FldI K f x H1 Q
inductive FT(K:ag)(f:Str)(x y:V)(H:Hp)(R:Hp->Prop):Prop where
 |mk(a C dx:ab)(fs:List (Str×V))(hx:x=.ref a)(h:H a=Z8 (.ins C dx fs))(c:Cls K C)(n:eP K C f)(l:fs.length<1000)(q:R (upd H a (.ins C dx (aM f y fs)))):FT K f x y H R
def sFld(K:ag)(ta tv:TE)(f:Str):TS:=fun D σ H=>tv σ H fun y H1=>ta σ H1 fun x H2=>FT K f x y H2 (D.nx σ)
def InOp(X:Cx)(op:Eo)(Z:V->V->Hp->VK->Prop):Prop:=
 ∀(pins:List (ab×Obj)) (s:aj) (σ:St) (H:Hp) (x y:V) (u v:ae) (Q:VK),Inv X pins σ H s->RelV x u->RelV y v->Z x y H Q->aN (aW X.prog X.w) X.A (inplaceOp op u v) (EP X pins σ Q) X.xe s
inductive FU(K:ag)(f:Str)(x:V)(H:Hp)(R:ab->ab->V->Prop):Prop where
 |mk(a C dx:ab)(fs:List (Str×V))(v:V)(hx:x=.ref a)(h:H a=Z8 (.ins C dx fs))(c:Cls K C)(n:eP K C f)(l:fs.lookup f=Z8 v)(q:R a C v):FU K f x H R
inductive FV(f:Str)(a C:ab)(z:V)(H:Hp)(R:Hp->Prop):Prop where
 |mk(dx:ab)(fs:List (Str×V))(h:H a=Z8 (.ins C dx fs))(l:fs.length<1000)(q:R (upd H a (.ins C dx (aM f z fs)))):FV f a C z H R
def Ew(K:ag)(ta tv:TE)(Y:V->V->Hp->VK->Prop)(f:Str):TS:=fun D σ H=>ta σ H fun x H1=>FU K f x H1 fun a C v=>tv σ H1 fun y H2=>Y v y H2 fun z Z=>FV f a C z Z (D.nx σ)
section
variable{X:Cx}{o e value:cH}{f:Str}{pos pos' tpos:Pos}{ta tv:TE}
theorem rY(M:PE X e ta)(hb:gW e f X.env (eY e X.env)=eY e X.env):PE X (.Attribute e f pos) (tFld X.K ta f):=by
 intro pins s σ H Q I h;refine Eu hb (thn (M pins s σ H _ I h) fun u L Z=>?_);obtain⟨x,H1,W,V,a,C,dx,fs,v,ex,Y,c,n,l,q⟩:=Z;subst ex;obtain rfl:u=Value.ref a:=V;exact rW W Y c n l fun J s2 O U=>⟨v,H1,O,U,q⟩
theorem gr(ha:PE X o ta)(hv:PE X value tv)(hs:qU value (Z8 (.Attribute o f pos')) pos.line X.env=pure false):PS X (.Assign [.Attribute o f pos'] value pos) (sFld X.K ta tv f):=by
 intro pins s σ H D I h;refine plainObj_wpAny_Assign_Attribute (thn (hv pins s σ H _ I h) fun u W ⟨y,H1,Y,L,q⟩=>thn (ha pins W σ H1 _ Y q) fun O s2 ⟨x,H2,M,V,a,C,dx,fs,ex,Z,c,n,l,J⟩=>?_) hs;subst ex;obtain rfl:O=Value.ref a:=V;exact rX M Z c n l L fun B U=>{σ,_,U,J}
theorem Az{op:Eo}{W:V->V->Hp->VK->Prop}(ha:PE X o ta)(hv:PE X value tv)(Y:InOp X op W):PS X (.AugAssign (.Attribute o f tpos) op value pos) (Ew X.K ta tv W f):=by
 intro pins s σ H D I h;refine wpAny_AugAssign_AttributeAny (thn (ha pins s σ H _ I h) fun M s1 qz=>?_);obtain⟨x,H1,I1,t,a,C,dx,fs,v,ex,B,c,n,l,q⟩:=qz;subst ex;obtain rfl:M=Value.ref a:=t;exact rW I1 B c n l fun u s2 I2 r=>thn (hv pins s2 σ H1 _ I2 q) fun J d ⟨y,H2,g,L,U⟩=>thn (Y pins d σ H2 v y u J _ g r L U) fun w4 s4 ⟨z,H3,I4,rz,bu,fs',Z,O,q4⟩=>rX I4 Z c n O rz fun s5 I5=>{σ,_,I5,q4}
def rAdd:V->V->Hp->VK->Prop:=fun x y H Q=>∃i j,x=.int i/\y=.int j/\Q (.int (i+j)) H
theorem HY:InOp X .Add rAdd:=by
 rintro pins s σ H x y u v Q I Y Z ⟨i,j,rfl,rfl,q⟩;obtain⟨t,rfl⟩:=(Y);obtain⟨t',rfl⟩:=(Z);exact PyProof.Rows.iadd_int {.int (i+j),H,I.tok _,{_,Z9},q}
theorem methcall_of{L:Sem Bool}{m:Str}{apos:Pos}{args:List cH}{pins:List (ab×Obj)}{s:aj}{σ:St}{H:Hp}{Q:ae->aj->Prop}{te:TE}(M:PE X e te)(I:Inv X pins σ H s)
  (h:te σ H fun x H1=>∃a C dx fs g,x=.ref a/\H1 a=Z8 (.ins C dx fs)/\Cls X.K C/\yp X.K C m g/\fs.lookup m=Z7 /\
   ∀Z,Inv X pins σ H1 Z->aN (aW X.prog X.w) X.A (Ex pos (.ref g) [.ref a] (jw pos (cL args X.env)) (jR pos (gX [] X.env))) Q X.xe Z)
  (U:eY (.Call (.Attribute e m apos) args [] pos) X.env=(do
   let W <- eY e X.env
   xZ apos.atName
   let (f,first) <- nF [W] (vv W m L)
   Ex pos f first (jw pos (cL args X.env)) (jR pos (gX [] X.env)))) :
  aN (aW X.prog X.w) X.A (eY (.Call (.Attribute e m apos) args [] pos) X.env) Q X.xe s:=by
 refine nv (thn (M pins s σ H _ I h) fun u Z ⟨x,H1,Y,O,a,C,dx,fs,g,ex,V,c,k,l,q⟩=>?_) U;subst ex;obtain rfl:u=Value.ref a:=O;exact pB Y V c k l (q Z Y)
end
section
variable{X:Cx}{pins:List (ab×Obj)}{σ:St}{H:Hp}{s:aj}{A:cm}{E:ae->aj->Prop}{Q:ae->aj->Prop}{c:ae}{b:Bool}
inductive qE(K:ag)(H:Hp):V->ae->Prop where
 |non:qE K H .non (.type "NoneType")
 |bl(x:Bool):qE K H (.bl x) (.type "bool")
 |int(i:Int):qE K H (.int i) (.type "int")
 |str(x:Str):qE K H (.str x) (.type "str")
 |flt(x:UInt64):qE K H (.flt x) (.type "float")
 |l{a:ab}{xs:List V}(e:H a=Z8 (.l xs)):qE K H (.ref a) (.type "list")
 |frz{a:ab}{o:Obj}{xs:List V}(e:H a=Z8 (.frz o (.l xs))):qE K H (.ref a) (.type "list")
 |t{a:ab}{xs:List V}(e:H a=Z8 (.t xs)):qE K H (.ref a) (.type "tuple")
 |dK{a:ab}{kvs:List (Key×V)}(e:H a=Z8 (.dK kvs)):qE K H (.ref a) (.type "dict")
 |dT{a:ab}{kvs:List (List Key×V)}(e:H a=Z8 (.dT kvs)):qE K H (.ref a) (.type "dict")
 |ins{a C dx:ab}{fs:List (Str×V)}(e:H a=Z8 (.ins C dx fs))(cl:Cls K C)(ha:bA K (.ref C) "__class__"=Z8 (Z8 (.builtin "object.__class__")))
   (hn:PySem.W.specialIn K (.builtin "object.__class__") "__get__"=Z8 (Z8 (.builtin "getset_descriptor.__get__"))) (htk:PySem.W.takesIn K (.builtin "object.__class__")=Z8 true)
   (hm:PySem.W.mroIn K C (.type "object")=Z8 true):qE K H (.ref a) (.ref C)
theorem AA{x:V}{u t:ae}(I:Inv X pins σ H s)(Y:RelV x u)(ty:qE X.K H x t)(e:gJ X.K t c=Z8 b)(h:∀tk,Q (.bool b) {s with toks:=tk}) :
  aN (aW X.prog X.w) A (pz (.builtin "isinstance") [u,c]) Q E s:=by
 cases ty with
 |non=>cases (Y);exact eN PySem.W.kitx_none I.kIn True.intro e (fun z=>nomatch z) h
 |bl y=>cases (Y);exact eN PySem.W.kitx_bool I.kIn True.intro e (fun z=>nomatch z) h
 |int i=>obtain⟨t,q⟩:=(Y);cases q;exact eN PySem.W.kitx_int I.kIn True.intro e (fun z=>nomatch z) h
 |str y=>obtain⟨t,q⟩:=(Y);cases q;exact eN PySem.W.kitx_str I.kIn True.intro e (fun z=>nomatch z) h
 |flt y=>obtain⟨t,q⟩:=(Y);cases q;exact eN PySem.W.kitx_float I.kIn True.intro e (fun z=>nomatch z) h
 |@l a xs Z=>
  cases (show u=Value.ref a from Y);obtain⟨_,_,n,_,h1⟩:=(I.hok a _ Z);exact eN zz I.kIn {_,h1,Z9} e (fun z=>nomatch z) h
 |@frz a B xs Z=>
  cases (show u=Value.ref a from Y);obtain⟨_,_,_,n,_,h1⟩:=(I.hok a _ Z);exact eN zz I.kIn {_,h1,Z9} e (fun z=>nomatch z) h
 |@t a xs Z=>
  cases (show u=Value.ref a from Y);obtain⟨_,_,_,p⟩:=(I.hok a _ Z);obtain⟨o,h1,h2,_⟩:=p;exact eN PySem.W.kitx_tuple I.kIn ⟨o,h1,h2⟩ e (fun z=>nomatch z) h
 |@dK a kvs Z=>
  cases (show u=Value.ref a from Y);obtain⟨_,_,vs,_,p⟩:=(I.hok a _ Z);obtain⟨o,es,ep,h1,h2,_⟩:=p;exact eN zA I.kIn ⟨o,h1,h2.1⟩ e (fun z=>nomatch z) h
 |@dT a kvs Z=>
  cases (show u=Value.ref a from Y);obtain⟨_,_,xs,_,o,es,ep,h1,h2,_⟩:=(I.hok a _ Z);exact eN zA I.kIn ⟨o,h1,h2.1⟩ e (fun z=>nomatch z) h
 |@ins a C dx fs Z M ha hn U L=>
  cases (show u=Value.ref a from Y);obtain⟨mA,O,_⟩:=rB I.hok Z;obtain⟨D,J,_⟩:=O.look;exact eN (PySem.W.kitx_own (M.get _) M.hd ha hn U L) I.kIn J e (fun z=>nomatch z) h
end
structure dC(k:Nat)(A:cm):Prop where
 hd:A.handled=Z7
 dp:A.depth+3*k+5<recursionLimit
 un:A.units+16*k+200<iN
theorem dC.mono{j k:Nat}{A:cm}(r:dC k A)(h:j<=k):dC j A:={r.hd,by have:=r.dp;lia,by have:=r.un;lia}
theorem dC.deeper{k:Nat}{A:cm}(r:dC (k+1) A)(env:Env):dC k (A.deeper env):=
 {r.hd,by have:=r.dp;show A.depth+1+3*k+5<_;lia,by have:=r.un;show A.units+3+16*k+200<_;lia}
theorem yq{A:cm}{C:ab}{us:List ae}{kw:List (Str×ae)}:(A.under (.builtin "type.__call__" {.ref C::us,kw})).depth=A.depth+1:=by
 rfl
theorem yt{A:cm}{C:ab}{us:List ae}{kw:List (Str×ae)}:(A.under (.builtin "type.__call__" {.ref C::us,kw})).units=A.units+1:=by
 rfl
theorem dC.make{k:Nat}{A:cm}(r:dC (k+1) A)(C:ab)(us:List ae)(kw:List (Str×ae)):dC k (A.under (.builtin "type.__call__" {.ref C::us,kw})):=
 {r.hd,by have:=r.dp;rw[yq];lia,by have:=r.un;rw[yt];lia}
theorem dC.depth{k:Nat}{A:cm}(r:dC k A):A.depth<recursionLimit:=by have:=r.dp;lia
theorem dC.units{k:Nat}{A:cm}(r:dC k A):A.units+64<iN:=by have:=r.un;lia
def p5:TA:=fun _ H Q=>Q [] H
def ib(ta:TE)(Z:TA):TA:=fun σ H Q=>ta σ H fun x H1=>Z σ H1 fun xs H2=>Q (x::xs) H2
section
variable{X:Cx}{e:cH}{es:List cH}{te:TE}{t:TA}{pos:Pos}
theorem ao:PA X [] p5:=fun _ _ _ _ H Q I h=>Bq {[],H,I,.nil,h}
theorem bH(ha:PE X e te)(Z:PA X es t)(hs:cL (e::es) X.env=(false,eY e X.env)::cL es X.env:=by rfl):PA X (e::es) (ib te t):=by
 intro pos pins s σ H Q I h;rw[hs];show aN _ _ (spliced ((false,eY e X.env)::jw pos (cL es X.env))) _ _ s;exact p7 (thn (ha pins s σ H _ I h) fun u W ⟨x,H1,Y,V,U⟩=>thn (Z pos pins W σ H1 _ Y U) fun us s2 ⟨xs,H2,O,M,L⟩=>{x::xs,H2,O,.cons V M,L})
def HZ(t:TA):TE:=fun σ H Q=>t σ H fun xs H1=>xs.length<=aF/\∀p,H1 p=Z7->Q (.ref p) (upd H1 p (.t xs))
def tLst(t:TA):TE:=fun σ H Q=>t σ H fun xs H1=>xs.length<=aF/\∀p,H1 p=Z7->Q (.ref p) (upd H1 p (.l xs))
theorem dR {x1} (h:PA X es t):PE X (.Tuple es x1 pos) (HZ t):=by
 intro pins s σ H Q I hq;refine wpAny_Tuple_spliced (thn (h pos pins s σ H _ I hq) fun us Z ⟨xs,H1,Y,r,z,q⟩=>{r.length ▸ z,{.ref Z.heap.objs.size,upd H1 Z.heap.objs.size (.t xs),Y.laid (t':=Z.toks) (fun b u e=>aq _ e) (aB _) ?_,Z9,q _ (Y.hok.fresh (aB _))}});exact{z,us,r,{_,aE _ rfl,Z9,_,Z9}}
theorem dv(h:PA X es t):PE X (.List es pos) (tLst t):=by
 intro pins s σ H Q I hq;refine wpAny_List_spliced (thn (h pos pins s σ H _ I hq) fun us Z ⟨xs,H1,Y,r,z,q⟩=>{r.length ▸ z,{.ref Z.heap.objs.size,upd H1 Z.heap.objs.size (.l xs),Y.laid (t':=Z.toks) (fun b u e=>aq _ e) (aB _) ?_,Z9,q _ (Y.hok.fresh (aB _))}});exact{z,us,0,r,aE _ rfl}
end
abbrev Sp:=List V->Hp->VK->XK->Prop
abbrev CXT:=List Env->Hp->aj->XK->ae->aj->Prop
structure AB(P:aP)(w:bF)(K:ag)(mg:Str->Option ae)(base:cz)(A:cm)(outer:List Env)(s:aj)(H:Hp):Prop where
 frames:A.frames=Z8 outer
 mod:Mod K mg base
 bs:∀b o,base.get? b=Z8 o->s.heap.get? b=Z8 o/\H b=Z7
 bsz:base.objs.size<=s.heap.objs.size
 funs:s.heap.FunFrames base outer
 frf:∀b∈frs outer,H b=Z7
 hok:HOk P w H s.heap
 bare:pk s.gens
def CE(outer:List Env)(P:aP)(w:bF)(H:Hp)(s:aj)(Q:VK)(u:ae)(s':aj):Prop:=
 ∃v H',s'.os=s.os/\pk s'.gens/\Un (frs outer) [] H H' s.heap s'.heap/\HOk P w H' s'.heap/\RelV v u/\Q v H'
def CR(CX:CXT)(outer:List Env)(P:aP)(w:bF)(H:Hp)(s:aj)(Q:VK)(E:XK)(r:rV)(s':aj):Prop:=
 match r with
 |.ok (.ret u)=>CE outer P w H s Q u s'
 |.ok _=>False
 |.error e=>CX outer H s E e s'
structure bO(P:aP)(w:bF)(K:ag)(mg:Str->Option ae)(base:cz)(CX:CXT)(k:Nat)(f:ab)(fd:bS)(ps:List Str)(sp:Sp):Prop where
 len:∀vs H Q E,sp vs H Q E->vs.length=ps.length
 run:∀(A:cm) (outer:List Env) (s:aj) (H:Hp) (args:Args) (us:List ae) (vs:List V) (Q:VK) (E:XK),dC k A->AB P w K mg base A outer s H->tN s fd args (ps.zip us)->dU vs us->sp vs H Q E ->
  iL (aW P w) A (.call (.ref f) args) (CR CX outer P w H s Q E) s
theorem AB.make{P:aP}{w:bF}{K:ag}{mg:Str->Option ae}{base:cz}{A:cm}{outer:List Env}{s:aj}{H:Hp}(e:AB P w K mg base A outer s H)(C:ab)(us:List ae)(kw:List (Str×ae)) :
  AB P w K mg base (A.under (.builtin "type.__call__" {.ref C::us,kw})) outer s H:={by first|exact e.frames|(simpa[Around.under,Code.envs,Code.isFrame,pushEnvs] using e.frames),e.mod,e.bs,e.bsz,e.funs,e.frf,e.hok,e.bare}
section
variable{X:Cx}{pins:List (ab×Obj)}{σ:St}{H:Hp}{s s':aj}
theorem Inv.env0(I:Inv X pins σ H s):AB X.prog X.w X.K X.mg X.base X.A X.stack s H:=
 {I.ok.frames,I.ok.mod,I.bs,dh I.ok.bsz I.sz,I.stack,I.stkFree,I.hok,I.bare}
theorem Inv.after{Q:VK}{u:ae}(I:Inv X pins σ H s)(h:CE X.stack X.prog X.w H s Q u s'):EP X pins σ Q u s':=by
 obtain⟨v,H',U,Z,un,Y,r,q⟩:=h;obtain⟨V,g,d,t,W⟩:=s';obtain rfl:W=s.os:=U;exact{v,H',I.call (h':=V) (g':=g) (d':=d) (t':=t) un Y Z (fun b z=>Q7 z (by simp)),r,q}
end
def wQ(sp:Sp)(dvs:List V)(E:XK)(t:TA):TE:=fun σ H Q=>t σ H fun vs H1=>sp (vs++dvs) H1 Q E
inductive FW(C:ab)(m:Str)(x:V)(H:Hp)(R:Prop):Prop where
 |mk(a dx:ab)(fs:List (Str×V))(hx:x=.ref a)(h:H a=Z8 (.ins C dx fs))(l:fs.lookup m=Z7)(q:R):FW C m x H R
def FX(C:ab)(m:Str)(sp:Sp)(dvs:List V)(E:XK)(ta:TE)(t:TA):TE:=fun σ H Q=>ta σ H fun x H1=>FW C m x H1 (t σ H1 fun vs H2=>sp (x::(vs++dvs)) H2 Q E)
def BR(C:ab)(sp:Sp)(dvs:List V)(E:XK)(t:TA):TE:=fun σ H Q=>t σ H fun vs H1=>∀x dx,H1 x=Z7->H1 dx=Z7->dx≠x ->
 sp (.ref x::(vs++dvs)) (upd (upd H1 dx (.own x)) x (.ins C dx [])) (fun v H2=>v=.non/\Q (.ref x) H2) E
def Binds(K:ag)(fd:bS)(ps:List Str)(ds:List ae):Prop:=
 ∀(s:aj) (us:List ae),K.In s.heap->(us++ds).length=ps.length->tN s fd {us,[]} (ps.zip (us++ds))
theorem Binds.all{K:ag}{fd:bS}{ps:List Str}(h:∀us:List ae,us.length=ps.length->yu fd {us,[]}=pure (ps.zip us)):Binds K fd ps []:=fun s us _ Z=>by
 rw[eB]at Z |-;exact .of_eq (h us Z)
def oj(CX:CXT)(X:Cx)(E:XK):Prop:=∀(pins:List (ab×Obj)) (σ:St) (H:Hp) (s:aj) (e:ae) (s':aj),Inv X pins σ H s->CX X.stack H s E e s'->X.xe e s'
section
variable{X:Cx}{CX:CXT}{k:Nat}{f C:ab}{fd:bS}{ps:List Str}{sp:Sp}{dvs:List V}{ds:List ae}{E:XK}{x m:Str}{p pos apos:Pos}{e o:cH}{es:List cH}{ta:TE}{t:TA}
theorem yv{pins:List (ab×Obj)}{σ:St}{H:Hp}{s:aj}{Q:VK}{us:List ae}{vs:List V}(F:bO X.prog X.w X.K X.mg X.base CX k f fd ps sp)(Y:dC k X.A)(hb:Binds X.K fd ps ds)(W:dU dvs ds)(hx:oj CX X E)
  (I:Inv X pins σ H s) (r:dU vs us) (h:sp (vs++dvs) H Q E):aN (aW X.prog X.w) X.A (pz (.ref f) us) (EP X pins σ Q) X.xe s:=by
 have Z:=r.append W;refine yw (kK (F.run X.A X.stack s H {us,[]} (us++ds) (vs++dvs) Q E Y I.env0 (hb s us I.kIn (Z.length ▸ F.len _ _ _ _ h)) Z h) fun r s' hq=>?_)
 cases r with
 |error e=>exact hx pins σ H s e s' I hq
 |ok fl=>
  cases fl with
  |ret u=>exact I.after hq
  |next=>exact eR hq
  |brk=>exact eR hq
  |cont=>exact eR hq
theorem Ey(F:bO X.prog X.w X.K X.mg X.base CX k f fd ps sp)(V:dC k X.A)(O:Gl X x)(M:X.mg x=Z8 (.ref f))(hk:ip X.K (.ref f)=true)(hb:Binds X.K fd ps ds)(U:dU dvs ds)(hx:oj CX X E)
  (ha:PA X (e::es) t) (Y:(x==("__debug__":Str))=false:=by decide) (L:cL (e::es) X.env=(false,eY e X.env)::cL es X.env:=by rfl) (Z:(jw pos (cL es X.env)).any (·.1)=false:=by rfl) :
  PE X (.Call (.Name x p) (e::es) [] pos) (wQ sp dvs E t):=by
 intro pins s σ H Q I h;exact hV (rA I O M (pC I.ok.mod.kin hk (thn (ha pos pins s σ H _ I h) fun us J ⟨vs,H1,W,r,q⟩=>{W.kIn,yv F V hb U hx W r q}) L Z) Y)
theorem ka{d:Sem Bool}(g:PE X o ta)(c:Cls X.K C)(O:yp X.K C m f)(F:bO X.prog X.w X.K X.mg X.base CX k f fd ps sp)(L:dC k X.A)(hb:Binds X.K fd ps ds)(M:dU dvs ds)(hx:oj CX X E)(ha:PA X (e::es) t)
  (Y:cL (e::es) X.env=(false,eY e X.env)::cL es X.env:=by rfl) (Z:(jw pos (cL es X.env)).any (·.1)=false:=by rfl)
  (D:eY (.Call (.Attribute o m apos) (e::es) [] pos) X.env=(do
   let V <- eY o X.env
   xZ apos.atName
   let (f,first) <- nF [V] (vv V m d)
   Ex pos f first (jw pos (cL (e::es) X.env)) (jR pos (gX [] X.env))):=by rfl) :
  PE X (.Call (.Attribute o m apos) (e::es) [] pos) (FX C m sp dvs E ta t):=by
 intro pins s σ H Q I h;refine nv (thn (g pins s σ H _ I h) fun u B ⟨x,H1,W,z,a,dx,fs,ex,J,l,q⟩=>?_) D;subst ex;obtain rfl:u=Value.ref a:=z;exact pB W J c O l (pC I.ok.mod.kin O.kp (thn (ha pos pins B σ H1 _ W q) fun us s2 ⟨vs,H2,U,r,y⟩=>{U.kIn,yv (vs:=.ref a::vs) F L hb M hx U (.cons rfl r) y}) Y Z)
theorem eC{D:Sem Bool}(J:PE X o ta)(c:Cls X.K C)(W:yp X.K C m f)(F:bO X.prog X.w X.K X.mg X.base CX k f fd ps sp)(V:dC k X.A)(hb:Binds X.K fd ps ds)(U:dU dvs ds)(hx:oj CX X E)
  (M:eY (.Call (.Attribute o m apos) [] [] pos) X.env=(do
   let Y <- eY o X.env
   xZ apos.atName
   let (f,first) <- nF [Y] (vv Y m D)
   Ex pos f first (jw pos (cL [] X.env)) (jR pos (gX [] X.env))):=by rfl) :
  PE X (.Call (.Attribute o m apos) [] [] pos) (FX C m sp dvs E ta p5):=by
 intro pins s σ H Q I h;refine nv (thn (J pins s σ H _ I h) fun u B ⟨x,H1,Z,L,a,dx,fs,ex,O,l,q⟩=>?_) M;subst ex;obtain rfl:u=Value.ref a:=L;exact pB Z O c W l (x8 Z.kIn W.kp (yv (vs:=[.ref a]) F V hb U hx Z (.cons rfl .nil) q))
structure Mk(K:ag)(C f:ab):Prop where
 makes:rh K C=true
 init:bA K (.ref C) "__init__"=Z8 (Z8 (.ref f))
 fn:mI K (.ref f)=true
 kp:ip K (.ref C)=true
theorem wR{pins:List (ab×Obj)}{σ:St}{H:Hp}{s:aj}{Q:VK}{us:List ae}{vs:List V}(M:Mk X.K C f)(F:bO X.prog X.w X.K X.mg X.base CX k f fd ps sp)(L:dC (k+1) X.A)(hb:Binds X.K fd ps ds)(O:dU dvs ds)
  (hx:oj CX X E) (I:Inv X pins σ H s) (r:dU vs us)
  (h:∀x dx,H x=Z7->H dx=Z7->dx≠x->sp (.ref x::(vs++dvs)) (upd (upd H dx (.own x)) x (.ins C dx [])) (fun v H2=>v=.non/\Q (.ref x) H2) E) :
  aN (aW X.prog X.w) X.A (pz (.ref C) us) (EP X pins σ Q) X.xe s:=by
 have hq:=h (s.heap.objs.size+1) s.heap.objs.size (I.hok.fresh (gO _)) (I.hok.fresh (aB _)) (aG (iH _));have Y:=Inv.made (C:=C) I;have W:dU (V.ref (s.heap.objs.size+1)::(vs++dvs)) (Value.ref (s.heap.objs.size+1)::(us++ds)):=.cons rfl (r.append O);have B:(Value.ref (s.heap.objs.size+1)::us++ds).length=ps.length:=by
  have e:=W.length;rw[F.len _ _ _ _ hq]at e;exact e.symm
 refine yw (BQ I.kIn M.makes M.init (beq_iff_eq.mp M.fn) (kK (F.run _ X.stack _ _ {Value.ref (s.heap.objs.size+1)::us,[]} (Value.ref (s.heap.objs.size+1)::(us++ds)) _ _ E (L.make C us [])
  (Y.env0.make C us []) (hb _ (Value.ref (s.heap.objs.size+1)::us) Y.kIn B) W hq) fun r s' Z=>?_))
 cases r with
 |error e=>exact hx pins σ _ _ e s' Y Z
 |ok fl=>
  cases fl with
  |ret u=>
   obtain⟨v,H',J,D,z,U⟩:=Y.after Z;subst z;exact{D,{V.ref (s.heap.objs.size+1),H',J,Z9,U}}
  |next=>exact eR Z
  |brk=>exact eR Z
  |cont=>exact eR Z
theorem p8(M:Mk X.K C f)(F:bO X.prog X.w X.K X.mg X.base CX k f fd ps sp)(V:dC (k+1) X.A)(O:Gl X x)(L:X.mg x=Z8 (.ref C))(hb:Binds X.K fd ps ds)(U:dU dvs ds)(hx:oj CX X E)
  (ha:PA X (e::es) t) (Y:(x==("__debug__":Str))=false:=by decide) (J:cL (e::es) X.env=(false,eY e X.env)::cL es X.env:=by rfl) (Z:(jw pos (cL es X.env)).any (·.1)=false:=by rfl) :
  PE X (.Call (.Name x p) (e::es) [] pos) (BR C sp dvs E t):=by
 intro pins s σ H Q I h;exact hV (rA I O L (pC I.ok.mod.kin M.kp (thn (ha pos pins s σ H _ I h) fun us D ⟨vs,H1,W,r,q⟩=>{W.kIn,wR M F V hb U hx W r q}) J Z) Y)
theorem wU(M:Mk X.K C f)(F:bO X.prog X.w X.K X.mg X.base CX k f fd ps sp)(Y:dC (k+1) X.A)(V:Gl X x)(U:X.mg x=Z8 (.ref C))(hb:Binds X.K fd ps ds)(W:dU dvs ds)(hx:oj CX X E)
  (Z:(x==("__debug__":Str))=false:=by decide):PE X (.Call (.Name x p) [] [] pos) (BR C sp dvs E p5):=by
 intro pins s σ H Q I h;refine hV (rA I V U ?_ Z);exact x8 I.kIn M.kp (wR (us:=[]) M F Y hb W hx I .nil h)
end
section
variable{X:Cx}{CX:CXT}{k:Nat}{f C:ab}{fd:bS}{ps ks:List Str}{sp:Sp}{E:XK}{x m:Str}{p pos apos kpos:Pos}{e o:cH}{es:List cH}{kws:List x9}{te ta:TE}{t tk:TA}{nm:Option Str}
variable{g:List ae->List ae->List ae}{gV:List V->List V->List V}
end
structure bU(N P:List Str)(sc:kE):Prop where
 kind:sc.kind=.function
 co:sc.isCoroutine=false
 gen:sc.isGenerator=false
 nd:N.Nodup
 pre:N.take P.length=P
 par:∀x∈P,sc.names.lookup x=Z8 .local\/sc.names.lookup x=Z8 .cell
 nofree:∀y∈sc.names,y.2≠.free
theorem fK{N P:List Str}{sc:kE}(a:sc.kind=.function:=by rfl)(b:sc.isCoroutine=false:=by rfl)(c:sc.isGenerator=false:=by rfl)(d:N.Nodup:=by decide +kernel)(e:N.take P.length=P:=by rfl)(f:∀x∈P,sc.names.lookup x=Z8 .local\/sc.names.lookup x=Z8 .cell:=by decide +kernel)(g:∀y∈sc.names,y.2≠.free:=by decide +kernel):bU N P sc:=⟨a,b,c,d,e,f,g⟩
section
variable{X:Cx}{N P:List Str}{sc:kE}{x:Str}{e:cH}{te:TE}{pos pos':Pos}
theorem pst(i:Nat)(S:bU X.N P sc)(Z:PE X e te)(hi:X.N[i]?=Z8 x:=by rfl)(hx:Loc X.env.scope x:=by exact Or.inl rfl)(hs:qU e (Z8 (.Name x pos')) pos.line X.env=pure false:=by rfl)(Y:autoParam (X.fn x=true\/X.env.scope.names.lookup x=Z8 .local) uh._auto_1):PS X (.Assign [.Name x pos'] e pos) (BE te (pW i)):=vo S.nd hi hx Z hs Y
theorem pgn(i:Nat)(S:bU X.N P sc)(hi:X.N[i]?=Z8 x:=by rfl)(hx:Loc X.env.scope x:=by exact Or.inl rfl)(Z:autoParam (X.fn x=true\/X.env.scope.names.lookup x=Z8 .local) uh._auto_1):PG X (.Name x pos) (pW i):=eZ S.nd hi hx Z
end
theorem uq{kindOf:Str->Option kL}{x:Str}:∀{binds:List (Str×ae)} {m:Str->Option ae},(∀v,(x,v)∉binds)->Br kindOf binds m x=m x
 | [],_,_=>rfl
 |(n,v)::r,m,h=>by
  unfold Br;rw[uq fun w hw=>h w (bL _ hw)]
  split
  ·have:x≠n:=by rintro rfl;exact h v aU
   simp[this]
  ·rfl
theorem uv{kindOf:Str->Option kL}{x:Str}:∀{binds:List (Str×ae)} {m:Str->Option ae},(∀v,(x,v)∉binds)->Bs kindOf binds m x=m x
 | [],_,_=>rfl
 |(n,v)::r,m,h=>by
  unfold Bs;rw[uv fun w hw=>h w (bL _ hw)]
  split
  ·rfl
  ·have:x≠n:=by rintro rfl;exact h v aU
   simp[this]
theorem uw{kindOf:Str->Option kL}{x:Str}{v:ae}:∀{P:List Str} {vs:List ae} {i:Nat} {m:Str->Option ae},P.Nodup->P[i]?=Z8 x->vs[i]?=Z8 v->kindOf x=Z8 .local ->
  Br kindOf (P.zip vs) m x=Z8 v
 | [],_,_,_,_,h,_,_=>by simp at h
 |_::_,[],_,_,_,_,h,_=>by simp at h
 |p::P,w::vs,0,m,Z,h1,h2,hk=>by
  simp at h1 h2;subst h1;subst h2;show Br kindOf ((p,w)::P.zip vs) m p=_;unfold Br;rw[uq fun v hv=>(hW.mp Z).1 (tD hv).1,Q6 hk];simp
 |p::P,w::vs,i+1,m,Z,h1,h2,hk=>by
  show Br kindOf ((p,w)::P.zip vs) m x=_;unfold Br;exact uw (i:=i) (hW.mp Z).2 (by simpa using h1) (by simpa using h2) hk
theorem ux{kindOf:Str->Option kL}{x:Str}{v:ae}:∀{P:List Str} {vs:List ae} {i:Nat} {m:Str->Option ae},P.Nodup->P[i]?=Z8 x->vs[i]?=Z8 v->kindOf x≠Z8 .local ->
  Bs kindOf (P.zip vs) m x=Z8 v
 | [],_,_,_,_,h,_,_=>by simp at h
 |_::_,[],_,_,_,_,h,_=>by simp at h
 |p::P,w::vs,0,m,Z,h1,h2,hk=>by
  simp at h1 h2;subst h1;subst h2;show Bs kindOf ((p,w)::P.zip vs) m p=_;unfold Bs;rw[uv fun v hv=>(hW.mp Z).1 (tD hv).1,Q5 hk];simp
 |p::P,w::vs,i+1,m,Z,h1,h2,hk=>by
  show Bs kindOf ((p,w)::P.zip vs) m x=_;unfold Bs;exact ux (i:=i) (hW.mp Z).2 (by simpa using h1) (by simpa using h2) hk
def start(N:List Str)(vs:List V):St:=vs.map Z8++aQ (N.length-vs.length) Z7
def vw(CX:CXT)(P:aP)(w:bF)(K:ag)(mg:Str->Option ae)(base:cz)(N:List Str)(Y:Str)(Z:kE)(f:ab)(W:ae)(A:cm)(outer:List Env)(s:aj)(H:Hp)(E:XK):Cx where
 prog:=P
 w:=w
 K:=K
 mg:=mg
 base:=base
 A:=A.deeper (rZ Y Z s.heap.objs.size f W)
 N:=N
 s₀:=s
 H₀:=H
 env:=rZ Y Z s.heap.objs.size f W
 outer:=outer
 stack:=rZ Y Z s.heap.objs.size f W::outer
 ex:=[]
 calm:=true
 fn:=fun _=>true
 pn:=[]
 xe:=fun e s'=>aN (aW P w) (A.deeper (rZ Y Z s.heap.objs.size f W)) (leaving (rZ Y Z s.heap.objs.size f W) e) (fun _ X=>CX outer H s E e X) (fun V X=>CX outer H s E V X) s'
theorem wV{sc:kE}{n:Nat}{x:Str}(h:sc.names.lookup x=Z8 .cell):∃c,(cellsFrom n sc.names []).lookup x=Z8 c:=Option.isSome_iff_exists.mp (vx sc.names n [] (.inl h))
theorem AC{CX:CXT}{P:aP}{w:bF}{K:ag}{mg:Str->Option ae}{base:cz}{N ps:List Str}{Y:Str}{Z:kE}{f:ab}{O:ae}{A:cm}{outer:List Env}{s M:aj}{H:Hp}{E:XK}{us:List ae}{vs:List V}
  (S:bU N ps Z) (J:A.handled=Z7) (X:AB P w K mg base A outer s H) (B:vs.length=ps.length) (r:dU vs us)
  (x:InCallC s s.heap.objs.size (Br (rZ Y Z s.heap.objs.size f O).kindOf (ps.zip us) fun _=>Z7) (cellsFrom (s.heap.objs.size+1) Z.names []) (Bs (rZ Y Z s.heap.objs.size f O).kindOf (ps.zip us) fun _=>Z7) M) :
  Inv (vw CX P w K mg base N Y Z f O A outer s H E) [] (start N vs) H M:=by
 have D:ps.length<=N.length:=by have:=congrArg jJ S.pre;rw[dB]at this;lia
 obtain⟨h1,tk,rfl,hk⟩:=x.done;have W:∀b:ab,b∉(vw CX P w K mg base N Y Z f O A outer s H E).ex:=fun b z=>Q7 (show b∈([]:List ab) from z) (by simp);refine⟨{X.mod,S.kind,Z9,Z9,aB _,fun y z c h1 h2=>?_,fun y hy=>?_,fun y c _ h=>?_,fun _=>J,Around.frames_deeper X.frames,.inr ⟨Z9,Z9⟩,fun b z=>Q7 z (W b),X.bs,X.bsz,fun b _ _=>W b,fun b z=>Q7 z (W b),X.funs,X.frf},
  Z9,X.bare,Un.kept hk,{_,x.toInCall.ns,fun i y v h1 h2 t=>?_},fun y c h=>{_,x.cell y c h},X.hok.fresh (aB _),fun y c h=>?_,fun p hp=>Q7 (show p∈([]:List (ab×Obj)) from hp) (by simp),X.hok.kept hk,?_⟩
 ·exact name_of_addr x.apart (gs h1) (gs h2)
 ·have hy:=hy
  rcases hy with hy|hy
  ·exact wV hy
  ·exact Q7 rfl (S.nofree _ (gs hy))
 ·exact nY (x.above y c (gs h))
 ·have hi:i<vs.length:=by
   unfold start at h2
   by_cases hi:i<vs.length
   ·exact hi
   ·rw[df (by simpa using hi)]at h2;rw[mZ]at h2
    split at h2<;>cases h2
  have ha:vs[i]?=Z8 v:=by
   unfold start at h2;rw[dy (by simpa using hi),bD]at h2
   cases e:vs[i]? with
   |none=>rw[e]at h2;cases h2
   |some a=>rw[e]at h2;cases h2;rfl
  obtain⟨u,L,I⟩:=r.get ha;have hp:ps[i]?=Z8 y:=by
   rw[<- S.pre,mn (by lia)];exact h1
  have U:=S.pre ▸ S.nd.sublist (BS _ _);refine{u,I,?_}
  rcases S.par y (aK hp) with k|k
  ·exact .inl {k,uw U hp L k}
  ·obtain⟨c,e⟩:=wV k;refine .inr {.inl k,c,e,?_};have q:=x.cell y c e;rw[ux U hp L (by show Z.names.lookup y≠_;rw[k];decide)]at q;exact q
 ·exact X.hok.fresh (nY (x.above y c (gs h)))
 ·unfold start;show _=N.length;rw[aL,ak,fA]
  lia
theorem fn_of{CX:CXT}{P:aP}{w:bF}{K:ag}{mg:Str->Option ae}{base:cz}{k:Nat}{f:ab}{name Y:Str}{X:Arguments}{O:List dI}{Z:kE}{dV kV D pm U ct oc:ae}{an od:Option ab}
  {g:Array (Option ae)} {N ps:List Str} {sp:Sp} (lk:K.lookup f=Z8 {oc,od,.func (gu name Y X O Z dV kV D pm an U ct),g}) (bu:k0 K U Y=true) (S:bU N ps Z)
  (len:∀vs H Q E,sp vs H Q E->vs.length=ps.length)
  (L:∀(A:cm) (outer:List Env) (s:aj) (H:Hp) (vs:List V) (Q:VK) (E:XK),dC k (A.deeper (rZ Y Z s.heap.objs.size f U))->sp vs H Q E ->
   ∃t,PSs (vw CX P w K mg base N Y Z f U A outer s H E) O t/\t {nx:=fun _ H'=>Q .non H',rt:=Q} (start N vs) H) :
  bO P w K mg base CX (k+1) f (gu name Y X O Z dV kV D pm an U ct) ps sp:=by
 refine{len,fun A outer s H args us vs Q E d z hb r B=>?_};have KX:=z.mod.kin.keeps fun b o e=>(z.bs b o e).1;have I:∀y∈ps.zip us,Z.names.lookup y.1=Z8 .local\/(Z.names.lookup y.1=Z8 .cell/\((cellsFrom (s.heap.objs.size+1) Z.names []).lookup y.1).isSome=true):=fun⟨n,v⟩ hy=>by
  rcases S.par n (tD hy).1 with q|q
  ·exact .inl q
  ·exact .inr {q,vx _ _ _ (.inl q)}
 refine codeAny_call_function d.depth (KX _ _ lk) rfl S.co S.gen rfl (PySem.W.codeRec_of KX bu) (hb _ _ _ _ (wpAny_newFunctionEnv_cells S.kind I fun env he s1 x=>?_));subst he;refine{(z.mod.nolimit.keeps fun b o e=>(z.bs b o e).1).keeps x.toInCall.keep,codeAny_func ?_};obtain⟨t,ht,hq⟩:=L A outer s H vs Q E (d.deeper _) B;refine fo (ht [] s1 (start N vs) H _ (AC S d.hd z (len _ _ _ _ B) r x) hq) (fun fl s' hs=>?_) fun e s' hs=>hs;have fin:∀{M:St} {H':Hp} {v:V} {u:ae},Inv (vw CX P w K mg base N Y Z f U A outer s H E) [] M H' s'->RelV v u->Q v H'->CE outer P w H s Q u s':=
  fun {M H' v u} J rv q=>⟨v,H',J.os,J.bare,J.base,J.hok,rv,q⟩
 cases fl with
 |ret u=>
  obtain⟨v,M,H',J,rv,q⟩:=hs;exact fin J rv q
 |next=>
  obtain⟨M,H',J,q⟩:=hs;exact fin (v:=V.non) J rfl q
 |brk=>
  obtain⟨_,_,_,q⟩:=hs;exact eR q
 |cont=>
  obtain⟨_,_,_,q⟩:=hs;exact eR q
section
variable{X:Cx}{x:Str}{p pos:Pos}{e:cH}{es:List cH}{t:TA}{id T:String}{r:List V->Hp->VK->Prop}
def tCB(r:List V->Hp->VK->Prop)(t:TA):TE:=fun σ H Q=>t σ H fun vs H1=>r vs H1 Q
theorem cK(hc:kN X (.builtin id) r)(O:Gl X x)(L:X.mg x=Z7)(hv:eh x=Z8 (.builtin id))(ha:PA X (e::es) t)(hn:x≠"__name__":=by decide)(Y:(x==("__debug__":Str))=false:=by decide)
  (J:cL (e::es) X.env=(false,eY e X.env)::cL es X.env:=by rfl) (Z:(jw pos (cL es X.env)).any (·.1)=false:=by rfl):PE X (.Call (.Name x p) (e::es) [] pos) (tCB r t):=by
 intro pins s σ H Q I h;exact hV (pw I O L hv (PyProof.Rows.callWith_builtin1 (thn (ha pos pins s σ H _ I h) fun us V ⟨vs,H1,W,U,M⟩=>hc pins V σ H1 vs us Q W U M) J Z) hn Y)
theorem i6(hc:kN X (.type T) r)(O:Gl X x)(L:X.mg x=Z7)(hv:eh x=Z8 (.type T))(ha:PA X (e::es) t)(hn:x≠"__name__":=by decide)(Y:(x==("__debug__":Str))=false:=by decide)
  (J:cL (e::es) X.env=(false,eY e X.env)::cL es X.env:=by rfl) (Z:(jw pos (cL es X.env)).any (·.1)=false:=by rfl):PE X (.Call (.Name x p) (e::es) [] pos) (tCB r t):=by
 intro pins s σ H Q I h;exact hV (pw I O L hv (j9 (thn (ha pos pins s σ H _ I h) fun us V ⟨vs,H1,W,U,M⟩=>hc pins V σ H1 vs us Q W U M) J Z) hn Y)
end
end _L
set_option genSizeOf false
set_option genInjectivity false
namespace _H
open PySem PyProof.Rows
def lexLt:List Int->List Int->Bool
 | [],[]=>false
 | [],_::_=>true
 |_::_,[]=>false
 |x::xs,y::ys=>if x=y then lexLt xs ys else decide (x<y)
theorem k5(x y:Int)(xs ys:List Int):lexLt (x::xs) (y::ys)=if x=y then lexLt xs ys else decide (x<y):=rfl
theorem o9:lexLt [] []=false:=rfl
theorem om(y:Int)(ys:List Int):lexLt [] (y::ys)=true:=rfl
theorem oo(x:Int)(xs:List Int):lexLt (x::xs) []=false:=rfl
theorem wW(A:cm)(s:aj)(a:Int)(t:Tok)(c:Int)(u:Tok):∃e,SeqAt.EqAt A s (.int a t) (.int c u) e/\(e=true↔a=c):=
 {(a==c),SeqAt.EqAt.int_int a t c u,by simp}
theorem BU(A:cm)(s:aj)(a:Int)(t:Tok)(c:Int)(u:Tok)(prog:aP)(w:bF)(E:ae->aj->Prop)(Q:ae->aj->Prop)(h:Q (.bool (decide (a<c))) s) :
  aN (aW prog w) A (qF .Lt (.int a t) (.int c u)) Q E s:=
 (PyProof.Rows.lt_int h:aN (aW prog w) A (gi .Lt (.int a t) (.int c u)) Q E s)
section
open PySem.SeqAt
open PySem.AutoSeq1 (wpAny_loadPart')
open PySem.MeetsSeq PySem.MeetsSeq2 PySem.MeetsSeq3
theorem tO(l b:ab)(items Z:Array ae)(n n2:Nat)(dd bC:Option ab)(sl bG:Array (Option ae))(B r:List Int)(hi:dY items.toList B)(hj:dY Z.toList r) :
  Meets (fi.«tuple.__lt__» {[.ref l,.ref b],[]})
   (fun _ R s=>s.heap.get? l=Z8 {cls:=.type "tuple",dict:=dd,data:=.seq items n,slots:=sl}/\s.heap.get? b=Z8 {cls:=.type "tuple",dict:=bC,data:=.seq Z n2,slots:=bG} /\
    R (.ok (.ret (.bool (lexLt B r)))) s):=
 .of_wp fun prog w A R s h=>by
  obtain⟨hp,g,d,tk,f⟩:=s;obtain⟨hl,hb,h⟩:=h;have f2:=tE;have z1:items.size=B.length:=by rw[<- hi.length];simp
  have z2:Z.size=r.length:=by rw[<- hj.length];simp
  wp_walk using pO hl,pO hb,wpAny_forIn_list _ (fun rest b s'=>b.1=Z7/\s'=⟨hp,g,d,tk,f⟩/\∃(vs z:List ae) (X W:List Int),rest=vs.zip z /\
   dY vs X/\dY z W/\X.length+Z.size=W.length+items.size/\R (.ok (.ret (.bool (lexLt X W)))) ⟨hp,g,d,tk,f⟩) _
  case turn=>
   rintro⟨y,x⟩ rest b s' ⟨L,rfl,vs,z,X,W,hz,M,V,Y,U⟩
   cases M with
   |nil=>rw[BV]at hz;exfalso;cases hz
   |cons a t I=>
    cases V with
    |nil=>rw[Bt]at hz;exfalso;cases hz
    |cons c u D=>
     injection hz with bx J;injection bx with hy hx;subst hy hx;rw[k5]at U;simp only[cY]at Y;obtain⟨e,he,O⟩:=wW A.in1 ⟨hp,g,d,tk,f⟩ a t c u;refine aa (he prog w _ _ ?_)
     cases e with
     |true=>
      rw[Q6 (O.mp rfl)]at U
      wp_walk
      exact{Z9,Z9,_,_,_,_,J,I,D,by lia,U}
     |false=>
      rw[Q5 (fun q=>Q7 (O.mpr q) bz)]at U;have bw:=BU A.in1 ⟨hp,g,d,tk,f⟩ a t c u prog w
      wp_walk using bw
      exact{_,Z9,by simpa using U}
  case fin=>
   rintro⟨b1,b2⟩ s' ⟨L,rfl,vs,z,X,W,hz,M,V,Y,U⟩;simp only at L;subst L;have hv:lexLt X W=decide (items.size<Z.size):=by
    cases M with
    |nil=>
     cases V with
     |nil=>
      simp only[cU]at Y;rw[o9];exact (Q4 (by lia)).symm
     |cons c u hw=>
      simp only[cU,cY]at Y;rw[om];exact (Q3 (by lia)).symm
    |cons a t hv=>
     cases V with
     |nil=>
      simp only[cU,cY]at Y;rw[oo];exact (Q4 (by lia)).symm
     |cons c u hw=>
      rw[Bu]at hz
      cases hz
   rw[hv]at U
   wp_walk
   exact{_,Z9,by simpa[oN] using U}
  case h=>
   exact{Z9,Z9,items.toList,Z.toList,B,r,Z9,hi,hj,by lia,h}
end
section
variable{prog:aP}{w:bF}{A:cm}{E:ae->aj->Prop}{s:aj}
theorem lt_tupInts{l b:ab}{items Z:Array ae}{Y U:List Int}{Q:ae->aj->Prop}(t:wx s.heap l items)(hb:wx s.heap b Z)(hi:dY items.toList Y)(B:dY Z.toList U)
  (y:A.units<iN) (h:Q (.bool (lexLt Y U)) s):aN (aW prog w) A (gi .Lt (.ref l) (.ref b)) Q E s:=by
 obtain⟨⟨cls,q,data,z⟩,I,hc,n,J⟩:=id t;obtain⟨⟨D,O,L,M⟩,X,V,r,W⟩:=id hb;simp only at hc J V W;subst hc J V W;exact BW (op:=.Lt) {_,I,Z9} {_,X,Z9} PySem.F.slot_tuple_lt PySem.F.entry_tuple_lt (PySem.F.args_tuple_lt_2 _ _) (tO l b items Z n r q O z M Y U hi B)
  {I,X,show Value.bool (lexLt Y U)≠Value.notImplemented/\Q (.bool (lexLt Y U)) s from{(fun x=>nomatch x),h}} y
def sIx(n d:Nat):Option Int->Nat
 |none=>d
 |some v=>if v<0 then (v+(n:Int)).toNat else min v.toNat n
end
end _H
namespace _L
open PySem PySem.Spec PyProof.Rows
abbrev TO:=St->Hp->(Option Int->Hp->Prop)->Prop
def PO(X:Cx)(e:Option cH)(t:TO):Prop:=
 ∀(pins:List (ab×Obj)) (s:aj) (σ:St) (H:Hp) (Q:Option Int->Hp->Prop),Inv X pins σ H s->t σ H Q ->
  aN (aW X.prog X.w) X.A (evalPart e X.env) (fun u s'=>∃o H',Inv X pins σ H' s'/\IsPart u o/\Q o H') X.xe s
def Ez:TO:=fun _ H Q=>Q Z7 H
def tPart(t:TE):TO:=fun σ H Q=>t σ H fun x H1=>∃i,x=.int i/\Q (Z8 i) H1
theorem intsAre_of{Z:List Int}:∀{us:List ae},dU (Z.map V.int) us->dY us Z:=by
 induction Z with
 |nil=>intro us r;rw[ya]at r;cases r;exact .nil
 |cons n Z W=>
  intro us r
  cases r with
  |cons X Y=>
   obtain⟨t,e⟩:=X;subst e;exact .cons n t (W Y)
section
variable{X:Cx}{e:cH}{te:TE}{lo hi:Option cH}{tl th:TO}{pos p2:Pos}
theorem rC:PO X Z7 Ez:=by
 intro pins s σ H Q I h;exact af {Z7,H,I,.none,h}
theorem lJ(h:PE X e te):PO X (Z8 e) (tPart te):=by
 intro pins s σ H Q I hw;refine thn (h pins s σ H _ I hw) fun u U Z=>?_;obtain⟨x,H1,Y,W,V⟩:=Z;obtain⟨i,rfl,q⟩:=V;obtain⟨t,rfl⟩:=W;exact{Z8 i,H1,Y,.int i t,q}
def SlR(X:Cx)(r:V->Option Int->Option Int->Hp->VK->Prop):Prop:=
 ∀(pins:List (ab×Obj)) (s:aj) (σ:St) (H:Hp) (x:V) (v W Y:ae) (lo hi:Option Int) (Z:ab) (Q:VK),Inv X pins σ H s->RelV x v->s.heap.IsSliceOf Z W Y .none->IsPart W lo->IsPart Y hi->r x lo hi H Q ->
  ∃T id,yx (.type T) "__getitem__"=pure (Z8 (.builtin id))/\s.TypeIs v T/\aN (aW X.prog X.w) X.A (tP v (.ref Z)) (EP X pins σ Q) X.xe s
def tSl(r:V->Option Int->Option Int->Hp->VK->Prop)(te:TE)(tl th:TO):TE:=fun σ H Q=>te σ H fun x H1=>tl σ H1 fun l H2=>th σ H2 fun u Z=>r x l u Z Q
theorem lX{r:V->Option Int->Option Int->Hp->VK->Prop}(g:SlR X r)(L:PE X e te)(hl:PO X lo tl)(t:PO X hi th):PE X (.Subscript e (.Slice lo hi Z7 p2) pos) (tSl r te tl th):=by
 intro pins s σ H Q I h;refine H9 (thn (L pins s σ H _ I h) fun v d ⟨x,H1,f,z,q1⟩=>wpAny_Slice (thn (hl pins d σ H1 _ f q1) fun W s2 ⟨l,H2,I2,B,q2⟩=>thn (t pins s2 σ H2 _ I2 q2) fun Y Z ⟨u,M,y,J,U⟩=>af ?_));obtain⟨T,id,hT,D,O⟩:=g pins {Z with heap:=Z.heap.push {cls:=.type "slice",data:=.fields #[W,Y,.none]}} σ M x v W Y l u Z.heap.objs.size Q (y.kept (t':=Z.toks) fun b ob q=>aq _ q) z (Jo ..) B J U;exact tail_any D hT O (by with_unfolding_all rfl)
def p9(xs:List V)(lo hi:Option Int):List V:=(xs.drop (_H.sIx xs.length 0 lo)).take (_H.sIx xs.length xs.length hi-_H.sIx xs.length 0 lo)
theorem qV(xs:List V)(lo hi:Option Int):(p9 xs lo hi).length<=xs.length:=by
 unfold p9;rw[dB,kB]
 lia
end
def ixN(n:Nat)(i:Int):Option Nat:=if 0<=i then (if i<n then Z8 i.toNat else Z7) else if -(n:Int)<=i then Z8 (i+n).toNat else Z7
def atI{Z:Type}(xs:List Z)(i:Int):Option Z:=(ixN xs.length i).bind fun j=>xs[j]?
theorem zC{n:Nat}{i:Int}{j:Nat}(h:ixN n i=Z8 j):seqIndex? i n=Z8 j/\j<n/\-(n:Int)<=i/\i<n:=by
 unfold ixN at h
 by_cases h0:0<=i
 ·rw[Q6 h0]at h
  by_cases h1:i<n
  ·rw[Q6 h1]at h;have e:=cv h;exact{by rw[EA h0 h1,e],by lia,by lia,h1}
  ·simp_all
 ·rw[Q5 h0]at h
  by_cases h1:-(n:Int)<=i
  ·rw[Q6 h1]at h;have e:=cv h;exact{by rw[BX (by lia) h1,e],by lia,h1,by lia}
  ·simp_all
theorem vy{Z:Type}{xs:List Z}{i:Int}{v:Z}(h:atI xs i=Z8 v):∃j,seqIndex? i xs.length=Z8 j/\xs[j]?=Z8 v/\j<xs.length/\-(xs.length:Int)<=i/\i<xs.length:=by
 unfold atI at h
 cases e:ixN xs.length i with
 |none=>rw[e]at h;cases h
 |some j=>
  rw[e]at h;obtain⟨h1,h2,X,Y⟩:=zC e;exact⟨j,h1,h,h2,X,Y⟩
theorem cI{Z:Type}{xs:List Z}{j:Nat}{v:Z}(h:xs[j]?=Z8 v):atI xs (j:Int)=Z8 v:=by
 have Y:=(ay.mp h).1;have e:ixN xs.length (j:Int)=Z8 j:=by
  unfold ixN;rw[Q6 (by lia),Q6 (by lia)];simp
 unfold atI;rw[e];exact h
theorem BY{Z:Type}(xs:List Z)(v:Z):atI (xs++[v]) (-1)=Z8 v:=by
 have Y:(xs++[v]).length=xs.length+1:=by simp
 have e:ixN (xs++[v]).length (-1)=Z8 xs.length:=by
  unfold ixN;rw[Y,Q5 (by decide),Q6 (by omega)]
  congr 1
  omega
 unfold atI;rw[e];show (xs++[v])[xs.length]?=Z8 v;simp
def EB(b:cH):Prop:=∀o i,wz b false o i=operate [o,i] (tP o i)
def IxR(X:Cx)(r:R2):Prop:=
 ∀(value slice:cH) (pins:List (ab×Obj)) (s:aj) (σ:St) (H:Hp) (x y:V) (v u:ae) (Q:VK),Inv X pins σ H s->RelV x v->RelV y u->r x y H Q ->
  wz slice false v u=operate [v,u] (tP v u)->aN (aW X.prog X.w) X.A (subscriptTail value slice v u) (EP X pins σ Q) X.xe s
def MtR(X:Cx)(id:String)(r:V->List V->Hp->VK->Prop):Prop:=
 ∀(pins:List (ab×Obj)) (s:aj) (σ:St) (H:Hp) (x:V) (xs:List V) (v:ae) (us:List ae) (Q:VK),Inv X pins σ H s->RelV x v->dU xs us->r x xs H Q ->
  aN (aW X.prog X.w) X.A (pz (.builtin id) (v::us)) (EP X pins σ Q) X.xe s
section
variable{X:Cx}{a b:cH}{ta tb:TE}{pos:Pos}
theorem bJ{r:R2}(Z:IxR X r)(ha:PE X a ta)(hb:PE X b tb)(hs:EB b:=by intro _ _;rfl):PE X (.Subscript a b pos) (tOp r ta tb):=by
 intro pins s σ H Q I h;exact H9 (HU ha hb I h fun v u s2 x y H2 V W Y q=>Z a b pins s2 σ H2 x y v u Q V W Y q (hs _ _))
inductive RIxL(K:ag)(x y:V)(H:Hp)(Q:VK):Prop where
 |mk(p:ab)(xs:List V)(i:Int)(v:V)(hx:x=.ref p)(hy:y=.int i)(s:SqL K H p xs)(e:atI xs i=Z8 v)(q:Q v H):RIxL K x y H Q
def rIxL(K:ag):R2:=fun x y H Q=>RIxL K x y H Q
inductive RIxT(K:ag)(x y:V)(H:Hp)(Q:VK):Prop where
 |mk(p:ab)(xs:List V)(i:Int)(v:V)(hx:x=.ref p)(hy:y=.int i)(s:SqT K H p xs)(e:atI xs i=Z8 v)(q:Q v H):RIxT K x y H Q
def EC(K:ag):R2:=fun x y H Q=>RIxT K x y H Q
def rIxS:R2:=fun x y H Q=>∃z i c,x=.str z/\y=.int i/\z.length<=aF/\atI z.cps.toList i=Z8 c/\Q (.str {#[c]}) H
theorem bN:IxR X (rIxL X.K):=by
 intro value slice pins s σ H x y v u Q I U L h hs;refine Z0 fun g B=>?_;obtain⟨p,xs,i,z,rfl,rfl,hq,J,q⟩:=h;subst U;obtain⟨t,rfl⟩:=L;obtain⟨its,r,W,hz⟩:=I.list hq;obtain⟨j,h1,h2,f,O,M⟩:=vy J;obtain⟨w,V,Y⟩:=r.get h2;refine B ?_;have D:=r.length;have hn:=rS;have fin:EP X pins σ Q w s:=⟨z,H,I,Y,q⟩
 by_cases h0:0<=i
 ·have Z:i.toNat=j:=by
   rw[EA h0 M]at h1;exact cv h1
  exact item_listR W.isList h0 (by lia) (by rw[Z];simpa using V) fin hs
 ·have Z:(i+(its.toArray.size:Int)).toNat=j:=by
   rw[BX (by lia) O]at h1;rw[bj,<- D];exact cv h1
  exact BZ W.isList.typeIs Jp.lookup
   (wpAny_getItem_list_neg W.isList (by lia) (by rw[bj]<;>lia) (by lia) (by rw[Z];simpa using V) ⟨Z9,fin⟩) hs
theorem dX:IxR X (EC X.K):=by
 intro value slice pins s σ H x y v u Q I W U h hs;refine Z0 fun L M=>?_;obtain⟨p,xs,i,z,rfl,rfl,hq,O,q⟩:=h;subst W;obtain⟨t,rfl⟩:=U;obtain⟨its,r,Y,hz⟩:=I.tuple hq;obtain⟨j,h1,h2,B,J,D⟩:=vy O;obtain⟨w,V,Z⟩:=r.get h2;refine M ?_;have hn:=rS;exact BZ Y.typeIs slot_tuple_getitem.lookup
  (getItem_tuple Y (by lia) (by lia) (by rw[bj,<- (r.length)];exact h1) (by simpa using V) {Z9,(⟨z,H,I,Z,q⟩)}) hs
theorem Ia:IxR X rIxS:=by
 intro value slice pins s σ H x y v u Q I Y V h hs;refine Z0 fun L M=>?_;obtain⟨z,i,c,rfl,rfl,hz,U,q⟩:=h;obtain⟨t,rfl⟩:=Y;obtain⟨t',rfl⟩:=V;obtain⟨j,h1,h2,J,Z,W⟩:=vy U;refine M ?_;have O:z.cps.toList.length=z.length:=by simp[Str.length]
 rw[O]at h1 Z W;have hn:=rS;exact tail_any (Ib s z t) slot_str_getitem.lookup (getItem_str (by
  rw[(Q4 (by lia)),(Q4 (by lia)),Ic]) (by rw[h1];simpa using h2) {.str {#[c]},H,I.tok _,{_,Z9},q}) hs
theorem yy(its:List ae)(n j:Nat)(u:ae):dN (·.setIfInBounds j u) {cls:=.type "list",data:=.seq its.toArray n}={cls:=.type "list",data:=.seq (its.set j u).toArray n}:=by
 simp[dN]
theorem Inv.lst{pins:List (ab×Obj)}{σ:St}{H:Hp}{s:aj}{p:ab}{xs:List V}(I:Inv X pins σ H s)(h:H p=Z8 (.l xs)) :
  ∃(its:List ae) (n:Nat),dU xs its/\s.heap.get? p=Z8 {cls:=.type "list",data:=.seq its.toArray n}/\xs.length<=aF:=by
 obtain⟨z,its,n,r,e⟩:=I.hok p _ h;exact⟨its,n,r,e,z⟩
theorem Inv.lstUpd{pins:List (ab×Obj)}{σ:St}{H:Hp}{s:aj}{p:ab}{xs ys:List V}{its its':List ae}{n Z:Nat}{f:Obj->Obj}(I:Inv X pins σ H s)(h:H p=Z8 (.l xs))
  (W:s.heap.get? p=Z8 {cls:=.type "list",data:=.seq its.toArray n}) (Y:f {cls:=.type "list",data:=.seq its.toArray n}={cls:=.type "list",data:=.seq its'.toArray Z}) (r:dU ys its') (hz:ys.length<=aF) (t:Nat) :
  Inv X pins σ (upd H p (.l ys)) {s with heap:=s.heap.update p f,toks:=t}:=by
 have e:(s.heap.update p f).get? p=Z8 {cls:=.type "list",data:=.seq its'.toArray Z}:=by
  rw[cC f W (by rw[Y]<;>rfl),Y]
 refine I.write (by rw[h];trivial) (.inl rfl) (fun b u hb q=>(aY _ _ (cE hb)).trans q) {_,e} ?_;exact⟨hz,its',Z,r,e⟩
def rSetL:V->V->V->Hp->(Hp->Prop)->Prop:=fun o i v H Q=>∃p xs k j,o=.ref p/\i=.int k/\H p=Z8 (.l xs)/\ixN xs.length k=Z8 j/\Q (upd H p (.l (xs.set j v)))
theorem r9:PSet X rSetL:=by
 intro pins s σ H o i v y iv u Q I D L J h;refine Z0 fun z B=>?_;obtain⟨p,xs,k,j,rfl,rfl,hp,M,q⟩:=h;subst D;obtain⟨t,rfl⟩:=L;obtain⟨its,n,r,Z,hz⟩:=I.lst hp;obtain⟨h1,h2,O,U⟩:=zC M;refine B ?_;have Y:=r.length;have hn:=rS;have V:=I.lstUpd hp Z (yy its n j u) (r.set J j) (by rw[List.length_set];exact hz) s.toks
 by_cases h0:0<=k
 ·have hk:k.toNat=j:=by
   rw[EA h0 U]at h1;exact cv h1
  exact PySem.W.ki_setAt Z h0 (by lia) (by rw[bj,<- Y];exact U) (hk ▸ {_,V,q})
 ·have hk:(k+(its.toArray.size:Int)).toNat=j:=by
   rw[BX (by lia) O]at h1;rw[bj,<- Y];exact cv h1
  exact PySem.W.ki_setBack Z (by lia) (by rw[bj,<- Y];exact O) (by lia) (hk ▸ {_,V,q})
theorem vz(lo hi:Option Int)(n:Nat):(lI lo hi Z7 n).1=((_H.sIx n 0 lo:Nat):Int)/\(lI lo hi Z7 n).2.1=((_H.sIx n n hi:Nat):Int)/\(lI lo hi Z7 n).2.2=1:=by
 refine{?_,?_,Z9}
 ·cases lo with
  |none=>simp[lI,_H.sIx]
  |some i=>
   simp only[lI,_H.sIx,qW,show (1:Int)>0 by decide,if_true]
   by_cases h:i<0
   ·simp only[h,if_true]<;>lia
   ·simp only[h,if_false]<;>lia
 ·cases hi with
  |none=>simp[lI,_H.sIx]
  |some i=>
   simp only[lI,_H.sIx,qW,show (1:Int)>0 by decide,if_true]
   by_cases h:i<0
   ·simp only[h,if_true]<;>lia
   ·simp only[h,if_false]<;>lia
theorem tQ(its:List ae)(lo hi:Option Int):slicePick its.toArray lo hi Z7=((its.drop (_H.sIx its.length 0 lo)).take (_H.sIx its.length its.length hi-_H.sIx its.length 0 lo)).toArray:=by
 obtain⟨h1,h2,Z⟩:=vz lo hi its.toArray.size;unfold slicePick;rw[h1,h2,Z];simp only[sliceRange_one,pick_run]<;>rfl
inductive SlLI(K:ag)(x:V)(lo hi:Option Int)(H:Hp)(Q:VK):Prop where
 |mk(a:ab)(xs:List V)(hx:x=.ref a)(s:SqL K H a xs)(q:∀p,H p=Z7->Q (.ref p) (upd H p (.l (p9 xs lo hi)))):SlLI K x lo hi H Q
def rSlL(K:ag):V->Option Int->Option Int->Hp->VK->Prop:=fun x lo hi H Q=>SlLI K x lo hi H Q
theorem qb:SlR X (rSlL X.K):=by
 intro pins s σ H x v J O lo hi M Q I W hs V U h;obtain⟨a,xs,rfl,hx,q⟩:=h;subst W;obtain⟨its,r,Y,hz⟩:=I.list hx;have Z:=r.length;refine{"list",_,Jp.lookup,Y.isList.typeIs,wpAny_getItem_list_slice Y.isList hs V U .none (by simp) ?_ (by rw[bj]<;>lia)};rw[tQ,<- Z];refine{.ref s.heap.objs.size,_,I.laid (t':=s.toks) (fun b L q=>aq _ q) (aB _) ?_,Z9,q _ (I.hok.fresh (aB _))};exact{dh (qV xs lo hi) hz,_,0,(r.drop (_H.sIx xs.length 0 lo)).take (_H.sIx xs.length xs.length hi-_H.sIx xs.length 0 lo),aE _ rfl}
theorem mJ:kN X (.builtin "len") (fun xs H Q=>∃p ys,xs=[.ref p]/\(SqL X.K H p ys\/SqT X.K H p ys)/\Q (.int ys.length) H):=by
 intro pins s σ H xs us Q I r h;obtain⟨p,ys,rfl,hq,q⟩:=h;obtain⟨u,rfl,V⟩:=vals1 r;subst V;have hn:=rS
 rcases hq with hq|hq
 ·obtain⟨its,W,Y,hz⟩:=I.list hq;have Z:=W.length;exact Calls.call_len_list Y.isList (by simp only[bj]<;>lia) {.int ys.length,H,I.tok _,{s.toks+1,by rw[bj,Z]},q}
 ·obtain⟨its,W,Y,hz⟩:=I.tuple hq;have Z:=W.length;exact len_tuple Y (by simp only[bj]<;>lia) {.int ys.length,H,I.tok _,{s.toks+1,by rw[bj,Z]},q}
theorem vA:kN X (.type "list") (fun xs H Q=>∃p ys,xs=[.ref p]/\(SqL X.K H p ys\/SqT X.K H p ys)/\∀l,H l=Z7->Q (.ref l) (upd H l (.l ys))):=by
 intro pins s σ H xs us Q I r h;obtain⟨p,ys,rfl,hq,q⟩:=h;obtain⟨u,rfl,M⟩:=vals1 r;subst M;have fin:∀its,dU ys its->ys.length<=aF->∀h' (Y:Nat),(∀b o',s.heap.get? b=Z8 o'->h'.get? b=Z8 o') ->
   h'.get? s.heap.objs.size=Z8 {cls:=.type "list",dict:=Z7,data:=.seq its.toArray Y,slots:=#[]}->EP X pins σ Q (.ref s.heap.objs.size) {s with heap:=h'}:=fun its Z hz h' Y kp e=>
  {.ref s.heap.objs.size,_,I.laid (t':=s.toks) kp (aB _) (show gE X.prog X.w _ h' _ (.l ys) from⟨hz,its,Y,Z,e⟩),Z9,q _ (I.hok.fresh (aB _))}
 rcases hq with hq|hq
 ·obtain⟨its,Z,O,hz⟩:=I.list hq;have W:=Z.length;obtain⟨o,U,hc,n,V⟩:=O.isList;exact call_list_seq p (.inl rfl) U hc V (fun h' Y kp e=>fin its Z hz h' Y kp e) (by simp<;>omega)
 ·obtain⟨its,Z,O,hz⟩:=I.tuple hq;have W:=Z.length;obtain⟨o,U,hc,n,V⟩:=O;exact call_list_seq p (.inr rfl) U hc V (fun h' Y kp e=>fin its Z hz h' Y kp e) (by simp<;>omega)
theorem tR:kN X (.type "tuple") (fun xs H Q=>∃p ys,xs=[.ref p]/\((SqL X.K H p ys/\∀l,H l=Z7->Q (.ref l) (upd H l (.t ys)))\/(SqT X.K H p ys/\Q (.ref p) H))):=by
 intro pins s σ H xs us Q I r h;obtain⟨p,ys,rfl,h⟩:=h;obtain⟨u,rfl,U⟩:=vals1 r;subst U
 rcases h with⟨hq,q⟩|⟨hq,q⟩
 ·obtain⟨its,Z,Y,hz⟩:=I.list hq;have V:=Z.length;refine call_tuple_list Y.isList (fun h' kp=>?_) (by simp<;>omega);have W:=I.kept (t':=s.toks) kp;exact{.ref h'.objs.size,_,(W.laid (t':=s.toks) (fun b o e=>aq _ e) (aB _) (show gE X.prog X.w _ _ _ (.t ys) from{hz,its,Z,IsTup.new _ _})),Z9,q _ (W.hok.fresh (aB _))}
 ·obtain⟨its,Z,Y,hz⟩:=I.tuple hq;exact call_tuple_same Y {.ref p,H,I,Z9,q}
def tyV(K:ag)(T:String)(x:V)(H:Hp):Prop:=match x with
 |.str _=>T="str"
 |.int _=>T="int"
 |.ref p=>(T="list"/\∃xs,SqL K H p xs)\/(T="tuple"/\∃o,K.lookup p=Z8 o/\o.cls=.type "tuple"/\o.dict=Z7) \/
   (T="dict"/\((∃kvs,H p=Z8 (.dK kvs))\/∃kvs,H p=Z8 (.dT kvs)))\/(T="set"/\∃S n,H p=Z8 (.set S n))
 |_=>False
theorem B0{pins:List (ab×Obj)}{σ:St}{H:Hp}{s:aj}{T:String}{x:V}{v:ae}(I:Inv X pins σ H s)(r:RelV x v)(ty:tyV X.K T x H) :
  s.TypeIs v T/\∀a,v=.ref a->∃U,s.heap.get? a=Z8 U/\U.dict=Z7:=by
 cases x with
 |str z=>
  obtain⟨t,rfl⟩:=r
  cases (ty);exact{Ib s z t,fun _ e=>nomatch e}
 |int i=>
  obtain⟨t,rfl⟩:=r
  cases (ty);exact{typeIs_int s i t,fun _ e=>nomatch e}
 |ref p=>
  subst r
  rcases ty with⟨rfl,xs,hq⟩|⟨rfl,o,hk,hc,Y⟩|⟨rfl,hk⟩|⟨rfl,S,n,hk⟩
  ·obtain⟨its,_,W,_⟩:=I.list hq;refine{W.isList.typeIs,fun a e=>?_};injection e with e;subst e;obtain⟨o,n,e,c,Y,_⟩:=W;exact⟨o,e,Y⟩
  ·refine{{o,I.kIn p o hk,hc},fun a e=>?_}
   cases e;exact{o,I.kIn _ o hk,Y}
  ·have z:∃o,s.heap.get? p=Z8 o/\o.ExactDict:=by
    rcases hk with⟨kvs,hk⟩|⟨kvs,hk⟩
    ·obtain⟨_,_,_,_,o,_,_,e,ex,_⟩:=I.hok p _ hk;exact⟨o,e,ex⟩
    ·obtain⟨_,_,_,_,o,_,_,e,ex,_⟩:=I.hok p _ hk;exact⟨o,e,ex⟩
   obtain⟨o,e,ex⟩:=z;refine{⟨o,e,ex.1⟩,fun a Z=>?_}
   cases Z;exact⟨o,e,ex.2.1⟩
  ·obtain⟨o,_,_,_,e,ex,_⟩:=I.hok p _ hk;refine{⟨o,e,ex.1⟩,fun a Z=>?_};injection Z with Z;subst Z;exact⟨o,e,ex.2.1⟩
 |_=>exact eR ty
def tBM0(K:ag)(T:String)(r:V->List V->Hp->VK->Prop)(to:TE):TE:=fun σ H Q=>to σ H fun x H1=>tyV K T x H1/\r x [] H1 Q
def tBM(K:ag)(T:String)(r:V->List V->Hp->VK->Prop)(to:TE)(t:TA):TE:=fun σ H Q=>to σ H fun x H1=>tyV K T x H1/\t σ H1 fun xs H2=>r x xs H2 Q
variable{o e:cH}{es:List cH}{to:TE}{t:TA}{name:Str}{apos cpos:Pos}{T id:String}{r:V->List V->Hp->VK->Prop}
theorem B1(B:PlainAttrs T)(slot:Slot T name id)(W:typeOf (.builtin id)=pure (.type "method_descriptor"))(D:MtR X id r)(J:PE X o to)
  (Y:gW o name X.env (eY o X.env)=eY o X.env:=by rfl) (Z:(apos.endLine==cpos.line)=true:=by rfl):PE X (.Call (.Attribute o name apos) [] [] cpos) (tBM0 X.K T r to):=by
 intro pins s σ H Q I h;refine iO Y Z (thn (J pins s σ H _ I h) fun v M O=>?_);obtain⟨x,H1,V,U,ty,L⟩:=O;obtain⟨h1,h2⟩:=B0 V U ty;exact{T,id,B,slot,W,h1,h2,ff rfl (jf (D pins M σ H1 x [] v [] Q V U .nil L))}
theorem kh(D:PlainAttrs T)(slot:Slot T name id)(U:typeOf (.builtin id)=pure (.type "method_descriptor"))(g:MtR X id r)(q:PE X o to)(ha:PA X (e::es) t)
  (W:gW o name X.env (eY o X.env)=eY o X.env:=by rfl)
  (V:((jw cpos (cL (e::es) X.env)).all (fun x=>!x.1)&&(jR cpos (gX [] X.env)).all (fun x=>x.1.isSome)
  &&decide ((e::es).length+([]:List x9).length+(if ([]:List x9).isEmpty then 0 else 1)<30))=true:=by rfl)
  (Y:(apos.endLine==cpos.line)=true:=by rfl) (hs:cL (e::es) X.env=(false,eY e X.env)::cL es X.env:=by rfl) (Z:(jw cpos (cL es X.env)).any (·.1)=false:=by rfl) :
  PE X (.Call (.Attribute o name apos) (e::es) [] cpos) (tBM X.K T r to t):=by
 intro pins s σ H Q I h;refine wpAny_Call_method_late W V Y rfl (thn (q pins s σ H _ I h) fun v B J=>?_);obtain⟨x,H1,O,M,ty,z⟩:=J;obtain⟨h1,h2⟩:=B0 O M ty;refine{T,id,D,slot,U,h1,h2,?_};have L:=ha cpos pins B σ H1 _ O z;rw[hs]at L |-;exact ff (by show (false||(jw cpos (cL es X.env)).any (·.1))=false;rw[Z]<;>rfl) (yz (thn L fun us s2 ⟨vs,H2,y,f,d⟩=>g pins s2 σ H2 x vs v us Q y M f d))
end
def MtM(X:Cx)(id:String)(r:V->List V->Hp->VK->Prop):Prop:=
 ∀(pins:List (ab×Obj)) (s:aj) (σ:St) (H:Hp) (x:V) (xs:List V) (v:ae) (us:List ae) (Q:VK),Inv X pins σ H s->RelV x v->dU xs us->r x xs H Q ->
  aN (aW X.prog X.w) X.A (pz (.builtin id) (v::us)) (EP X pins σ Q) X.xe s
theorem dU.one:∀{x:V} {us:List ae},dU [x] us->∃u,us=[u]/\RelV x u
 |_,_,r=>vals1 r
theorem dU.two:∀{x y:V} {us:List ae},dU [x,y] us->∃u v,us=[u,v]/\RelV x u/\RelV y v
 |_,_,_,r=>vals2 r
section
variable{X:Cx}{pins:List (ab×Obj)}{σ:St}{H:Hp}{s:aj}{l b:ab}{xs ys zs:List V}
theorem Inv.lset{its its':List ae}{n:Nat}{f:Array ae->Array ae}{t':Nat}(I:Inv X pins σ H s)(Y:H l=Z8 (.l xs))
  (e:s.heap.get? l=Z8 {cls:=.type "list",data:=.seq its.toArray n}) (W:f its.toArray=its'.toArray) (hv:dU ys its') (hz:ys.length<=aF) :
  Inv X pins σ (upd H l (.l ys)) {s with heap:=s.heap.update l (dN f),toks:=t'}:=by
 have q:=PySem.IsL.update e f;rw[W]at q;refine I.write (Y ▸ trivial) (.inl rfl) (fun V u hb Z=>(aY s.heap (dN f) (cE hb)).trans Z) {_,q} ?_;exact{hz,its',_,hv,q}
theorem Inv.lnew{its:List ae}{t':Nat}(I:Inv X pins σ H s)(hv:dU ys its)(hz:ys.length<=aF) :
  Inv X pins σ (upd H s.heap.objs.size (.l ys)) {s with heap:=s.heap.push {cls:=.type "list",data:=.seq its.toArray},toks:=t'}:=
 I.laid (fun _ _ q=>aq _ q) (aB _) {hz,its,0,hv,aE _ rfl}
theorem Inv.fresh(I:Inv X pins σ H s):H s.heap.objs.size=Z7:=I.hok.fresh (aB _)
theorem Inv.lstM(I:Inv X pins σ H s)(Z:H l=Z8 (.l xs)):xs.length<=aF/\∃(its:List ae) (n:Nat),dU xs its/\xs.length=its.length/\s.heap.get? l=Z8 {cls:=.type "list",data:=.seq its.toArray n}:=by
 obtain⟨z,its,n,r,e⟩:=I.hok l _ Z;exact⟨z,its,n,r,r.length,e⟩
theorem B2{n:Nat}(h:n<=aF):qX n=false:=Q4 (by lia)
end
section
variable{X:Cx}
inductive AppI(x:V)(vs:List V)(H:Hp)(Q:VK):Prop where
 |mk(l:ab)(xs:List V)(y:V)(hx:x=.ref l)(hv:vs=[y])(h:H l=Z8 (.l xs))(n:xs.length<aF)(q:Q .non (upd H l (.l (xs++[y])))):AppI x vs H Q
def zD:V->List V->Hp->VK->Prop:=fun x vs H Q=>AppI x vs H Q
theorem fZ:MtM X "list.append" zD:=by
 intro pins s σ H x vs v us Q I Y V h;obtain⟨l,xs,y,rfl,rfl,Z,hz,q⟩:=h;subst Y;obtain⟨u,rfl,W⟩:=V.one;obtain⟨z,its,n,r,U,e⟩:=I.lstM Z;refine sd F.slot_list_append {_,e,Z9} F.entry_list_append (F.args_list_append_2 _ _) (PySem.list_append l its.toArray n u (by rw[bj];lia)) {e,{.non,_,I.lset (its':=its++[u]) Z e (by simp) (r.append (.cons W .nil)) ?_,Z9,q}};rw[aL,oO]
 lia
def ED:V->List V->Hp->VK->Prop:=fun x vs H Q=>∃l b xs zs,x=.ref l/\vs=[.ref b]/\H l=Z8 (.l xs)/\H b=Z8 (.l zs)/\xs.length+zs.length<=aF/\Q .non (upd H l (.l (xs++zs)))
theorem uy:MtM X "list.extend" ED:=by
 intro pins s σ H x vs v us Q I U M h;refine Z0 fun g y=>?_;obtain⟨l,b,xs,zs,rfl,rfl,W,V,hz,q⟩:=h;subst U;obtain⟨u,rfl,O⟩:=M.one;subst O;obtain⟨z,its,n,r,f,e⟩:=I.lstM W;obtain⟨t,Z,L,D,J,B⟩:=I.lstM V;refine y ?_;have hsz:its.toArray.size+Z.toArray.size<=aF:=by simp_all
 have Y:¬(!its.toArray.isEmpty&&qX (its.toArray.size+Z.toArray.size))=true:=by
  rw[B2 hsz,FY];exact bz
 refine sd F.slot_list_extend {_,e,Z9} F.entry_list_extend (F.args_list_extend_2 _ _)
  (AutoSeq1.list_extend_list_list_0 l its.toArray n b Z.toArray L Y (by rw[bj];lia) (by lia)) {e,B,?_}
 refine{.non,_,I.lset (its':=its++Z) W e (by simp) (r.append D) ?_,Z9,q};rw[aL]
 lia
inductive CatI(x y:V)(H:Hp)(Q:VK):Prop where
 |mk(l b:ab)(xs zs:List V)(hx:x=.ref l)(hy:y=.ref b)(h:H l=Z8 (.l xs))(g:H b=Z8 (.l zs))(n:xs.length+zs.length<=aF)(q:∀p,H p=Z7->Q (.ref p) (upd H p (.l (xs++zs)))):CatI x y H Q
def rCat:R2:=fun x y H Q=>CatI x y H Q
theorem sh:OpR X (kJ .Add) rCat:=by
 intro pins s σ H x y v u Q I V M h;refine Z0 fun t D=>?_;obtain⟨l,b,xs,zs,rfl,rfl,U,W,hz,q⟩:=h;subst V;subst M;obtain⟨z,its,n,r,f,e⟩:=I.lstM U;obtain⟨B,Z,g,L,O,J⟩:=I.lstM W;refine D (PySem.P.add_list e J ?_ (by rw[bj,bj];lia));have Y:its.toArray++Z.toArray=(its++Z).toArray:=by simp
 rw[Y];exact{.ref _,_,I.lnew (t':=s.toks) (r.append L) (by rw[aL];lia),Z9,q _ I.fresh}
end
section
variable{prog:aP}{w:bF}{A:cm}{E:ae->aj->Prop}{s:aj}
end
section
variable{X:Cx}
end
end _L
namespace Att
open PySem PySem.W PySem.Calls PyProof.Rows
theorem ints_of_wellAll{P:Params}{h:cz}:∀(Z:List Int) (vs:List ae),WellAll P h vs (Z.map WData.int)->dY vs Z:=by
 intro Z
 induction Z with
 |nil=>
  intro vs w
  cases w;exact .nil
 |cons n Z Y=>
  intro vs w
  cases w with
  |cons a b=>
   cases a;exact .cons _ _ (Y _ b)
theorem script_of{l:OpenLaw}{n:Nat}(hn:l.most=Z8 n){P:Params}{h:cz}{args:List WData}{Y:List ae}
  (X:l.row.toRowW.claim.pre args=true) (M:WellAll P h Y args) :
  ∃a vs Z,Y=[Value.ref a]/\args=[WData.list (Z.map WData.int)]/\h.get? a=Z8 {cls:=.type "list",data:=.seq vs.toArray}/\dY vs Z/\Z.length<=n:=by
 obtain⟨d,r,rfl,h1,h2⟩:=hasAllW_cons ((pre_splitW X).1);obtain rfl:=hasAllW_nil h2;obtain⟨xs,rfl,D⟩:=hasW_list h1;obtain⟨Z,rfl⟩:=items_int D;have W:Z.length<=n:=by
  have U:(WTm.not (.lt (.lit (.int (n:Int))) (.len (.arg 0)))).holds [] {args:=[.list (Z.map .int)]}=true:=by
   have U:=(holds_andW ((pre_splitW X).2)).1;rw[hn]at U;exact U
  have O:=condW_of U (w_not (w_lt w_lit (w_len_list (w_arg rfl))));rw[ak]at O;refine Nat.le_of_not_lt fun q=>?_
  first
   |(rw[Q3 q']at O;exact Q7 O (by decide))
   |(simp at O;lia)
 cases M with
 |cons I L=>
  cases L
  cases I with
  |list J V=>exact{_,_,Z,Z9,Z9,J,ints_of_wellAll Z _ V,W}
theorem post_true(l:OpenLaw)(args:List WData):l.row.toRowW.claim.post args (.bool true) args=true:=
 postW_of
  (show WShape.has [] (.bool true) .bool=true by first|rfl|decide|simp[WShape.armsAll])
  (w_eq_bool (w_res rfl) w_lit) rfl
section
variable{prog:aP}{w:bF}{A:cm}{E:ae->aj->Prop}{s:aj}{K:Frag}
end
end Att
namespace _L
open PySem PySem.Spec PyProof.Rows
theorem uz:∀{vs:List ae} {Z:List Int},dY vs Z->dU (Z.map V.int) vs
 |_,_,.nil=>.nil
 |_,_,.cons n t h=>.cons ⟨t,Z9⟩ (uz h)
def Only(H:Hp):Prop:=∀b,H b=Z7\/∃o xs,H b=Z8 (.frz o (.l xs))
theorem B3{P:aP}{w:bF}{K:ag}{mg mb:Str->Option ae}{CX:CXT}{k:Nat}{fa a:ab}{fd:bS}{x:Str}{sp:Sp}{Z:aj}{vs:List ae}{O:List Int}
  (KX:K.In Z.heap) (D:Z.heap.Ns bW mg) (hb:Z.heap.Ns HH mb) (t:∀x:Str,x≠"__name__"->mb x=eh x) (L:Z.heap.NoLimit) (hg:Z.gens=#[])
  (ha:Z.heap.get? a=Z8 {cls:=.type "list",data:=.seq vs.toArray}) (hi:dY vs O) (hl:O.length<=aF) (hr:dC k yb)
  (F:∀base:cz,K.In base->base.Ns bW mg->bO P w K mg base CX k fa fd [x] sp) (U:∀(s:aj) (u:ae),tN s fd {[u],[]} [(x,u)])
  (g:∀H:Hp,Only H->SqL K H a (O.map V.int)->sp [.ref a] H (fun v _=>v=.bl true) fun _ _ _=>False)
  (bR:∀H e s',CX [] H Z (fun _ _ _=>False) e s'->False) :
  iL (aW P w) yb (.call (.ref fa) {[.ref a],[]}) (fun r s'=>r=.ok (.ret (.bool true))/\OldK Z.heap s'.heap/\s'.os=Z.os/\pk s'.gens) Z:=by
 have rv:=uz hi;have W:∀H:Hp,Only H->SqL K H a (O.map V.int)->HOk P w H Z.heap->(∀b,H b≠Z7->b=a)->(H a≠Z7->K.lookup a=Z7) ->
   iL (aW P w) yb (.call (.ref fa) {[.ref a],[]}) (fun r s'=>r=.ok (.ret (.bool true))/\OldK Z.heap s'.heap/\s'.os=Z.os/\pk s'.gens) Z:=by
  intro H hO hS B hA hK;have Y:∀{b:ab} {o:Obj},Z.heap.get? b=Z8 o->H b=Z7->(Ao Z.heap H).get? b=Z8 o:=fun e n=>Bz e n;have ca:∀{b:ab} {o:Obj} {es:Array gj} {ep:Nat},Z.heap.get? b=Z8 o->o.data=.dict es ep->H b=Z7:=fun {b o es ep} e d=>by
   cases q:H b with
   |none=>rfl
   |some u=>
    have f:=hA b (by rw[q];simp);subst f;rw[ha]at e;cases e
    cases (d)
  have X:∀{b:ab} {m:Str->Option ae},Z.heap.Ns b m->(Ao Z.heap H).Ns b m:=fun {b m} ⟨o,es,ep,e,d,r⟩=>{o,es,ep,Y e (ca e d),d,r};have M:=fun b o e=>Y (KX b o e) (by
   cases q:H b with
   |none=>rfl
   |some u=>
    have f:=hA b (by rw[q];simp);subst f;rw[hK (by rw[q];simp)]at e;cases e)
  refine kK ((F _ M (X D)).run yb [] Z H {[.ref a],[]} [.ref a] [.ref a] _ _ hr ({Z9,({M,X D,{mb,X hb,t},let ⟨mc,h1,h2⟩:=L;{mc,X h1,h2}}),fun b o e=>Ek e,Nat.le_of_eq (Ap _ _),trivial,fun b hb=>Q7 (show b∈([]:List ab) from hb) (by simp),B,.of_eq hg}) (U Z (.ref a)) (.cons rfl .nil) (g H hO hS)) fun r s' h=>?_
  cases r with
  |error e=>exact (bR H e s' h).elim
  |ok fl=>
   cases fl with
   |next=>exact eR h
   |brk=>exact eR h
   |cont=>exact eR h
   |ret u=>
    obtain⟨v,H',os,y,un,J,r',q⟩:=h;subst (q);obtain rfl:u=Value.bool true:=r';refine{Z9,OldK.of_keep fun b o e=>?_,os,y}
    cases q:H b with
    |none=>exact un.keep b o e q (by intro z;exact Q7 (show b∈([]:List ab) from z) (by simp)) (by simp)
    |some u=>
     rcases hO b with z|⟨ob,xs,z⟩
     ·rw[q]at z;cases z
     ·have z2:=un.frzs b ob _ z;obtain⟨e1,_⟩:=B b _ z;obtain⟨e2,_⟩:=J b _ z2;rw[e]at e1;cases e1;exact e2
 cases hk:K.lookup a with
 |some o=>
  have e:=KX a o hk;rw[ha]at e;injection e with e;subst e;refine W (fun _=>Z7) (fun _=>.inl rfl) (.inr {_,vs.toArray,_,hk,Z9,Z9,Z9,by rw[bj,(hi.length)];exact hl,by simpa using rv}) (fun b u z=>by have I:(Z7:Option HO)=Z8 u:=z;cases I) (fun b z=>Q7 rfl z) fun z=>Q7 rfl z
 |none=>
  refine W (fun b=>if b=a then Z8 (.frz {cls:=.type "list",data:=.seq vs.toArray} (.l (O.map V.int))) else Z7) (fun b=>?_) (.inl (.inr {{cls:=.type "list",data:=.seq vs.toArray},Q6 rfl})) (fun b u z=>?_) (fun b z=>?_) fun _=>hk
  ·by_cases hb:b=a
   ·exact .inr {_,_,Q6 hb}
   ·exact .inl (Q5 hb)
  ·by_cases hb:b=a
   ·have I:=(Q6 hb).symm.trans z;injection I with I;subst I;subst hb;exact{ha,by rw[ak];exact hl,vs,_,rv,ha}
   ·simp_all
  ·by_cases hb:b=a
   ·exact hb
   ·exact Q7 (Q5 hb) z
def d6(s:dI)(j:Nat):dI:=match s with
 |.ClassDef _ _ _ Z _ _ _ _ _ _ _=>Z.getD j (.Pass {0,0,0,0})
 |_=>.Pass {0,0,0,0}
def kS(s:dI):Arguments:=match s with
 |.FunctionDef _ a _ _ _ _ _ _ _ _=>a
 |_=>{posonlyargs:=[],args:=[],vararg:=Z7,kwonlyargs:=[],kw_defaults:=[],kwarg:=Z7,defaults:=[]}
def kd(s:dI):List dI:=match s with
 |.FunctionDef _ _ b _ _ _ _ _ _ _=>b
 |_=>[]
def aS(s:dI):kE:=match s with
 |.FunctionDef _ _ _ _ _ _ sc _ _ _=>sc
 |_=>{kind:=.function,names:=[],isGenerator:=false,isCoroutine:=false}
abbrev CX0:CXT:=fun _ _ _ _ _ _=>False
abbrev E0:XK:=fun _ _ _=>False
theorem eV{X:Cx}:oj CX0 X E0:=fun _ _ _ _ _ _ _ h=>h.elim
structure Fun(K:ag)(x qual:Str)(st:dI)(f:ab)(fd:bS):Prop where
 ex:∃(oc:ae) (od:Option ab) (kV doc pm:ae) (an:Option ab) (cdv ct:ae) (osl:Array (Option ae)),
  fd=gu x qual (kS st) (kd st) (aS st) .none kV doc pm an cdv ct/\K.lookup f=Z8 {oc,od,.func fd,osl}/\k0 K cdv qual=true
 kp:ip K (.ref f)=true
section
variable{P:aP}{w:bF}{K:ag}{mg:Str->Option ae}{base:cz}
theorem Fun.ok{x Z:Str}{st:dI}{f:ab}{fd:bS}{N ps:List Str}{k:Nat}{sp:Sp}(F:Fun K x Z st f fd)(S:bU N ps (aS st))(len:∀vs H Q E,sp vs H Q E->vs.length=ps.length)
  (X:∀(Y:ae) (A:cm) (outer:List Env) (s:aj) (H:Hp) (vs:List V) (Q:VK) (E:XK),dC k (A.deeper (rZ Z (aS st) s.heap.objs.size f Y))->sp vs H Q E ->
   ∃t,PSs (vw CX0 P w K mg base N Z (aS st) f Y A outer s H E).nox (kd st) t/\t {nx:=fun _ H'=>Q .non H',rt:=Q} (start N vs) H):bO P w K mg base CX0 (k+1) f fd ps sp:=by
 obtain⟨I,D,kV,M,B,z,Y,ct,L,rfl,J,W⟩:=F.ex;refine fn_of J W S len fun A outer s H vs Q E O U=>?_;obtain⟨t,h,q⟩:=X Y A outer s H vs Q E O U;exact⟨t,h.nox,q⟩
theorem Fun.binds{x Z:Str}{st:dI}{f:ab}{fd:bS}{ps:List Str}(F:Fun K x Z st f fd)
  (h:∀(kV Y W:ae) (V:Option ab) (X ct:ae) (us:List ae),us.length=ps.length->yu (gu x Z (kS st) (kd st) (aS st) .none kV Y W V X ct) {us,[]}=pure (ps.zip us)):Binds K fd ps []:=by
 obtain⟨M,L,kV,Y,W,V,X,ct,O,rfl,J,U⟩:=F.ex;exact .all (h kV Y W V X ct)
theorem B4{x Z:Str}{st:dI}{f:ab}{O:ae}{M U:Option ab}{W:Array (Option ae)}{kV X V Y ct:ae}(l:K.lookup f=Z8 {O,M,.func (gu x Z (kS st) (kd st) (aS st) .none kV X V U Y ct),W})
  (c:k0 K Y Z=true) (k:ip K (.ref f)=true):Fun K x Z st f (gu x Z (kS st) (kd st) (aS st) .none kV X V U Y ct):={⟨O,M,kV,X,V,U,Y,ct,W,Z9,l,c⟩,k}
end
theorem pd{A:cm}{k:Nat}(Z:dC k A):A.units+1<iN:=dS (lH (by decide:1<=64) _) Z.units
section
variable{X:Cx}
theorem pv(i:Nat){x:Str}{pos:Pos}(W:X.N[i]?=Z8 x:=by rfl)(hv:Vis X.env.scope x:=by first|exact Or.inl rfl|exact Or.inr (Or.inl rfl)|exact Or.inr (Or.inr rfl))(Y:(x==("__debug__":Str))=false:=by decide)
  (Z:(x==("__classdict__":Str))=false:=by decide):PE X (.Name x pos) (lV i):=HI W hv Y Z
end
theorem gm{A B:Prop}(h:B):if false=true then A else B:=by
 simp_all
theorem iq{A B:Prop}(h:A):if true=true then A else B:=h
theorem si{c A B:Prop}[Decidable c](h1:c->A)(h2:¬c->B):if c then A else B:=by
 simp_all
def cA(H H':Hp):Prop:=∀b o,H b=Z8 o->H' b=Z8 o
theorem cA.refl(H:Hp):cA H H:=fun _ _ h=>h
theorem cA.trans{H H1 H2:Hp}(a:cA H H1)(b:cA H1 H2):cA H H2:=fun c o h=>b c o (a c o h)
theorem cA.free{H H':Hp}(e:cA H H'){l:ab}(h:H' l=Option.none):H l=Option.none:=by
 cases q:H l with
 |none=>rfl
 |some o=>
  rw[e l o q]at h
  cases h
section
variable{κ:Type}[DecidableEq κ]
def jY(kvs:List (κ×V))(k:κ):Option V:=(kvs.find? fun Z=>decide (Z.1=k)).map (·.2)
def jS(kvs:List (κ×V))(k:κ)(v:V):List (κ×V):=
 if (kvs.any fun Z=>decide (Z.1=k))=true then kvs.map (fun Z=>if Z.1=k then (Z.1,v) else Z) else kvs++[(k,v)]
theorem oq{p:κ×V}{r:List (κ×V)}{k:κ}(e:p.1=k):jY (p::r) k=Z8 p.2:=by simp[jY,e]
theorem oy{p:κ×V}{r:List (κ×V)}{k:κ}(e:¬p.1=k):jY (p::r) k=jY r k:=by simp[jY,e]
theorem oz(k:κ):∀kvs:List (κ×V),(kvs.any fun Z=>decide (Z.1=k))=(jY kvs k).isSome
 | []=>rfl
 |p::r=>by
  rw[wA]
  by_cases e:p.1=k
  ·simp only[oq e,Q3 e,Bool.true_or,Option.isSome_some]
  ·rw[oy e,Q4 e,Bool.false_or];exact oz k r
theorem jC(kvs:List (κ×V))(k:κ)(v:V):(jS kvs k v).length<=kvs.length+1:=by
 unfold jS
 split
 ·simp_all
 ·simp_all
theorem oA{kvs:List (κ×V)}{k:κ}(v:V)(h:jY kvs k=Z7):jS kvs k v=kvs++[(k,v)]:=by
 unfold jS;rw[oz,h];exact Q5 (by decide)
theorem ng.isSome_eq{o:Option V}{u:Option ae}(r:ng o u):o.isSome=u.isSome:=by
 cases o with
 |none=>cases u with
  |none=>rfl
  |some _=>exact (r).elim
 |some _=>cases u with
  |none=>exact (r).elim
  |some _=>rfl
theorem ng.getD{o:Option V}{u:Option ae}{d:V}{d':ae}(r:ng o u)(Z:RelV d d'):RelV (o.getD d) (u.getD d'):=by
 cases o with
 |none=>cases u with
  |none=>exact Z
  |some _=>exact (show False from r).elim
 |some _=>cases u with
  |none=>exact (show False from r).elim
  |some _=>exact r
theorem KV.val{kvs:List (κ×V)}{vs:List (κ×ae)}(r:KV kvs vs)(k:κ):ng (jY kvs k) (yc vs k):=by
 induction r with
 |nil=>exact True.intro
 |@cons p q ps qs h t Y=>
  obtain⟨h1,h2⟩:=h
  by_cases e:p.1=k
  ·have Z:=h1.symm.trans e;have b:yc (q::qs) k=Z8 q.2:=by simp[yc,Z]
   rw[oq e,b];exact h2
  ·have Z:¬q.1=k:=fun z=>e (h1.trans z);have b:yc (q::qs) k=yc qs k:=by simp[yc,Z]
   rw[oy e,b];exact Y
theorem KV.any{kvs:List (κ×V)}{vs:List (κ×ae)}(r:KV kvs vs)(k:κ):(kvs.any fun Z=>decide (Z.1=k))=vs.any fun Z=>decide (Z.1=k):=by
 induction r with
 |nil=>rfl
 |cons h t Y=>rw[wA,wA,Y,h.1]
theorem KV.repl{kvs:List (κ×V)}{vs:List (κ×ae)}(r:KV kvs vs)(k:κ){y:V}{u:ae}(Y:RelV y u) :
  KV (kvs.map fun Z=>if Z.1=k then (Z.1,y) else Z) (vs.map fun Z=>if Z.1=k then (Z.1,u) else Z):=by
 induction r with
 |nil=>exact .nil
 |@cons p q ps qs h t X=>
  rw[ig,ig];refine .cons ?_ X;obtain⟨h1,h2⟩:=h
  by_cases e:p.1=k
  ·rw[Q6 e,Q6 (h1.symm.trans e)];exact⟨h1,Y⟩
  ·rw[Q5 e,Q5 (fun z=>e (h1.trans z))];exact⟨h1,h2⟩
theorem KV.put{kvs:List (κ×V)}{vs:List (κ×ae)}(r:KV kvs vs)(k:κ){y:V}{u:ae}(Z:RelV y u):KV (jS kvs k y) (vB vs k u):=by
 unfold jS vB;rw[r.any k]
 by_cases e:(vs.any fun Y=>decide (Y.1=k))=true
 ·rw[Q6 e,Q6 e];exact r.repl k Z
 ·rw[Q5 e,Q5 e];exact hU r ⟨Z9,Z⟩
theorem KV.length{kvs:List (κ×V)}{vs:List (κ×ae)}(r:KV kvs vs):kvs.length=vs.length:=bQ r
end
theorem uA{P:aP}{w:bF}{k:Key}{u:ae}(r:RelV (kV k) u):(eF P w).is k u=true:=by
 cases k with
 |inl i=>obtain⟨t,e⟩:=(r);subst e;exact wF P w i t
 |inr x=>obtain⟨t,e⟩:=(r);subst e;exact wG P w x t
theorem uB{P:aP}{w:bF}:∀{ks:List Key} {us:List ae},dU (ks.map kV) us->ItemsAre (eF P w) ks us
 | [],_,r=>by rw[ya]at r;cases r;exact .nil
 |k::ks,_,r=>by
  rw[ig]at r
  cases r with
  |cons h t=>exact .cons (uA h) (uB t)
abbrev KT(H:Hp):List (List Key×V)->List (List Key×ab×ae)->Prop:=bM fun p q=>p.1=q.1/\H q.2.1=Z8 (.t (p.1.map kV))/\RelV p.2 q.2.2
theorem KT.val{H:Hp}{kvs:List (List Key×V)}{xs:List (List Key×ab×ae)}(r:KT H kvs xs)(k:List Key):ng (jY kvs k) ((Bv xs k).map (·.2)):=by
 induction r with
 |nil=>exact True.intro
 |@cons p q ps qs h t Y=>
  obtain⟨h1,_,h2⟩:=h
  by_cases e:p.1=k
  ·have Z:=h1.symm.trans e;have b:Bv (q::qs) k=Z8 q.2:=by simp[Bv,Z]
   rw[oq e,b];exact h2
  ·have Z:¬q.1=k:=fun z=>e (h1.trans z);have b:Bv (q::qs) k=Bv qs k:=by simp[Bv,Z]
   rw[oy e,b];exact Y
theorem KT.repl{H:Hp}{kvs:List (List Key×V)}{xs:List (List Key×ab×ae)}(r:KT H kvs xs)(k:List Key){y:V}{u:ae}(Y:RelV y u) :
  KT H (kvs.map fun Z=>if Z.1=k then (Z.1,y) else Z) (xs.map (putAt k u)):=by
 induction r with
 |nil=>exact .nil
 |@cons p q ps qs h t W=>
  rw[ig,ig];refine .cons ?_ W;obtain⟨h1,h2,X⟩:=h;unfold putAt
  by_cases e:p.1=k
  ·rw[Q6 e,Q6 (h1.symm.trans e)];exact⟨h1,h2,Y⟩
  ·rw[Q5 e,Q5 (fun z=>e (h1.trans z))];exact⟨h1,h2,X⟩
theorem KT.put{H:Hp}{kvs:List (List Key×V)}{xs:List (List Key×ab×ae)}(r:KT H kvs xs)(k:List Key){b:ab}{y:V}{u:ae}(hb:H b=Z8 (.t (k.map kV)))(Z:RelV y u) :
  KT H (jS kvs k y) (storedH xs k b u):=by
 have e:(kvs.any fun Y=>decide (Y.1=k))=(Bv xs k).isSome:=by
  rw[oz,(r.val k).isSome_eq,AD]
 unfold jS storedH;rw[e]
 by_cases q:(Bv xs k).isSome=true
 ·rw[Q6 q,Q6 q];exact r.repl k Z
 ·rw[Q5 q,Q5 q];exact hU r ⟨Z9,hb,Z⟩
theorem KT.keeps{H H':Hp}{kvs:List (List Key×V)}{xs:List (List Key×ab×ae)}(r:KT H kvs xs)(Z:∀b ys,H b=Z8 (.t ys)->H' b=Z8 (.t ys)):KT H' kvs xs:=
 Paired.mapP r fun _ _ z=>{z.1,Z _ _ z.2.1,z.2.2}
section
variable{P:aP}{w:bF}{H:Hp}{h:cz}{a:ab}
theorem FZ{u:HO}(ok:HOk P w H h)(e:Rd H a u):gE P w H h a u:=e.ok ok
theorem uC{kvs:List (Key×V)}(ok:HOk P w H h)(e:Rd H a (.dK kvs)):kvs.length<=aF/\(a==gc)=false/\∃vs,KV kvs vs/\h.DictOf (eF P w) a vs:=
 show gE P w H h a (.dK kvs) from FZ ok e
theorem dk_of{kvs:List (Key×V)}(ok:HOk P w H h)(e:H a=Z8 (.dK kvs)):kvs.length<=aF/\(a==gc)=false/\∃vs,KV kvs vs/\h.DictOf (eF P w) a vs:=uC ok (.inl e)
theorem sj{ks:List Key}(ok:HOk P w H h)(e:H a=Z8 (.t (ks.map kV))):(oX (eF P w)).is h ks a:=by
 obtain⟨_,its,r,o,h1,h2,n,Z⟩:=(ok a _ e);exact{o,its.toArray,n,h1,h2,Z,by simpa using uB r}
theorem uD{kvs:List (List Key×V)}(ok:HOk P w H h)(e:Rd H a (.dT kvs)):kvs.length<=aF/\(a==gc)=false /\
  ∃xs,KT H kvs xs/\h.DictOfH (oX (eF P w)) a xs:=by
 refine Z0 fun O U=>?_;obtain⟨z,y,xs,r,o,es,ep,h1,h2,W,Z,Y⟩:=(FZ ok e);refine U ({z,y,xs,r,o,es,ep,h1,h2,W,Z,fun x hx=>?_,Y});have all:∀{l:List (List Key×V)} {m:List (List Key×ab×ae)},KT H l m->∀x∈m,(oX (eF P w)).is h x.1 x.2.1:=by
  intro l m q
  induction q with
  |nil=>intro x hx;exact nomatch hx
  |@cons p q ps qs hq t X=>
   intro x hx
   rcases aD.mp hx with e|hx
   ·subst e;exact sj ok (hq.1 ▸ hq.2.1)
   ·exact X x hx
 exact all r x hx
theorem dt_of{kvs:List (List Key×V)}(ok:HOk P w H h)(e:H a=Z8 (.dT kvs)):kvs.length<=aF/\(a==gc)=false /\
  ∃xs,KT H kvs xs/\h.DictOfH (oX (eF P w)) a xs:=uD ok (.inl e)
end
def oZ(H:Hp)(a:ab)(y:V)(r:Option V):Prop:=
 (∃kvs k,Rd H a (.dK kvs)/\y=kV k/\r=jY kvs k)\/∃kvs k b,Rd H a (.dT kvs)/\y=.ref b/\H b=Z8 (.t (k.map kV))/\r=jY kvs k
def rj(H:Hp)(a:ab)(y v:V)(H':Hp):Prop:=
 (∃kvs k,H a=Z8 (.dK kvs)/\y=kV k/\kvs.length<aF/\H'=upd H a (.dK (jS kvs k v))) \/
 ∃kvs k b,H a=Z8 (.dT kvs)/\y=.ref b/\H b=Z8 (.t (k.map kV))/\kvs.length<aF/\H'=upd H a (.dT (jS kvs k v))
theorem oZ.k{H:Hp}{a:ab}{kvs:List (Key×V)}{k:Key}(e:H a=Z8 (.dK kvs)):oZ H a (kV k) (jY kvs k):=.inl {kvs,k,.inl e,Z9,Z9}
theorem oZ.t{H:Hp}{a b:ab}{kvs:List (List Key×V)}{k:List Key}(e:H a=Z8 (.dT kvs))(Z:H b=Z8 (.t (k.map kV))):oZ H a (.ref b) (jY kvs k):=.inr {kvs,k,b,.inl e,Z9,Z,Z9}
theorem rj.k{H:Hp}{a:ab}{kvs:List (Key×V)}{k:Key}{v:V}(e:H a=Z8 (.dK kvs))(Z:kvs.length<aF):rj H a (kV k) v (upd H a (.dK (jS kvs k v))):=.inl ⟨kvs,k,e,Z9,Z,Z9⟩
theorem rj.t{H:Hp}{a b:ab}{kvs:List (List Key×V)}{k:List Key}{v:V}(e:H a=Z8 (.dT kvs))(Z:H b=Z8 (.t (k.map kV)))(Y:kvs.length<aF) :
  rj H a (.ref b) v (upd H a (.dT (jS kvs k v))):=.inr ⟨kvs,k,b,e,Z9,Z,Y,Z9⟩
section
variable{X:Cx}{pins:List (ab×Obj)}{σ:St}{H:Hp}{s:aj}{a:ab}{y v:V}{u r:ae}{o:Option V}{A:cm}{E:ae->aj->Prop}
theorem Inv.big(I:Inv X pins σ H s):gc<s.heap.objs.size:=iP (by decide) ((I.mod.glob.keeps I.bk).lt)
theorem AE{Q:ae->aj->Prop}(D:A.units+1<iN)(I:Inv X pins σ H s)(g:oZ H a y (Z8 v))(M:RelV y u)(h:∀W s',Inv X pins σ H s'->RelV v W->Q W s') :
  aN (aW X.prog X.w) A (tP (.ref a) u) Q E s:=by
 rcases g with⟨kvs,k,e,V,l⟩|⟨kvs,k,b,e,V,J,l⟩
 ·subst V;obtain⟨z,L,vs,Z,O⟩:=uC I.hok e;obtain⟨W,hw,Y⟩:=ng.some_of (l ▸ Z.val k);exact wpAny_getItem_of (uA M) O.mapOf hw (h W _ (I.tok _) Y)
 ·subst V
  cases (M);obtain⟨z,L,xs,Z,O⟩:=uD I.hok e;obtain⟨W,hw,Y⟩:=ng.some_of (l ▸ Z.val k);obtain⟨p,hp,U⟩:=cX.mp hw;refine wpAny_getItem_heap (mK D) (sj I.hok J) O hp ?_;rw[U];exact h W _ (I.tok _) Y
theorem EE{Q:ae->aj->Prop}(M:A.units+1<iN)(I:Inv X pins σ H s)(g:oZ H a y o)(U:RelV y u)(h:∀s',Inv X pins σ H s'->Q (.bool (!o.isSome)) s') :
  aN (aW X.prog X.w) A (gi .NotIn u (.ref a)) Q E s:=by
 rcases g with⟨kvs,k,e,W,l⟩|⟨kvs,k,b,e,W,O,l⟩
 ·subst W;obtain⟨z,Y,vs,Z,V⟩:=uC I.hok e;refine wpAny_notIn_of (uA U) Y V.mapOf ?_;rw[<- (Z.val k).isSome_eq,<- l];exact h _ (I.tok _)
 ·subst W
  cases (show u=Value.ref b from U);obtain⟨z,Y,xs,Z,V⟩:=uD I.hok e;refine wpAny_notIn_heap (mK M) (sj I.hok O) Y V ?_;have q:=(Z.val k).isSome_eq;rw[AD]at q;rw[<- q,<- l];exact h _ (I.tok _)
theorem zE{h':cz}{t':Nat}{Z:HO}(I:Inv X pins σ H s)(W:Mut (H a))(hs:fX a s.heap h')(Y:∃q,h'.get? a=Z8 q)(new:gE X.prog X.w (upd H a Z) h' a Z) :
  Inv X pins σ (upd H a Z) {s with heap:=h',toks:=t'}:=
 I.write W (.inl rfl) (fun b q hb z=>(hs.2 b hb).trans z) Y new
theorem B5{P:aP}{w:bF}{H':Hp}{h':cz}{kvs:List (Key×V)}{vs:List (Key×ae)}(z:kvs.length<=aF)(Y:(a==gc)=false)(Z:KV kvs vs)(X:h'.DictOf (eF P w) a vs) :
  gE P w H' h' a (.dK kvs):=⟨z,Y,vs,Z,X⟩
theorem AF{H':Hp}{Q:Unit->aj->Prop}(f:A.units+1<iN)(I:Inv X pins σ H s)(g:rj H a y v H')(J:RelV y u)(L:RelV v r)(h:∀s',Inv X pins σ H' s'->Q () s') :
  aN (aW X.prog X.w) A (setItem (.ref a) u r) Q E s:=by
 rcases g with⟨kvs,k,e,V,l,U⟩|⟨kvs,k,b,e,V,M,l,U⟩
 ·subst V U;obtain⟨z,W,vs,Z,O⟩:=dk_of I.hok e;have hz:vs.length<=aF:=by rw[<- Z.length];exact z
  exact wpAny_setItem_pairs (uA J) O fun h' Y hs=>h _ (zE I (e ▸ True.intro) hs (let ⟨q,_,_,hq,_⟩:=Y;⟨q,hq⟩) (B5 (by have:=jC kvs k v;lia) W (Z.put k L) Y))
 ·subst V U
  cases (J);obtain⟨z,W,xs,Z,O⟩:=dt_of I.hok e;have hz:xs.length<=aF:=by rw[<- bQ Z];exact z
  refine wpAny_setItem_heap (hsz:=hz) (mK f) (sj I.hok M) O fun h' Y hs=>h _ (Z0 fun Gz gz=>?_);obtain⟨q,es,ep,hq,h2,d,B,_,t⟩:=Y;refine gz (zE I (e ▸ True.intro) hs ⟨q,hq⟩ {(by have:=jC kvs k v;lia),W,_,(Z.put k M L).keeps fun c ys D=>?_,q,es,ep,hq,h2,d,B,t});rw[aV (cQ D e (fun z=>nomatch z))];exact D
end
section
variable{X:Cx}{pins:List (ab×Obj)}{σ:St}{H:Hp}{s:aj}{a:ab}{kvs:List (Key×V)}{k:Key}{u:ae}{A:cm}{E:ae->aj->Prop}
end
def NoSl(i:cH):Prop:=∀Z iv,wz i false Z iv=operate [Z,iv] (tP Z iv)
theorem EF{prog:aP}{w:bF}{A:cm}{E:ae->aj->Prop}{s:aj}{env:Env}{value slice:cH}{pos:Pos}{T id:String}{Q:ae->aj->Prop}
  (U:yx (.type T) "__getitem__"=pure (Z8 (.builtin id))) (hs:NoSl slice)
  (h:aN (aW prog w) A (eY value env) (fun o X=>aN (aW prog w) A (eY slice env) (fun i Z=>Z.TypeIs o T/\aN (aW prog w) A (tP o i) Q E Z) E X) E s) :
  aN (aW prog w) A (eY (.Subscript value slice pos) env) Q E s:=by
 refine H9 (fo h (fun o X W=>fo W (fun i Z Y=>?_) fun _ _ x=>x) fun _ _ x=>x);obtain⟨V,Y⟩:=Y;refine aa (aa (wpAny_specialOf V U ?_));have fin:aN (aW prog w) A (wz slice false o i) (fun r s₃=>aN (aW prog w) A (letTemporaryGo value o r >>= fun _=>pure r) Q E s₃) E Z:=by
  rw[hs o i];exact wpAny_operating (fo Y (fun r s₃ h₃=>aa (wpAny_letTemporaryGo (af h₃))) fun _ _ x=>x)
 first
  |exact af (aa fin)
  |exact aa (af (aa fin))
  |exact aa fin
theorem wX{X:Cx}{pins:List (ab×Obj)}{σ:St}{H:Hp}{s:aj}{a:ab}{y:V}{o:Option V}(I:Inv X pins σ H s)(g:oZ H a y o):s.TypeIs (.ref a) "dict":=by
 rcases g with⟨kvs,k,e,_,_⟩|⟨kvs,k,b,e,_,_,_⟩
 ·obtain⟨_,_,vs,_,Z⟩:=uC I.hok e;exact Z.typeIs
 ·obtain⟨_,_,xs,_,Z⟩:=uD I.hok e;exact Z.typeIs
inductive DGI(x y:V)(H:Hp)(Q:VK):Prop where
 |mk(a:ab)(v:V)(hx:x=.ref a)(d:oZ H a y (Z8 v))(q:Q v H):DGI x y H Q
def tDGet(td ty:TE):TE:=fun σ H Q=>td σ H fun x H1=>ty σ H1 fun y H2=>DGI x y H2 Q
def EG(ty td:TE):TE:=fun σ H Q=>ty σ H fun y H1=>td σ H1 fun x H2=>∃a o,x=.ref a/\oZ H2 a y o/\Q (.bl (!o.isSome)) H2
def sDPut(td ty tv:TE):TS:=fun D σ H=>tv σ H fun v H1=>td σ H1 fun x H2=>ty σ H2 fun y Y=>∃a Z,x=.ref a/\rj Y a y v Z/\D.nx σ Z
section
variable{X:Cx}{o i e value:cH}{pos pos' tpos:Pos}{td ty tv:TE}
theorem rD(B:X.A.units+1<iN)(D:PE X o td)(hi:PE X i ty)(hs:NoSl i:=by intro _ _;rfl):PE X (.Subscript o i pos) (tDGet td ty):=by
 intro pins s σ H Q I h;refine EF PySem.F.slot_dict_getitem.lookup hs (thn (D pins s σ H _ I h) fun u U ⟨x,H1,V,O,L⟩=>thn (hi pins U σ H1 _ V L) fun iv s2 W=>?_);obtain⟨y,H2,Y,J,a,v,ex,g,z⟩:=W;subst ex;obtain rfl:u=Value.ref a:=O;exact{wX Y g,AE B Y g J fun t r M Z=>⟨v,H2,M,Z,z⟩}
theorem AG(J:X.A.units+1<iN)(hi:PE X i ty)(D:PE X o td):PC X .NotIn i o (EG ty td):=by
 intro pins s σ H Q I h;refine thn (hi pins s σ H _ I h) fun iv Y ⟨y,H1,Z,L,O⟩=>thn (D pins Y σ H1 _ Z O) fun u s2 ⟨x,H2,M,W,a,V,ex,g,B⟩=>?_;subst ex;obtain rfl:u=Value.ref a:=W;exact EE J M g L fun z U=>{.bl (!V.isSome),H2,U,Z9,B}
theorem oP(z:X.A.units+1<iN)(B:PE X o td)(hi:PE X i ty)(hv:PE X value tv)(hs:qU value (Z8 (.Subscript o i pos')) pos.line X.env=pure false) :
  PS X (.Assign [.Subscript o i pos'] value pos) (sDPut td ty tv):=by
 intro pins s σ H D I h;refine wpAny_Assign_Subscript (thn (hv pins s σ H _ I h) fun r W ⟨v,H1,Y,O,M⟩=>thn (B pins W σ H1 _ Y M) fun u s2 ⟨x,H2,L,V,t⟩=>thn (hi pins s2 σ H2 _ L t) fun iv s3 ⟨y,H3,U,J,a,f,ex,g,Z⟩=>?_) hs;subst ex;obtain rfl:u=Value.ref a:=V;exact AF z U g J O fun d q=>⟨σ,f,q,Z⟩
end
theorem B6{P:aP}{w:bF}{H:Hp}(h:cz)(hb:gc<h.objs.size):gE P w H (h.push {cls:=.type "dict",data:=.dict #[]}) h.objs.size (.dK []):=
 {aO _,beq_eq_false_iff_ne.mpr (cE (aG hb)),[],.nil,yd h}
theorem B7{P:aP}{w:bF}{H:Hp}(h:cz)(hb:gc<h.objs.size):gE P w H (h.push {cls:=.type "dict",data:=.dict #[]}) h.objs.size (.dT []):=
 {aO _,beq_eq_false_iff_ne.mpr (cE (aG hb)),[],.nil,_,#[],0,aE _ rfl,⟨Z9,Z9,Z9⟩,Z9,Z9,pe}
def Ie:TE:=fun _ H Q=>∀p,H p=Z7->Q (.ref p) (upd H p (.dK []))
def Ig:TE:=fun _ H Q=>∀p,H p=Z7->Q (.ref p) (upd H p (.dT []))
section
variable{X:Cx}{pos:Pos}
theorem qc:PE X (.Dict [] [] pos) Ie:=fun pins s σ H Q I h=>
 wpAny_Dict_empty {.ref s.heap.objs.size,_,I.laid (t':=s.toks) (fun _ _ q=>aq _ q) (aB _) (B6 s.heap I.big),Z9,h _ (I.hok.fresh (aB _))}
theorem sv:PE X (.Dict [] [] pos) Ig:=fun pins s σ H Q I h=>
 wpAny_Dict_empty {.ref s.heap.objs.size,_,I.laid (a:=s.heap.objs.size) (o:=.dT []) (t':=s.toks) (fun _ _ q=>aq _ q) (aB _) (B7 s.heap I.big),Z9,h _ (I.hok.fresh (aB _))}
end
structure M2(X:Cx)(o:cH)(m:Str)(apos:Pos)(e f:cH)(cpos:Pos):Prop where
 base:gW o m X.env (eY o X.env)=eY o X.env
 few:((jw cpos (cL [e,f] X.env)).all (fun x=>!x.1)&&(jR cpos (gX [] X.env)).all (fun x=>x.1.isSome)
 &&decide (([e,f]:List cH).length+([]:List x9).length+(if ([]:List x9).isEmpty then 0 else 1)<30))=true
 line:(apos.endLine==cpos.line)=true
 trees:jw cpos (cL [e,f] X.env)=[(false,eY e X.env),(false,eY f X.env)]
def IsD(H:Hp)(a:ab):Prop:=(∃kvs,Rd H a (.dK kvs))\/∃kvs,Rd H a (.dT kvs)
theorem Ih{X:Cx}{pins:List (ab×Obj)}{σ:St}{H:Hp}{s:aj}{a:ab}(I:Inv X pins σ H s)(d:IsD H a) :
  s.TypeIs (.ref a) "dict"/\(∀b,Value.ref a=.ref b->∃Z,s.heap.get? b=Z8 Z/\Z.dict=Z7)/\(a==gc)=false:=by
 rcases d with⟨kvs,e⟩|⟨kvs,e⟩
 ·obtain⟨_,W,vs,_,Y⟩:=uC I.hok e;refine{Y.typeIs,fun b q=>?_,W}
  cases q;obtain⟨Z,_,_,h1,h2,_⟩:=Y;exact⟨Z,h1,h2.2.1⟩
 ·obtain⟨_,W,xs,_,Y⟩:=uD I.hok e;refine{Y.typeIs,fun b q=>?_,W}
  cases q;obtain⟨Z,_,_,h1,h2,_⟩:=Y;exact⟨Z,h1,h2.2.1⟩
section
variable{X:Cx}{pins:List (ab×Obj)}{σ:St}{H:Hp}{s:aj}{a:ab}{y d:V}{u r:ae}{o:Option V}{A:cm}{E:ae->aj->Prop}
theorem Ii{Q:ae->aj->Prop}(J:A.units+1<iN)(I:Inv X pins σ H s)(g:oZ H a y o)(M:RelV y u)(U:RelV d r)(h:∀O s',Inv X pins σ H s'->RelV (o.getD d) O->Q O s') :
  aN (aW X.prog X.w) A (pz (.builtin "dict.get") [.ref a,u,r]) Q E s:=by
 rcases g with⟨kvs,k,e,V,l⟩|⟨kvs,k,b,e,V,L,l⟩
 ·subst V;obtain⟨z,W,vs,Z,Y⟩:=uC I.hok e;refine lY ny Y.typeIs vC (uE _ _ _) (meets_dict_get_default (eF X.prog X.w) a (uA M) W r) {_,Y.mapOf,h _ _ (I.tok _) ?_};rw[l];exact (Z.val k).getD U
 ·subst V
  cases (show u=Value.ref b from M);obtain⟨z,W,xs,Z,Y⟩:=uD I.hok e;refine lY ny Y.typeIs vC (uE _ _ _) (meetsH_dict_get_default (oX (eF X.prog X.w)) a b W r) {mK J,k,xs,sj I.hok L,Y,h _ _ (I.tok _) ?_};rw[l];exact (Z.val k).getD U
end
def Ij(td ty tx:TE):TE:=fun σ H Q=>td σ H fun x H1=>∃a,x=.ref a/\IsD H1 a/\ty σ H1 fun y H2=>tx σ H2 fun z Z=>∃o,oZ Z a y o/\Q (o.getD z) Z
section
variable{X:Cx}{o e f:cH}{apos cpos:Pos}{td ty tx:TE}
theorem B8(t:X.A.units+1<iN)(M:PE X o td)(O:PE X e ty)(J:PE X f tx)(m:M2 X o "get" apos e f cpos):PE X (.Call (.Attribute o "get" apos) [e,f] [] cpos) (Ij td ty tx):=by
 intro pins s σ H Q I h;refine wpAny_Call_method m.base m.few m.line ir ny PySem.F.type_dict_get (thn (M pins s σ H _ I h) fun u q ⟨x,H1,Y,D,a,ex,d,q1⟩=>?_);subst ex;obtain rfl:u=Value.ref a:=D;obtain⟨t1,L,_⟩:=Ih Y d;refine{t1,L,?_};rw[m.trees];refine ff rfl (yz (p7 (thn (O pins q σ H1 _ Y q1) fun iv s2 ⟨y,H2,I2,V,q2⟩=>
  p7 (thn (J pins s2 σ H2 _ I2 q2) fun fv s3 ⟨z,U,B,r,ov,g,W⟩=>Bq ?_))))
 exact Ii t B g V r fun w' s4 I4 Z=>{_,U,I4,Z,W}
end
section
variable{X:Cx}{pins:List (ab×Obj)}{σ:St}{H:Hp}{s:aj}{a:ab}{kvs:List (Key×V)}{A:cm}{E:ae->aj->Prop}
end
section
variable{X:Cx}{pins:List (ab×Obj)}{σ:St}{H:Hp}{s:aj}{a:ab}{y:V}{u:ae}{A:cm}{E:ae->aj->Prop}
end
section
variable{X:Cx}
end
section
variable{κ:Type}[DecidableEq κ]
theorem wY{kvs:List (κ×V)}{k:κ}(h:jY kvs k=Z7):¬k∈kvs.map (·.1):=by
 intro m;obtain⟨p,hp,e⟩:=bY.mp m;have q:(kvs.any fun Z=>decide (Z.1=k))=true:=kC.mpr {p,hp,Q3 e};rw[oz,h]at q;exact Q7 q (by simp)
theorem zF{kvs:List (κ×V)}{k:κ}{v:V}(h:jY kvs k=Z8 v):k∈kvs.map (·.1):=by
 have q:(kvs.any fun Z=>decide (Z.1=k))=true:=by
  rw[oz,h]
  all_goals rfl
 obtain⟨p,hp,e⟩:=kC.mp q;exact bY.mpr {p,hp,Q0 e}
theorem vD:∀{l:List κ} {k:κ},l.Nodup->¬k∈l->(l++[k]).Nodup
 | [],k,_,_=>by simp
 |a::r,k,h,hk=>by
  obtain⟨h1,h2⟩:=hW.mp h;refine hW.mpr {fun m=>?_,vD h2 fun m=>hk (aD.mpr (Or.inr m))}
  rcases cj.mp m with q|q
  ·exact h1 q
  ·exact hk (aD.mpr (Or.inl (aH.mp q).symm))
theorem EH{kvs:List (κ×V)}{k:κ}(v:V)(hn:(kvs.map (·.1)).Nodup)(h:jY kvs k=Z7):((jS kvs k v).map (·.1)).Nodup:=by
 rw[oA v h,cq];exact vD hn (wY h)
end
end _L
set_option maxHeartbeats 4000000
namespace _L
open PySem PySem.Spec PyProof.Rows
section
variable{M:Model}{A:cm}{E:ae->aj->Prop}{s:aj}{B:cz}{env:Env}{outer l:List Env}{L e:ab}{cls fl:ae}{Q:Unit->aj->Prop}
end
section
variable{X:Cx}{pins:List (ab×Obj)}{σ:St}{H:Hp}{s:aj}{E E':XK}
end
section
variable{X:Cx}{E:XK}{x:Str}{C:ab}{np cpos pos:Pos}{e₀:cH}{rest:List cH}{ta:TA}{K:ag}{h:cz}
end
section
variable{X:Cx}{pins:List (ab×Obj)}{σ:St}{H:Hp}{s:aj}{T:ab->St->Hp->Prop}
variable{CX:CXT}{k:Nat}{f:ab}{fd:bS}{ps:List Str}{sp:Sp}{E:St->XK}{x:Str}{p pos:Pos}{e:cH}{es:List cH}{t:TA}
end
theorem vE{prog:aP}{w:bF}{A:cm}{R:rV->aj->Prop}{s:aj}{U Z V:cH}{W:List cH}{Y:kE}{pos:Pos}{it X:ae}{env:Env}(J:Nat->aj->Prop)
  (turn:∀n s,J n s->aN (aW prog w) A (fH it) (fun r M=>match r with
   |none=>R (.ok .next) M
   |some v=>aN (aW prog w) A (wM Z it v) (fun _ s2=>aN (aW prog w) A (HP Z env v) (fun _ I=>
     aN (aW prog w) A (forIn W true fun c r=>if r=true then do let ok <- BA c env (eY c env);pure (ForInStep.yield ok) else pure (ForInStep.yield r)) (fun ok O=>
      if ok=true then aN (aW prog w) A (eY U env) (fun x L=>aN (aW prog w) A (pz (.builtin "list.append") [X,x]) (fun _ B=>∃m,m<n/\J m B) (fun _ _=>False) L) (fun _ _=>False) O
      else ∃m,m<n/\J m O) (fun _ _=>False) I) (fun _ _=>False) s2) (fun _ _=>False) M) (fun _ _=>False) s)
  (n:Nat) (h:J n s):iL (aW prog w) A (.compLoop (.ListComp U [{Z,V,W,0}] Y pos) 0 it X env) R s:=by
 refine codeAny_loop rfl J (fun n s y=>wpAny_noted ?_) n h;rw[compTurn_list];refine aa (Ar (aa (fo (turn n s y) (fun r M h1=>?_) fun _ _ z=>z.elim)))
 cases r with
 |none=>exact af h1
 |some v=>
  refine aa (fo h1 (fun _ s2 h2=>aa (fo h2 (fun _ I g=>aa (fo g (fun ok O D=>?_) fun _ _ z=>z.elim)) fun _ _ z=>z.elim)) fun _ _ z=>z.elim)
  cases ok with
  |false=>exact af ⟨Z9,D⟩
  |true=>
   exact aa (aa (fo D (fun x L t=>aa (fo t (fun _ B q=>af (af ⟨Z9,q⟩)) fun _ _ z=>z.elim)) fun _ _ z=>z.elim))
theorem wZ{env:Env}:∀{names:List (Str×kL)} {x:Str},
  (names.map fun (n,k)=>if (k==NameKind.free&&env.scope.kind==.function&&env.kindOf n==Z8 .cell) then (n,NameKind.cell) else (n,k)).lookup x=Z8 .local->names.lookup x=Z8 .local
 | [],_,h=>by simp at h
 |(n,k)::r,x,h=>by
  have Z:=@wZ env r x;rw[ig]at h;dsimp only at h
  by_cases hc:(k==NameKind.free&&env.scope.kind==.function&&env.kindOf n==Z8 .cell)=true
  ·rw[Q6 hc]at h
   cases hx:x==n with
   |true=>simp[eD,hx]at h
   |false=>
    simp only[eD,hx]at h |-;exact Z h
  ·rw[Q5 hc]at h
   cases hx:x==n with
   |true=>
    simp only[eD,hx]at h |-;exact h
   |false=>
    simp only[eD,hx]at h |-;exact Z h
theorem vF{env:Env}:∀{names:List (Str×kL)} {x:Str},
  ((names.map fun (n,k)=>if (k==NameKind.free&&env.scope.kind==.function&&env.kindOf n==Z8 .cell) then (n,NameKind.cell) else (n,k)).lookup x=Z8 .cell \/
   (names.map fun (n,k)=>if (k==NameKind.free&&env.scope.kind==.function&&env.kindOf n==Z8 .cell) then (n,NameKind.cell) else (n,k)).lookup x=Z8 .free)->names.lookup x=Z8 .cell\/names.lookup x=Z8 .free
 | [],_,h=>by simp at h
 |(n,k)::r,x,h=>by
  have Z:=@vF env r x;rw[ig]at h;dsimp only at h
  by_cases hc:(k==NameKind.free&&env.scope.kind==.function&&env.kindOf n==Z8 .cell)=true
  ·rw[Q6 hc]at h;have hk:k=.free:=by simp_all
   cases hx:x==n with
   |true=>
    simp only[eD,hx];rw[hk];exact .inr rfl
   |false=>
    simp only[eD,hx]at h |-;exact Z h
  ·rw[Q5 hc]at h
   cases hx:x==n with
   |true=>
    simp only[eD,hx]at h |-;exact h
   |false=>
    simp only[eD,hx]at h |-;exact Z h
def oB(env:Env):List (Str×kL)->List (Str×ab)->List (Str×ab)
 | [],Z=>Z
 |(n,k)::r,Z=>oB env r (if k=.free then (match env.cells.lookup n with|some c=>(n,c)::Z|none=>Z) else Z)
theorem w6{env:Env}:∀(names:List (Str×kL)) (Z:List (Str×ab)),(∀y∈names,y.2=.free->∃c,env.cells.lookup y.1=Z8 c) ->
  (forIn names Z fun x r=>(do
   if (x.2==NameKind.free)=true then do
    let c <- cellOf env x.1
    pure (ForInStep.yield ((x.1,c)::r))
   else pure (ForInStep.yield r):Sem (ForInStep (List (Str×ab)))))=(pure (oB env names Z):Sem (List (Str×ab)))
 | [],Z,_=>rfl
 |(n,k)::r,Z,h=>by
  have W:=fun Y=>w6 r Y (fun y hy=>h y (bL _ hy));rw[List.forIn_cons]
  by_cases hk:k=.free
  ·subst hk;obtain⟨c,hc⟩:=h _ aU rfl;have e1:cellOf env n=pure c:=by
    unfold cellOf;rw[show env.cells.lookup n=Z8 c from hc]
   have X:oB env ((n,.free)::r) Z=oB env r ((n,c)::Z):=by
    show oB env r (if NameKind.free=.free then (match env.cells.lookup n with|some c=>(n,c)::Z|none=>Z) else Z)=_;rw[Q6 rfl,show env.cells.lookup n=Z8 c from hc]
   rw[X,<- W];simp[e1]
  ·have X:oB env ((n,k)::r) Z=oB env r Z:=by
    show oB env r (if k=.free then _ else Z)=_;rw[Q5 hk]
   rw[X,<- W];have e3:(k==NameKind.free)=false:=by simp_all
   simp[e3]
theorem w8{env:Env}:∀{names:List (Str×kL)} {Y:List (Str×ab)} {n:Str} {c:ab},(∀n c,Y.lookup n=Z8 c->env.cells.lookup n=Z8 c)->(oB env names Y).lookup n=Z8 c->env.cells.lookup n=Z8 c
 | [],_,_,_,h,e=>h _ _ e
 |(m,k)::r,Y,n,c,h,e=>by
  refine w8 (names:=r) (fun X W Z=>?_) e
  by_cases hk:k=.free
  ·rw[Q6 hk]at Z
   cases hm:env.cells.lookup m with
   |none=>
    rw[hm]at Z;exact h _ _ Z
   |some d=>
    rw[hm]at Z;dsimp only at Z;rw[eD]at Z
    split at Z
    ·rename_i z
     rw[eq_of_beq z,hm];exact Z
    ·exact h _ _ Z
  ·rw[Q5 hk]at Z;exact h _ _ Z
theorem uF{env:Env}:∀(names:List (Str×kL)) (Z:List (Str×ab)) (n:Str),(∃c,Z.lookup n=Z8 c)->∃c,(oB env names Z).lookup n=Z8 c
 | [],_,_,h=>h
 |(m,k)::r,Z,n,h=>by
  refine uF r _ n ?_
  by_cases hk:k=.free
  ·rw[Q6 hk]
   cases hm:env.cells.lookup m with
   |none=>exact h
   |some d=>
    dsimp only;rw[eD]
    split
    ·exact{_,Z9}
    ·exact h
  ·rw[Q5 hk];exact h
theorem w9{env:Env}:∀{names:List (Str×kL)} {Z:List (Str×ab)} {n:Str},(n,NameKind.free)∈names->(∃c,env.cells.lookup n=Z8 c)->∃c,(oB env names Z).lookup n=Z8 c
 | [],_,_,h,_=>by cases h
 |(m,k)::r,Z,n,h,hc=>by
  rcases aD.mp h with e|e
  ·obtain⟨e1,Y⟩:=Prod.mk.inj e;subst e1 Y;obtain⟨c,hc⟩:=hc;refine uF r _ n {c,?_};rw[Q6 rfl,hc];rw[eD,beq_self_eq_true]
  ·exact w9 (names:=r) e hc
structure fq(X:Cx)(scope:kE)(NN:List Str):Prop where
 nocell:∀y∈scope.names,y.2≠.cell
 kind:scope.kind=.function
 names:∀y∈scope.names,y.2=.local->scope.names.lookup y.1=Z8 .local
 far:∀y∈scope.names,y.2=.free->X.env.kindOf y.1=Z8 .cell\/X.env.kindOf y.1=Z8 .free
 len:NN.length=X.N.length
 apart:∀(i:Nat) (n:Str),NN[i]?=Z8 n->scope.names.lookup n≠Z8 .local/\(X.N[i]?=Z8 n\/scope.names.lookup n=Z7)
theorem fq.closed{X:Cx}{Z:kE}(Y:∀y∈Z.names,y.2≠.free)(hc:∀y∈Z.names,y.2≠.cell)(hk:Z.kind=.function)(hn:∀y∈Z.names,y.2=.local->Z.names.lookup y.1=Z8 .local)
  (ha:∀n∈X.N,Z.names.lookup n≠Z8 .local):fq X Z X.N where
 nocell:=hc
 kind:=hk
 names:=hn
 far:=fun y hy e=>Q7 e (Y y hy)
 len:=rfl
 apart:=fun i n e=>{ha n (aK e),.inl e}
theorem fq.open{X:Cx}{Z:kE}{NN N:List Str}{sc:kE}(W:X.N=N)(Y:X.env.scope=sc)(hc:∀y∈Z.names,y.2≠.cell)(hk:Z.kind=.function)(hn:∀y∈Z.names,y.2=.local->Z.names.lookup y.1=Z8 .local)
  (O:∀y∈Z.names,y.2=.free->sc.names.lookup y.1=Z8 .cell) (V:NN.length=N.length) (ha:∀p∈NN.zip N,Z.names.lookup p.1≠Z8 .local/\(p.2=p.1\/Z.names.lookup p.1=Z7)):fq X Z NN where
 nocell:=hc
 kind:=hk
 names:=hn
 far:=fun y hy e=>.inl (by have z:=O y hy e;rw[<- Y]at z;exact z)
 len:=W ▸ V
 apart:=fun i n e=>by
  have lt:=V ▸ (ay.mp e).1;have U:=aA lt;have z:=ha (n,N[i]) (aK (by rw[List.getElem?_zip_eq_some];exact⟨e,U⟩));refine{z.1,?_}
  rcases z.2 with z|z
  ·left
   rw[W,U];exact congrArg Z8 z
  ·exact .inr z
abbrev cxC(X:Cx)(Z:kE)(V:List Str)(fp:List ab)(W:aj)(Y:Hp)(C:ab):Cx:=
 {X with N:=V,s₀:=W,H₀:=Y,env:=compEnvC Z (oB X.env Z.names []) C X.env,outer:=X.stack,ex:=fp,fn:=fun _=>false,pn:=[],xe:=fun _ _=>False}
def PTs(X:Cx)(Z:List cH)(t:TT):Prop:=
 ∀(pins:List (ab×Obj)) (s:aj) (σ:St) (H:Hp) (Q:Bool->Hp->Prop),Inv X pins σ H s->t σ H Q ->
  aN (aW X.prog X.w) X.A (forIn Z true fun c r=>if r=true then do let ok <- BA c X.env (eY c X.env);pure (ForInStep.yield ok) else pure (ForInStep.yield r)) (TP X pins σ Q) X.xe s
def qe:TT:=fun _ H Q=>Q true H
theorem gP{X:Cx}:PTs X [] qe:=fun pins s σ H Q I h=>wpAny_tests_nil ⟨H,I,h⟩
theorem zI{X:Cx}{c:cH}{t:TT}(h:PT X c t):PTs X [c] t:=fun pins s σ H Q I q=>wpAny_tests_one (h pins s σ H Q I q)
def m5(n:Nat)(O:TI)(g:TG)(tc:TT)(te:TE):TE:=fun σ H Q=>O σ H fun J H1=>∃W:Nat->Nat->List V->Hp->Prop,(∃m,W 0 m [] H1)/\∀i m ys H,W i m ys H->ys.length<aF /\
 ((J.stop i H/\∀p,H p=Z7->Q (.ref p) (upd H p (.l ys))) \/
  (J.go i H/\∃N:List V->Hp->Prop,(∀Y H',N Y H'->∃U,U<m/\W (i+1) U Y H')/\∀x H',J.yld i H x H'->g x (aQ n Z7++σ) H' fun Z H2=>Z.drop n=σ/\tc Z H2 fun b X=>
   if b=true then te Z X fun y M=>N (ys++[y]) M else N ys X))
section
variable{X:Cx}
theorem xa{σ Z:St}{n:Nat}(h:Z.drop n=σ)(i:Nat)(v:V)(e:(aQ n Z7++σ)[i]?=Z8 (Z8 v)):Z[i]?=Z8 (Z8 v):=by
 by_cases hi:i<n
 ·rw[dy (by simpa using hi),mZ,Q6 hi]at e
  cases cv e
 ·rw[df (by simpa using hi),fA]at e;rw[<- h,Bw]at e;rw[show n+(i-n)=i by omega]at e;exact e
theorem xb{fw U f:cH}{fv:List cH}{Z:kE}{NN:List Str}{pos pos':Pos}{wi:TI}{g:TG}{tc:TT}{te:TE}{gd:Option (ae->Sem Unit)}{Qv:ae->aj->Prop}(own:List Str)(ok:fq X Z NN)(hc:X.calm=true)(hi:PI X U f wi)
  (hg:∀fp d t C,PG (cxC X Z (own++NN) fp d t C) U g) (ht:∀fp d t C,PTs (cxC X Z (own++NN) fp d t C) fv tc) (he:∀fp d t C,PE (cxC X Z (own++NN) fp d t C) fw te)
  (hs:∀x,nG f X.env x=pure x) {pins:List (ab×Obj)} {s:aj} {σ:St} {H:Hp} {Q:VK} (I:Inv X pins σ H s) (h:m5 own.length wi g tc te σ H Q)
  (eo:∀(s4:aj) (C D:ab) (H':Hp) (m:Str->Option ae),s4.heap.Ns C m->Inv X pins σ H' s4->H' C=Z7->C≠X.env.locals->X.s₀.heap.objs.size<=C->(∀x c,X.env.cells.lookup x=Z8 c->c≠C)->(∀p∈X.pn++pins,p.1≠C)->Q (.ref D) H' ->
   compPost (aW X.prog X.w) X.A X.xe gd Qv (.ref D) C (.ok .next) s4) :
  aN (aW X.prog X.w) X.A (comprehension (.ListComp fw [{U,f,fv,0}] Z pos) Z X.env pos' (newList []) false (eY f X.env) gd) Qv X.xe s:=by
 have et:=fun y hy e=>I.ok.has _ (ok.far y hy e);have gq:closureFor Z X.env=pure (oB X.env Z.names []):=by
  unfold closureFor;rw[<- w6 Z.names [] et];simp
 have Y:∀n c,(oB X.env Z.names []).lookup n=Z8 c->X.env.cells.lookup n=Z8 c:=fun n c e=>w8 (fun n c e=>by simp at e) e;have gS:∀n,(Z.names.lookup n=Z8 .cell\/Z.names.lookup n=Z8 .free)->(∃c,(oB X.env Z.names []).lookup n=Z8 c)/\(X.env.kindOf n=Z8 .cell\/X.env.kindOf n=Z8 .free):=fun n e=>by
  rcases e with e|e
  ·exact Q7 rfl (ok.nocell _ (gs e))
  ·have m:=gs e;exact{w9 m (et _ m rfl),ok.far _ m rfl}
 refine wpAny_comprehension_free rfl hs gq ok.kind ok.names (thn (hi pins s σ H _ I h) fun xv s1 h1=>thn h1 fun eb s2 h2=>Z0 fun Gz gz=>?_);obtain⟨it,fp,tn,J,H2,e,M,T,fz,f2,W,⟨m0,w0⟩,turn⟩:=h2;subst e;refine gz ?_;have ha:∀b∈fp,b<s2.heap.objs.size:=fun b hb=>by
  obtain⟨o,e,_⟩:=T.obj _ _ fz b hb;exact aI e
 refine cw (wpAny_newFunctionEnv ok.nocell (by intro y hy;simp at hy) (fun h1 er ge=>?_) ok.kind);generalize hP:s2.heap.push {cls:=.type "list",dict:=Z7,data:=.seq ([]:List ae).toArray}=P at er ge |-;have hC:P.objs.size=s2.heap.objs.size+1:=by rw[<- hP,eA]
 have eq:s2.heap.objs.size≠P.objs.size:=hC ▸ aG (iH _);have hf:s2.heap.objs.size<=P.objs.size:=hC ▸ gO _;have old:=fun b o e=>
  ge.extBut b o (hC ▸ aG (dD (aI e))) (aq _ (hP ▸ aq _ e))
 have ga:(cxC X Z (own++NN) fp s2 H2 P.objs.size).Ok:=by
  refine⟨I.ok.mod,ok.kind,I.ok.glob,I.ok.blt,by show s2.heap.objs.size<=P.objs.size;omega,fun y z c a b=>I.ok.inj y z c (Y _ _ a) (Y _ _ b),fun y hy=>(gS y (vF hy)).1,fun y c z _=>Bool.noConfusion z,I.ok.hd,I.ok.frames,.inl rfl,
   fun b hb=>{fun z=>?_,fun y c e=>(f2 b hb).2.2.2.2.1 y c (Y _ _ e)},M.bs,dh I.ok.bsz M.sz,fun b o e hb=>?_,fun b hb z=>?_,M.stack,M.stkFree⟩
  ·exact aG (aZ (ha b hb) hf) z
  ·rcases (f2 b hb).2.2.2.1 with q|q
   ·exact I.ok.noex b o e q
   ·exact Q7 (aZ (aI e) (dh I.ok.bsz q)) (fh _)
  ·rcases aD.mp (M.stkSub b z) with q|q
   ·exact (f2 b hb).2.1 q
   ·exact (f2 b hb).2.2.1 q
 have fpOk:∀{H':Hp} {o:Obj},(∀b∈fp,H' b=Z7)->∀b∈fp,vp (cxC X Z (own++NN) fp s2 H2 P.objs.size) [(s2.heap.objs.size,o)] H' b:=fun {H' o} hn b hb=>by
  have lt:=ha b hb;refine{hn b hb,fun z=>?_,fun z=>ga.exfs b hb z,.inl hb,fun y c e=>(ga.exf b hb).2 y c e,fun p hp z=>?_}
  ·exact aG (aZ lt hf) z
  ·have gf:p=(s2.heap.objs.size,o):=by simpa using hp
   subst gf;exact aG lt (Eq.symm z)
 have gt:∀y c,(oB X.env Z.names []).lookup y=Z8 c->c<s2.heap.objs.size:=fun y c e=>by
  obtain⟨v,q⟩:=M.cell y c (Y _ _ e);exact q.lt
 have start:Inv (cxC X Z (own++NN) fp s2 H2 P.objs.size) [] (aQ own.length Z7++σ) H2 {s2 with heap:=h1,toks:=s2.toks+([]:List (Str×ae)).length}:=by
  refine{ga,Z9,M.bare,Un.kept old,{_,er,fun i y v e1 e2 e3=>?_},fun y c e=>?_,M.hok.fresh (by show s2.heap.objs.size<=P.objs.size;omega),fun y c e=>M.freeC y c (Y _ _ e),fun p hp=>Q7 (show p∈([]:List (ab×Obj)) from by simpa using hp) (by simp),M.hok.kept old,?_}
  ·by_cases hi:i<own.length
   ·rw[dy (by simpa using hi),mZ,Q6 hi]at e2;exfalso
    cases cv e2
   ·have ei:NN[i-own.length]?=Z8 y:=by
     have z:=e1;rw[df (by lia)]at z;exact z
    rw[df (by simpa using hi),fA]at e2;obtain⟨eg,ec⟩:=ok.apart _ y ei
    rcases e3 with e3|e3
    ·exact Q7 (wZ e3) eg
    ·obtain⟨⟨c,en⟩,kc⟩:=gS y (vF e3);have ee:X.N[i-own.length]?=Z8 y:=by
      rcases ec with z|z
      ·exact z
      ·rcases vF e3 with q|q<;>(rw[z]at q;cases q)
     obtain⟨m,hn,hl⟩:=M.loc;obtain⟨u,r,l⟩:=hl (i-own.length) y v ee e2 (.inr kc);refine{u,r,.inr {e3,c,en,?_}}
     rcases l with⟨l,_⟩|⟨_,c',e',q⟩
     ·rcases kc with kc|kc<;>(rw[l]at kc;exfalso;cases kc)
     ·rw[Y _ _ en]at e';injection e' with e';subst e';exact q.keeps old
  ·obtain⟨v,q⟩:=M.cell y c (Y _ _ e);exact{v,q.keeps old}
  ·show (aQ own.length Z7++σ).length=(own++NN).length;rw[aL,aL,fA,M.len,ok.len]
 have gp:=eq;have ej:s2.heap.objs.size∉frs X.stack:=fun z=>by
  rcases aD.mp (M.stkSub _ z) with q|q
  ·exact aG M.lt (Eq.symm q)
  ·exact M.nofs (aB _) q
 have gn:∀s₃:aj,s₃={s2 with heap:=h1,toks:=s2.toks+([]:List (Str×ae)).length} ->
   iL (aW X.prog X.w) X.A (.compLoop (.ListComp fw [{U,f,fv,0}] Z pos) 0 (.ref it) (.ref s2.heap.objs.size) (compEnvC Z (oB X.env Z.names []) P.objs.size X.env))
    (compPost (aW X.prog X.w) X.A X.xe gd Qv (.ref s2.heap.objs.size) P.objs.size) s₃:=by
  rintro s₃ rfl;refine vE (fun n s'=>∃(i:Nat) (ys:List V) (H':Hp) (its:List ae) (k:Nat),Inv (cxC X Z (own++NN) fp s2 H2 P.objs.size) [] (aQ own.length Z7++σ) H' s'/\tn i s'.heap/\(∀b∈fp,H' b=Z7)/\H' s2.heap.objs.size=Z7/\dU ys its /\
   s'.heap.get? s2.heap.objs.size=Z8 {cls:=.type "list",data:=.seq its.toArray k}/\W i n ys H') ?_ m0
   {0,[],H2,[],0,start,T.keep _ _ _ fz (fun b _ o e=>old b o e),fun b hb=>(f2 b hb).1,M.hok.fresh (aB _),.nil,(ge.extBut _ _ eq (aq _ (hP ▸ aE _ rfl))),w0}
  intro n s3 qz;refine Z0 fun Gz gz=>?_;obtain⟨i,ys,H3,its,k,I3,ez,eH,nD,rv,hD,w3⟩:=qz;refine gz ?_;have Ip:Inv (cxC X Z (own++NN) fp s2 H2 P.objs.size) [(s2.heap.objs.size,{cls:=.type "list",data:=.seq its.toArray k})] (aQ own.length Z7++σ) H3 s3:=I3.pins_of fun p hp=>by
   have gf:p=(s2.heap.objs.size,{cls:=.type "list",data:=.seq its.toArray k}):=by simpa using hp
   subst gf;exact{hD,nD,gp,ej,fun v z=>by cases z}
  obtain⟨hl,hw⟩:=turn i n ys H3 w3
  rcases hw with⟨ey,fin⟩|⟨go,N,hN,step⟩
  ·refine thn (T.done (cxC X Z (own++NN) fp s2 H2 P.objs.size) rfl rfl rfl hc i _ s3 _ H3 _ Ip (fpOk eH) ez ey) fun r s4 z=>?_;refine Z0 fun Gz gz=>?_;obtain⟨hr,I4⟩:=z;subst hr;obtain⟨m,hn,_⟩:=I4.loc;obtain⟨h',ev⟩:∃h',h'=s4.heap:={_,Z9};have gw:∀b o,b≠P.objs.size->s4.heap.get? b=Z8 o->h'.get? b=Z8 o:=fun b o hb e=>ev ▸ e;have L:∀b o,s2.heap.get? b=Z8 o->b≠P.objs.size/\b≠s2.heap.objs.size:=fun b o e=>by
    have lt:=aI e;exact{aG (aZ lt hf),aG lt}
   have O:∀b u,H3 b=Z8 u->b≠P.objs.size/\b≠s2.heap.objs.size:=fun b u e=>by
    refine{fun z=>?_,fun z=>?_}
    ·have q:H3 P.objs.size=Z7:=I4.free;rw[<- z,e]at q
     cases q
    ·rw[z,nD]at e
     cases e
   have un:Un (frs X.stack) fp H2 (upd H3 s2.heap.objs.size (.l ys)) s2.heap h':=by
    have B:=I4.base;refine{fun b o e q hb hx=>gw b o (L b o e).1 (B.keep b o e q hb hx),fun b o e q hb hx=>?_,fun b o e q hx=>?_,fun b o e hx=>?_,fun b xs e=>?_,fun b o u e=>?_,fun b ps e=>?_}
    ·obtain⟨sl,e1⟩:=B.slot b o e q hb hx;exact{sl,gw _ _ (L b o e).1 e1}
    ·rw[aV (L b o e).2];exact B.free b o e q hx
    ·obtain⟨o',e1⟩:=B.there b o e hx;exact{o',gw _ _ (L b o e).1 e1}
    ·have q:=B.tups b xs e;rw[aV (O _ _ q).2];exact q
    ·have q:=B.frzs b o u e;rw[aV (O _ _ q).2];exact q
    ·obtain⟨more,q⟩:=B.tbls b ps e;refine{more,?_};rw[aV (O _ _ q).2];exact q
   have ek:HOk X.prog X.w (upd H3 s2.heap.objs.size (.l ys)) h':=fun b u e=>by
    by_cases hb:b=s2.heap.objs.size
    ·subst hb;rw[ai]at e;injection e with e;subst e;exact{nY hl,its,k,rv,gw _ _ gp ((I4.pin _ (cT _ aU)).1)}
    ·rw[aV hb]at e;refine (I4.hok b u e).stay (fun c v hc q=>gw c v ?_ q) (fun c q=>?_) fun c xs q=>?_
     ·rcases hc with z|z
      ·rw[z];exact (O _ _ e).1
      ·exact (O _ _ z).1
     ·rw[aV (O _ _ q).2];exact q
     ·rw[aV (O _ _ q).2];exact q
   have J:=M.call' (s':={s4 with heap:=h'}) I4.os un ek I4.bare fun b hb=>{(f2 b hb).2.2.2.1,(f2 b hb).2.1,(f2 b hb).2.2.2.2.1,(f2 b hb).2.2.2.2.2};subst ev;refine gz (eo s4 P.objs.size s2.heap.objs.size (upd H3 s2.heap.objs.size (.l ys)) m hn J ?_ ?_ ?_ (fun y c e=>?_) (fun q hq=>?_) (fin _ nD))
   ·rw[aV gp.symm];exact I4.free
   ·exact gI (aZ M.lt hf)
   ·exact dh M.sz hf
   ·obtain⟨v,z⟩:=M.cell y c e;exact aG (aZ z.lt hf)
   ·exact aG (aZ (aI (M.pin q hq).1) hf)
  ·refine thn (T.item (cxC X Z (own++NN) fp s2 H2 P.objs.size) rfl rfl rfl hc i _ s3 _ H3 _ Ip (fpOk eH) ez go) fun r s4 z=>?_;obtain⟨u,hr,h4⟩:=z;subst hr;refine thn h4 fun _ s5 z=>Z0 fun Gz gz=>?_;obtain⟨x,H5,I5,r5,y5,fa,el⟩:=z;refine gz (thn (hg fp s2 H2 P.objs.size _ s5 _ H5 x u _ (I5.pinned (fpOk el) (T.obj _ _ fa)) r5 (step x H5 y5)) fun _ s6 z=>Z0 fun Gz gz=>?_);obtain⟨gv,H6,I6,ew,q6⟩:=z;refine gz (thn (ht fp s2 H2 P.objs.size _ s6 gv H6 _ I6 q6) fun ed s7 z=>?_);obtain⟨H7,I7,q7⟩:=z;have gg:∀{H8:Hp} {s8:aj},Inv (cxC X Z (own++NN) fp s2 H2 P.objs.size) ([(s2.heap.objs.size,{cls:=.type "list",data:=.seq its.toArray k})]++qB fp s5.heap) gv H8 s8 ->
     s8.heap.get? s2.heap.objs.size=Z8 {cls:=.type "list",data:=.seq its.toArray k}/\H8 s2.heap.objs.size=Z7:=fun I8=>by
    have z:=I8.pin (s2.heap.objs.size,{cls:=.type "list",data:=.seq its.toArray k}) (cT _ (o6 _ aU));exact⟨z.1,z.2.1⟩
   have gh:∀{H8:Hp} {s8:aj},Inv (cxC X Z (own++NN) fp s2 H2 P.objs.size) ([(s2.heap.objs.size,{cls:=.type "list",data:=.seq its.toArray k})]++qB fp s5.heap) gv H8 s8 ->
     tn (i+1) s8.heap/\∀b∈fp,H8 b=Z7:=fun {H8 s8} I8=>by
    refine{T.keep _ _ _ fa fun b hb o e=>(I8.pin (b,o) (cT _ (cT _ (mC hb e)))).1,fun b hb=>?_};obtain⟨o,e,_⟩:=T.obj _ _ fa b hb;exact (I8.pin (b,o) (cT _ (cT _ (mC hb e)))).2.1
   have gl:(aQ own.length Z7++σ).length=gv.length:=by rw[I6.len,start.len]
   cases ed with
   |false=>
    refine Z0 fun Gz gz=>?_;obtain⟨m',lt,w'⟩:=hN _ _ (q7);obtain⟨d1,d2⟩:=gg I7;obtain⟨p1,p2⟩:=gh I7;exact gz ({m',lt,i+1,ys,H7,its,k,(I7.pins_of (fun p hp=>Q7 hp (by simp))).weak gl (xa ew),p1,p2,d2,rv,d1,w'})
   |true=>
    refine thn (he fp s2 H2 P.objs.size _ s7 gv H7 _ I7 q7) fun v8 s8 z=>Z0 fun Gz gz=>?_;obtain⟨y,H8,I8,r8,n8⟩:=z;obtain⟨m',lt,w'⟩:=hN _ _ n8;obtain⟨d1,d2⟩:=gg I8;obtain⟨p1,p2⟩:=gh I8;refine gz (append_at (hsz:=by rw[bj,<- rv.length];exact nY hl) d1 fun h9 sb em=>{m',lt,i+1,ys++[y],H8,its++[v8],k+1,((I8.pins_of (fun p hp=>Q7 hp (by simp))).turned (t':=s8.toks) (fun b o hb e=>sb.extBut b o hb e) d2 gp (.inr (aB _)) (fun y c e=>aG (gt y c e)) (fun p hp=>Q7 hp (by simp))).weak gl (xa ew),T.keep _ _ _ p1 (fun b hb o e=>sb.extBut b o (aG (ha b hb)) e),p2,d2,rv.append (.cons r8 .nil),?_,w'});rw[em,List.push_toArray]
 exact codeAny_compStart_list (gn _ rfl) (T.self X.A 0 _ _ _ (T.keep _ _ _ fz (fun b _ o e=>old b o e)) (gn _ rfl))
theorem ij{M Y U:cH}{O:List cH}{Z:kE}{NN:List Str}{pos:Pos}{L:TI}{g:TG}{tc:TT}{te:TE}(own:List Str)(ok:fq X Z NN)(hc:X.calm=true)(hi:PI X Y U L)
  (t:∀fp V W C,PG (cxC X Z (own++NN) fp V W C) Y g) (r:∀fp V W C,PTs (cxC X Z (own++NN) fp V W C) O tc) (he:∀fp V W C,PE (cxC X Z (own++NN) fp V W C) M te)
  (hs:∀x,nG U X.env x=pure x:=by intro _;rfl):PE X (.ListComp M [{Y,U,O,0}] Z pos) (m5 own.length L g tc te):=by
 intro pins s σ H Q I h;exact xb own ok hc hi t r he hs I h fun B C D H' m hn J z d y n4 f q=>{m,hn,fun h' sb=>{.ref D,H',J.turned (t':=B.toks) (fun b o hb e=>sb.extBut b o hb e) z d (.inr y) n4 f,Z9,q}}
theorem rG{M Y U:cH}{L:List cH}{Z:kE}{NN:List Str}{pos pos' O:Pos}{wi:TI}{g:TG}{tc:TT}{te:TE}{i:Nat}{x:Str}(own:List Str)(ok:fq X Z NN)(hc:X.calm=true)(hN:X.N.Nodup)(y:X.N[i]?=Z8 x)(hx:Loc X.env.scope x)(hi:PI X Y U wi)
  (hg:∀fp W V C,PG (cxC X Z (own++NN) fp W V C) Y g) (ht:∀fp W V C,PTs (cxC X Z (own++NN) fp W V C) L tc) (he:∀fp W V C,PE (cxC X Z (own++NN) fp W V C) M te)
  (hs:∀x,nG U X.env x=pure x:=by intro _;rfl) (hf:autoParam (X.fn x=true\/X.env.scope.names.lookup x=Z8 .local) uh._auto_1)
  (t:qU (.ListComp M [{Y,U,L,0}] Z pos) (Z8 (.Name x pos')) O.line X.env=pure true:=by rfl):PS X (.Assign [.Name x pos'] (.ListComp M [{Y,U,L,0}] Z pos) O) (BE (m5 own.length wi g tc te) (pW i)):=by
 intro pins s σ H D I h;rw[exec_Assign_Name_used _ _ _ _ t];refine aa (Ar (aa (aa (fo (xb own ok hc hi hg ht he hs I h fun s4 C d H' m hn J n1 f n3 r n5 q=>Jn (uh J hN y hx (show RelV (.ref d) (.ref d) from rfl) (fun s' J' z=>?_) hf)) (fun _ s' hq=>af (af hq)) fun _ _ e=>e))));obtain⟨a,sb,ha⟩:=z;have na:C≠a:=by
  rcases ha with ha|ha
  ·rw[ha];exact f
  ·exact (r x a ha).symm
 refine{m,hn.at' fun o e=>sb.extBut C o na e,fun h' B=>{_,H',J'.turned (t':=s'.toks) (fun b o hb e=>B.extBut b o hb e) n1 f (.inr n3) r n5,q}}
end
section
variable{K:ag}{a:ab}{xs:List V}{n:Nat}{g:TG}{tc:TT}{te:TE}{σ:St}{H:Hp}{Q:VK}
theorem lZ(Y:Nat->List V->Hp->Prop)(h0:Y 0 [] H)(D:∀i ys H,i<=xs.length->Y i ys H->SqL K H a xs/\ys.length<aF)
  (hs:∀i x ys H,xs[i]?=Z8 x->Y i ys H->g x (aQ n Z7++σ) H fun Z H2=>Z.drop n=σ/\tc Z H2 fun b O=>if b=true then te Z O fun y M=>Y (i+1) (ys++[y]) M else Y (i+1) ys O)
  (J:∀ys H,Y xs.length ys H->∀p,H p=Z7->Q (.ref p) (upd H p (.l ys))) :
  ∃W:Nat->Nat->List V->Hp->Prop,(∃m,W 0 m [] H)/\∀i m ys H,W i m ys H->ys.length<aF/\(((Itl K a).stop i H/\∀p,H p=Z7->Q (.ref p) (upd H p (.l ys))) \/
   ((Itl K a).go i H/\∃N:List V->Hp->Prop,(∀X H',N X H'->∃L,L<m/\W (i+1) L X H')/\∀x H',(Itl K a).yld i H x H'->g x (aQ n Z7++σ) H' fun Z H2=>Z.drop n=σ/\tc Z H2 fun b O=>
    if b=true then te Z O fun y M=>N (ys++[y]) M else N ys O)):=by
 refine{fun i m ys H=>m=xs.length-i/\i<=xs.length/\Y i ys H,{xs.length,by simp,aO _,h0},?_};rintro i m ys H ⟨rfl,hi,p⟩;obtain⟨q,z⟩:=D i ys H hi p;refine{z,?_}
 by_cases U:i<xs.length
 ·refine .inr {{xs,xs[i],q,by simp[U]},Y (i+1),fun X H' I=>{xs.length-(i+1),by lia,Z9,U,I},fun x H' y=>?_};obtain⟨e,y⟩:=y;subst e;exact hs i x ys _ (y xs q) p
 ·have e:i=xs.length:=by lia
  subst e;exact .inl {{xs,q,aB _},J ys H p}
theorem B9(Y:Nat->List V->Hp->Prop)(h0:Y 0 [] H)(D:∀i ys H,i<=xs.length->Y i ys H->SqT K H a xs/\ys.length<aF)
  (hs:∀i x ys H,xs[i]?=Z8 x->Y i ys H->g x (aQ n Z7++σ) H fun Z H2=>Z.drop n=σ/\tc Z H2 fun b O=>if b=true then te Z O fun y M=>Y (i+1) (ys++[y]) M else Y (i+1) ys O)
  (J:∀ys H,Y xs.length ys H->∀p,H p=Z7->Q (.ref p) (upd H p (.l ys))) :
  ∃W:Nat->Nat->List V->Hp->Prop,(∃m,W 0 m [] H)/\∀i m ys H,W i m ys H->ys.length<aF/\(((Itt K a).stop i H/\∀p,H p=Z7->Q (.ref p) (upd H p (.l ys))) \/
   ((Itt K a).go i H/\∃N:List V->Hp->Prop,(∀X H',N X H'->∃L,L<m/\W (i+1) L X H')/\∀x H',(Itt K a).yld i H x H'->g x (aQ n Z7++σ) H' fun Z H2=>Z.drop n=σ/\tc Z H2 fun b O=>
    if b=true then te Z O fun y M=>N (ys++[y]) M else N ys O)):=by
 refine{fun i m ys H=>m=xs.length-i/\i<=xs.length/\Y i ys H,{xs.length,by simp,aO _,h0},?_};rintro i m ys H ⟨rfl,hi,p⟩;obtain⟨q,z⟩:=D i ys H hi p;refine{z,?_}
 by_cases U:i<xs.length
 ·refine .inr {{xs,xs[i],q,by simp[U]},Y (i+1),fun X H' I=>{xs.length-(i+1),by lia,Z9,U,I},fun x H' y=>?_};obtain⟨e,y⟩:=y;subst e;exact hs i x ys _ (y xs q) p
 ·have e:i=xs.length:=by lia
  subst e;exact .inl {{xs,q,aB _},J ys H p}
end
end _L
namespace PySem
theorem vG:yx (.type "list") "keys"=pure Z7:=by rw[xc,qf];kernel_rfl
theorem xf:tS Jq "dict.update.loop"=Z8 fi.«dict.update.loop»:=entryFor_of_tree (by kernel_rfl)
section
variable{prog:aP}{w:bF}{A:cm}{E:ae->aj->Prop}{s:aj}
theorem EI{a:ab}{xs:Array ae}{k:Nat}{V:Array (Option ae)}{Q:Option ae->aj->Prop}(hx:s.heap.get? a=Z8 {cls:=.type "list",dict:=Z7,data:=.seq xs k,slots:=V})(O:A.handled=Z7)
  (h:∀h' tk,(∀b o,s.heap.get? b=Z8 o->h'.get? b=Z8 o)->Q Z7 {s with heap:=h',toks:=tk}):aN (aW prog w) A (getAttr? (.ref a) "keys") Q E s:=by
 obtain⟨hp,g,d,tk,X⟩:=s;have W:∀Z,(⟨hp,g,d,Z,X⟩:aj).TypeIs (.ref a) "list":=fun _=>{_,hx,Z9};have f1:=sub_AttributeError;have L:=F.slot_list_getattribute.lookup;have M:=am_list_getattr_none;have go:∀(u:Tok) (tk:Nat) (Q:ae->aj->Prop) (E:ae->aj->Prop),(∀h' Z e,Heap.NewAttrErr hp h' e (.ref a) "keys"->E (.ref e) ⟨h',g,d,Z,X⟩)->aN (aW prog w) A (pz (Value.builtin "list.__getattribute__") [.ref a,.str "keys" u]) Q E ⟨hp,g,d,tk,X⟩:=fun u tk Q E U=>
  sd F.slot_list_getattribute (W _) am_entry_list_getattribute (F.args_list_getattribute_2 _ _) (meets_getattribute_miss_list a xs k V "keys" _ vG (by decide +kernel)) {hx,O,fun h' Z e Y=>U h' Z e Y}
 repeat (any_goals (first|assumption|exact W _|refine go _ _ _ _ (fun h' Z e Y=>?_)|wp_step))
 obtain⟨t',I,J⟩:=Y.there
 repeat (any_goals (first|assumption|wp_step))
 exact h _ _ Y.keeps
def yA{prog:aP}{w:bF}{K:Type}[DecidableEq K](knd:KeyKind prog w K)(h:cz)(p:K×ae)(x:ae):Prop:=
 ∃(a:ab) (Z:ae) (o:Obj) (n:Nat),x=.ref a/\h.get? a=Z8 o/\o.cls=.type "tuple"/\o.data=.seq #[Z,p.2] n/\knd.is p.1 Z=true
variable{K:Type}[DecidableEq K]{knd:KeyKind prog w K}
theorem Ca{a:ab}{o:Obj}{n:Nat}{k v:ae}{Q:List ae->aj->Prop}(Z:s.heap.get? a=Z8 o)(hc:o.cls=.type "tuple")(Y:o.data=.seq #[k,v] n)(h:Q [k,v] s):aN (aW prog w) A (Builtin.Dict.pairItems (.ref a)) Q E s:=aa (tT (⟨o,Z,hc⟩) (aa (gx Z Y (af h))))
theorem zJ{R:rV->aj->Prop}{it l d:ab}{items:Array ae}{Z:ae}(hA:A.handled=Z7)(hl:l≠d)(hi:it≠d)(M:it≠l):∀(ps:List (K×ae)) (i:Nat) (kvs:List (K×ae)) (s:aj) (t:Tok) (z:Int),
  s.heap.IsListIter it l i->s.heap.IsList l items->s.heap.DictOf knd d kvs->bM (fun p x=>yA knd s.heap p x/\x≠.ref d/\x≠.ref it) ps (items.toList.drop i)->kvs.length+ps.length<=aF ->
  (∀h' tk,h'.DictOf knd d (ps.foldl (fun m p=>vB m p.1 p.2) kvs)->(∀b o,b≠d->b≠it->s.heap.get? b=Z8 o->h'.get? b=Z8 o)->R (.ok (.ret Z)) {s with heap:=h',toks:=tk}) ->
  iL (aW prog w) A (.builtin "dict.update.loop" {[.ref d,.ref it,.int z t,Z],[]}) R s
 | [],i,kvs,s,t,z,W,Y,y,hp,hz,h=>by
  have J:items.toList.drop i=[]:=d9.mp (hp.length).symm;have hx:items[i]?=Z7:=by
   exact fg (List.drop_eq_nil_iff.mp J)
  refine dJ xf ?_;unfold fi.«dict.update.loop»;refine aa (Eg hA W Y hx fun h' eb=>aa (af (af (h h' _ (y.extBut eb hi.symm) fun b o _ hb e=>eb b o hb e))))
 |p::ps,i,kvs,s,t,z,W,Y,y,hp,hz,h=>by
  cases e0:items.toList.drop i with
  |nil=>
   rw[e0]at hp;exfalso
   cases hp
  |cons x r=>
   rw[e0]at hp
   cases hp with
   |cons h1 h2=>
    refine Z0 fun Gz gz=>?_;obtain⟨⟨a,kv,o,n,rfl,ho,hc,co,hk⟩,nd,ni⟩:=h1;refine gz ?_;have hx:items[i]?=Z8 (.ref a):=by
     have e:=congrArg (fun l=>l[0]?) e0;simpa using e
    have hr:items.toList.drop (i+1)=r:=by
     simpa using (congrArg List.tail e0)
    refine dJ xf ?_;unfold fi.«dict.update.loop»;refine aa (BG W Y hx fun ck U sb=>aa (c8 (aa (gy (Ca ((sb.2 a (fun q=>ni (by rw[q]))).trans ho) hc co (c8 (wpAny_dictSet_pairs hk (y.extBut sb.extBut hi.symm) (fun cs cu D=>af {qx _ (by decide +kernel),?_}) (by simp at hz;lia))))))));have keep:=fun b B V X e=>D.extBut b B V (sb.extBut b B X e);refine zJ (items:=items) hA hl hi M ps (i+1) (vB kvs p.1 p.2) {s with heap:=cs,toks:=s.toks+1} _ _ ?_ ?_ cu ?_ ?_ ?_
    ·obtain⟨oi,ei,ci,di⟩:=U;exact{oi,D.extBut it oi hi ei,ci,di}
    ·obtain⟨ol,el,cl⟩:=Y;exact{ol,keep l ol hl M.symm el,cl}
    ·rw[hr];clear e0 hr h hz y W U Y
     induction h2 with
     |nil=>exact .nil
     |cons q1 q2 ih=>
      refine .cons (Z0 fun Gz gz=>?_) ih;obtain⟨⟨a',g,o',n',rfl,f,cp,L,cn⟩,I,O⟩:=q1;exact gz ({{a',g,o',n',Z9,keep a' o' (fun q=>I (by rw[q])) (fun q=>O (by rw[q])) f,cp,L,cn},I,O})
    ·have hs:(vB kvs p.1 p.2).length<=kvs.length+1:=by
      unfold vB
      split
      ·rw[ak]
       lia
      ·simp
     simp at hz
     lia
    ·intro h' tk cr k';exact h h' tk cr fun b B V X e=>k' b B V X (keep b B V X e)
theorem EJ{l:ab}{items:Array ae}{k:Nat}{d:Array (Option ae)}{ps:List (K×ae)}{Q:ae->aj->Prop}(B:A.handled=Z7)(hx:s.heap.get? l=Z8 {cls:=.type "list",dict:=Z7,data:=.seq items k,slots:=d})
  (hp:bM (yA knd s.heap) ps items.toList) (hz:ps.length<=aF)
  (h:∀h' tk,h'.DictOf knd s.heap.objs.size (ps.foldl (fun m p=>vB m p.1 p.2) [])->(∀b o,s.heap.get? b=Z8 o->h'.get? b=Z8 o)->Q (.ref s.heap.objs.size) {s with heap:=h',toks:=tk}) :
  aN (aW prog w) A (pz (.type "dict") [.ref l]) Q E s:=by
 refine callType_codes (Q₁:=fun obj z=>obj=.ref s.heap.objs.size/\z={s with heap:=s.heap.push {cls:=.type "dict",data:=.dict #[]}}) F.kt_called_dict (F.kt_typeCall_dict_1 _) F.entry_dict_init (kt_code_dict_new _ ⟨Z9,Z9⟩) ?_;rintro obj z ⟨rfl,rfl⟩;have Z:(s.heap.push {cls:=.type "dict",data:=.dict #[]}).DictOf knd s.heap.objs.size []:=yd s.heap;have O:∀b o,s.heap.get? b=Z8 o->(s.heap.push {cls:=.type "dict",data:=.dict #[]}).get? b=Z8 o:=fun b o e=>aq _ e;have X:=aI hx;refine{Z.typeIs,F.args_dict_init_2 _ _,aa (aa (kX Z.typeIs (af ?_)))};show aN _ _ (Builtin.Dict.updateFrom "dict.__init__" s.heap.objs.size (.ref l) [] .none) _ _ _;refine aa (tT ({_,O _ _ hx,Z9}) (aa (EI (O _ _ hx) B fun h1 J U=>aa (pD (aa ?_)))));have V:h1.IsList l items:={_,U _ _ (O _ _ hx),Z9,k,Z9};refine kH (s:={s with heap:=h1,toks:=J}) V ?_;have Y:s.heap.objs.size<h1.objs.size:=by
  refine Z0 fun g L=>?_;obtain⟨o,_,_,e,_⟩:=Z;exact L (aI (U _ _ e))
 have W:∀b o,s.heap.get? b=Z8 o->(h1.push {cls:=.type "list_iterator",data:=.fields #[.ref l,.int 0 0]}).get? b=Z8 o:=fun b o e=>aq _ (U _ _ (O _ _ e));refine af {qx _ (by decide +kernel),zJ (A:=A.in1) (knd:=knd) (items:=items) B (aG X) (gI Y) (gI (iP X Y)) ps 0 [] _ _ _ ?_ ?_ ?_ ?_ ?_ ?_}
 ·exact{_,aE _ rfl,Z9,Z9}
 ·exact V.push _
 ·obtain⟨o,es,ep,e,r⟩:=Z;exact{o,es,ep,aq _ (U _ _ e),r}
 ·rw[List.drop_zero];clear h hz;generalize items.toList=xs at hp
  induction hp with
  |nil=>exact .nil
  |cons f q2 ih=>
   refine .cons (Z0 fun g L=>?_) ih;obtain⟨a,y,o,n,rfl,D,hc,M,hk⟩:=f;refine L ?_;have I:=aI D;refine{{a,y,o,n,Z9,W _ _ D,hc,M,hk},fun q=>?_,fun q=>?_}
   ·injection q with q;exact aG I q
   ·injection q with q;exact aG (iP I Y) q
 ·simpa using hz
 ·intro h' tk M t;refine{Z9,h h' tk M fun b o e=>t b o ?_ ?_ (W b o e)}
  ·exact aG (aI e)
  ·exact aG (iP (aI e) Y)
end
end PySem
namespace _L
open PySem PySem.Spec PyProof.Rows
section
variable{X:Cx}
theorem AH{n:Nat}(h:n<2^64):n.log2<9000:=by
 by_cases z:n=0
 ·subst z;decide
 ·exact iP ((Nat.log2_lt z).mpr h) (by decide)
def F3(_ j:Int):Prop:=0<j/\j<2^64
theorem sx:OpR X (kJ .FloorDiv) (rI F3 fun i j=>.int (i/j)):=opI fun i j _ _ _ _ _ hc q=>by
 have h1:=hc.1;have h2:=hc.2;exact floordiv_int (by omega) (by rw[vt i (by omega)];exact q) (.inl (PyProof.noPylong_of_log2 (AH (by omega))))
theorem EK:OpR X (kJ .Mult) (rI IntMulOk fun i j=>.int (i*j)):=opI fun _ _ _ _ _ _ _ hc q=>mul_int q hc
theorem kj:kN X (.builtin "isinstance") (fun xs H Q=>∃x n t b,xs=[x,.ty n]/\qE X.K H x t/\gJ X.K t (.type n)=Z8 b/\Q (.bl b) H):=by
 intro pins s σ H xs us Q I r h;obtain⟨x,n,t,b,rfl,ty,e,q⟩:=h;obtain⟨u,Y,rfl,Z,rt⟩:=vals2 r
 cases (rt);exact AA I Z ty e fun tk=>{.bl b,H,I.tok _,Z9,q}
def vH(H:Hp):List (Key×V)->List V->Prop:=bM fun (p:Key×V) x=>∃a,x=V.ref a/\H a=Z8 (.t [kV p.1,p.2])
theorem Cb{P:aP}{w:bF}{H:Hp}{h:cz}(ok:HOk P w H h):∀{ps:List (Key×V)} {vs:List V} {us:List ae},vH H ps vs->dU vs us->∃qs:List (Key×ae),KV ps qs/\bM (yA (eF P w) h) qs us:=by
 intro ps vs us r
 induction r generalizing us with
 |nil=>
  intro v
  cases v;exact{[],.nil,.nil}
 |@cons p x ps vs L q X=>
  intro v
  cases v with
  |cons U B=>
   refine Z0 fun t y=>?_;obtain⟨a,rfl,ha⟩:=L;obtain⟨qs,I,z⟩:=X B;subst U;obtain⟨_,its,M,o,D,hc,n,Y⟩:=(ok a _ ha);obtain⟨J,W,rfl,O,Z⟩:=vals2 M;exact y ({(p.1,W)::qs,.cons ⟨Z9,Z⟩ I,.cons {a,J,o,n,Z9,D,hc,Y,uA O} z})
theorem EL{ps:List (Key×V)}{qs:List (Key×ae)}(r:KV ps qs):∀{m:List (Key×V)} {n:List (Key×ae)},KV m n->KV (ps.foldl (fun m p=>jS m p.1 p.2) m) (qs.foldl (fun m p=>vB m p.1 p.2) n):=by
 induction r with
 |nil=>
  intro m n k;exact k
 |@cons p q ps qs h t Z=>
  intro m n k;obtain⟨h1,h2⟩:=h;rw[tG,tG,<- h1];exact Z (k.put p.1 h2)
theorem xg(ps:List (Key×V)):∀m:List (Key×V),(ps.foldl (fun m p=>jS m p.1 p.2) m).length<=m.length+ps.length:=by
 induction ps with
 |nil=>
  intro m;exact aB _
 |cons p ps Z=>
  intro m;rw[tG,cY];have h1:=Z (jS m p.1 p.2);have h2:=jC m p.1 p.2
  lia
theorem yC(hc:X.calm=true):kN X (.type "dict") (fun xs H Q=>∃p vs ps,xs=[V.ref p]/\H p=Z8 (.l vs)/\vH H ps vs/\ps.length<=aF/\∀d,H d=Z7->Q (.ref d) (upd H d (.dK (ps.foldl (fun m p=>jS m p.1 p.2) [])))):=by
 intro pins s σ H xs us Q I r h;refine Z0 fun B D=>?_;obtain⟨p,vs,ps,rfl,hp,W,hz,q⟩:=h;obtain⟨u,rfl,U⟩:=vals1 r;subst U;obtain⟨_,its,n,O,M⟩:=(I.hok p _ hp);obtain⟨qs,Z,J⟩:=Cb I.hok W O;refine D (EJ (I.ok.hd hc) M J (Z.length ▸ hz) fun h' tk Y kk=>?_);have L:=xg ps [];exact{.ref s.heap.objs.size,_,I.laid (t':=tk) kk (aB _) (B5 (by simp at L;lia) (beq_eq_false_iff_ne.mpr (cE (aG I.big))) (EL Z .nil) Y),Z9,q _ (I.hok.fresh (aB _))}
end
end _L
namespace Att
open PySem PySem.W PySem.Calls PyProof.Rows
theorem weight_mem:∀(xs:List WData) (x:WData),x∈xs->xh x<=sy xs
 | [],_,h=>by cases h
 |y::r,x,h=>by
  unfold sy
  rcases aD.mp h with e|e
  ·subst e;omega
  ·have:=weight_mem r x e
   lia
theorem bits_of_lay{Z:List Int}(h:WData.layableAll [WData.list (Z.map WData.int)]=true):∀n∈Z,eW n<=1048576:=fun n hn=>by
 have h2:=Q0 (Bool.and_eq_true_iff.mp ((layW_cons h).1)).2;have X:=weight_mem (Z.map WData.int) (WData.int n) (bY.mpr ⟨n,hn,Z9⟩);have Y:xh (WData.list (Z.map WData.int))=sy (Z.map WData.int):=by rfl
 have W:xh (WData.int n)=eW n:=by rfl
 lia
theorem attach_callB{l:OpenLaw}{n:Nat}{q:aP}{X:List Str}{z:(Str->Option ae)->cz->Prop}{y:bF->cz->Prop}{d:DefRec}
  (hn:l.most=Z8 n) (bC:d.params.defaults=[])
  (pz:∀(w:bF) (s₀ Z:aj) (mg D:Str->Option ae) (J:ab) (a:ab) (vs:List ae) (U:List Int),
   Ground q X [] z w s₀ mg D Z.heap->y w Z.heap->mg d.name=Z8 (.ref J) ->
   Z.heap.get? a=Z8 {cls:=.type "list",data:=.seq vs.toArray}->dY vs U->U.length<=n->(∀x∈U,eW x<=1048576)->Z.gens=#[] ->
   iL (aW l.prog w) yb (.call (.ref J) {[.ref a],[]}) (fun r s'=>r=.ok (.ret (.bool true))/\OldK Z.heap s'.heap/\s'.os=Z.os/\pk s'.gens) Z) :
  WalkO q X z y l.row.toRowW d [] (fun f vs=>AI f vs):=by
 intro w s₀ Z mg D G Y J o pm cd g dV kV ho hd bw hD B hg args t as L M hrd I bx;obtain⟨a,vs,U,rfl,rfl,O,W,V⟩:=script_of hn L I;refine enter_call (kK (pz w s₀ Z mg D J a vs U G Y B O W V (bits_of_lay M) hg) fun r s' hq=>?_);obtain⟨rfl,h2,h3,h4⟩:=hq;exact{.inl {.bool true,.bool true,[],Z9,fun _=>rfl,.bool true,post_true l _,fun _=>{List.Pairwise.nil,fun _ hm=>(nomatch hm)}},h2,h3,h4}
end Att
namespace _L
open PySem PySem.Spec PyProof.Rows
theorem walk_ofB{l:rm}{n k:Nat}{q:aP}{X:List Str}{XP:(Str->Option ae)->cz->Prop}{r:bF->cz->Prop}{d:DefRec}{K:Params->ag}{CX:bF->CXT}{sp:bF->Sp}{x:Str}
  (hn:l.most=Z8 n) (z:n<=aF) (I:d.params.defaults=[]) (hr:dC k yb)
  (hY:∀(w:bF) (h:cz),r w h->(K w.params).In h)
  (F:∀(w:bF) (mg:Str->Option ae) (J:ab) (h:cz),(K w.params).In h->h.Ns bW mg->mg d.name=Z8 (.ref J) ->
   ∃fd:bS,(∀(s:aj) (u:ae),tN s fd {[u],[]} [(x,u)]) /\
    ∀base:cz,(K w.params).In base->base.Ns bW mg->bO l.prog w (K w.params) mg base (CX w) k J fd [x] (sp w))
  (D:∀(w:bF) (H:Hp) (a:ab) (O:List Int),O.length<=n->(∀x∈O,eW x<=1048576)->SqL (K w.params) H a (O.map V.int)->sp w [.ref a] H (fun v _=>v=.bl true) fun _ _ _=>False)
  (y:∀(w:bF) (H:Hp) (s:aj) (e:ae) (s':aj),CX w [] H s (fun _ _ _=>False) e s'->False) :
  Eh q X XP r l.row.toRowW d [] (fun f vs=>AI f vs):=by
 refine Att.attach_callB hn I fun w s₀ L mg mb J a vs O G Y B M W Z U hg=>?_;have t:=hY w _ Y;obtain⟨fd,hb,hF⟩:=F w mg J _ t G.T.g B;exact B3 t G.T.g G.T.b G.T.builtins G.T.nolimit hg M W (dh Z z) hr hF hb (fun H hO hS=>D w H a O Z U hS) fun H e s'=>y w H L e s'
end _L
namespace PySem
open SeqAt MeetsSeq MeetsSeq2 MeetsSeq3 SeqRoads2
open AutoSeq1 (wpAny_loadPart')
section
variable{prog:aP}{w:bF}{A:cm}{s:aj}
variable{K:Type}[DecidableEq K]{knd:KeyKind prog w K}
end
end PySem
namespace _L
open PySem PySem.Spec PyProof.Rows PySem.SeqAt
def sc0:V->Prop
 |.int _=>True
 |.str _=>True
 |.bl _=>True
 |.non=>True
 |_=>False
def TEq(H:Hp):Nat->V->V->Prop
 |0,x,y=>sc0 x/\x=y
 |n+1,x,y=>(sc0 x/\x=y)\/(∃p q xs ys,x=.ref p/\y=.ref q/\H p=Z8 (.l xs)/\H q=Z8 (.l ys)/\bM (TEq H n) xs ys) \/
   ∃p q xs ys,x=.ref p/\y=.ref q/\H p=Z8 (.t xs)/\H q=Z8 (.t ys)/\bM (TEq H n) xs ys
section
variable{P:aP}{w:bF}{H:Hp}{s:aj}
theorem oQ{R:V->V->Prop}:∀{xs ys:List V} {us vs:List ae},bM R xs ys->dU xs us->dU ys vs->us.length=vs.length/\∀j (h1:j<us.length) (h2:j<vs.length),∃x y,R x y/\RelV x us[j]/\RelV y vs[j]:=by
 intro xs ys us vs p
 induction p generalizing us vs with
 |nil=>
  intro a b
  cases a
  cases b;exact{Z9,fun j h1=>Q7 h1 (tU _)}
 |cons r X Y=>
  intro a b
  cases a with
  |cons a Z=>
  cases b with
  |cons b bs=>
  obtain⟨e,z⟩:=Y Z bs;refine{by rw[cY,cY,e],fun j h1 h2=>?_}
  cases j with
  |zero=>exact{_,_,r,a,b}
  |succ j=>exact z j (jZ h1) (jZ h2)
theorem zL{A:cm}{x:V}{u v:ae}(h:sc0 x)(Z:RelV x u)(Y:RelV x v):EqAt A s u v true:=by
 cases x with
 |non=>cases Z;cases Y;exact EqAt.same _
 |bl b=>cases Z;cases Y;exact EqAt.same _
 |int i=>
  obtain⟨t,rfl⟩:=Z;obtain⟨t',rfl⟩:=Y;have z:=EqAt.int_int (A:=A) (s:=s) i t i t';rw[beq_self_eq_true]at z;exact z
 |str i=>
  obtain⟨t,rfl⟩:=Z;obtain⟨t',rfl⟩:=Y;have z:=EqAt.str_str (A:=A) (s:=s) i t i t';rw[beq_self_eq_true]at z;exact z
 |byt b=>exact h.elim
 |flt b=>exact h.elim
 |ref a=>exact h.elim
 |ty a=>exact h.elim
theorem oR(ok:HOk P w H s.heap){p:ab}{xs:List V}(h:H p=Z8 (.l xs)):∃us:List ae,dU xs us/\s.heap.IsList p us.toArray:=by
 obtain⟨_,us,n,r,e⟩:=(ok p _ h);exact{us,r,_,e,Z9,n,Z9}
theorem qg(ok:HOk P w H s.heap){p:ab}{xs:List V}(h:H p=Z8 (.t xs)):∃us:List ae,dU xs us/\s.heap.IsTuple p us.toArray:=by
 obtain⟨_,us,r,o,e,c,n,d⟩:=(ok p _ h);exact⟨us,r,o,e,c,n,d⟩
theorem qh(n:Nat):((i9 n).all fun _=>true)=true:=by simp
theorem Cc(ok:HOk P w H s.heap){R:V->V->Prop}{A:cm}{p q:ab}{xs ys:List V}(U:A.units<iN)(h1:H p=Z8 (.l xs))(h2:H q=Z8 (.l ys))(r:bM R xs ys)
  (M:∀x y u v,R x y->RelV x u->RelV y v->EqAt A.in1 s u v true):RcAt A s (.ref p) (.ref q) true:=by
 obtain⟨us,Z,O⟩:=oR ok h1;obtain⟨vs,J,L⟩:=oR ok h2;obtain⟨e,z⟩:=oQ r Z J;have k:=RcAt.lists O L (by simpa using e) U (fun j a b=>by
  obtain⟨x,y,X,Y,W⟩:=z j (by simpa using a) (by simpa using b);simpa using M _ _ _ _ X Y W)
 rw[qh]at k;exact k
theorem EM(ok:HOk P w H s.heap){R:V->V->Prop}{A:cm}{p q:ab}{xs ys:List V}(U:A.units<iN)(h1:H p=Z8 (.t xs))(h2:H q=Z8 (.t ys))(r:bM R xs ys)
  (M:∀x y u v,R x y->RelV x u->RelV y v->EqAt A.in1 s u v true):RcAt A s (.ref p) (.ref q) true:=by
 obtain⟨us,Z,O⟩:=qg ok h1;obtain⟨vs,J,L⟩:=qg ok h2;obtain⟨e,z⟩:=oQ r Z J;have k:=RcAt.tuples O L U (fun j a b=>by
  obtain⟨x,y,X,Y,W⟩:=z j (by simpa using a) (by simpa using b);simpa using M _ _ _ _ X Y W)
 rw[qh,Ik,bj,bj,e,beq_self_eq_true]at k;exact k
theorem EqAt.of_rc{A:cm}{l b:ab}(h:RcAt A s (.ref l) (.ref b) true):EqAt A s (.ref l) (.ref b) true:=by
 by_cases e:l=b
 ·rw[e];exact EqAt.same _
 ·exact EqAt.of_refs e h
theorem vI(ok:HOk P w H s.heap):∀{n:Nat} {A:cm} {x y:V} {u v:ae},A.units+n<iN->TEq H n x y->RelV x u->RelV y v->EqAt A s u v true
 |0,A,x,y,u,v,W,h,Y,X=>by
  obtain⟨h1,rfl⟩:=h;exact zL h1 Y X
 |n+1,A,x,y,u,v,W,h,Y,X=>by
  have Z:A.in1.units+n<iN:=by
   show A.units+1+n<iN
   lia
  rcases h with⟨h1,rfl⟩|⟨p,q,xs,ys,rfl,rfl,h1,h2,r⟩|⟨p,q,xs,ys,rfl,rfl,h1,h2,r⟩
  ·exact zL h1 Y X
  ·cases Y
   cases X;exact EqAt.of_rc (Cc ok (by lia) h1 h2 r fun _ _ _ _ z a b=>vI ok Z z a b)
  ·cases Y
   cases X;exact EqAt.of_rc (EM ok (by lia) h1 h2 r fun _ _ _ _ z a b=>vI ok Z z a b)
end
section
variable{X:Cx}
theorem Il(g:X.A.units+50<iN):OpR X (gi .NotEq) (fun x y H Q=>∃n p q,n<=20/\x=.ref p/\y=.ref q/\TEq H n x y/\Q (.bl false) H):=by
 intro pins s σ H x y v u Q I W V h;obtain⟨n,p,q,hn,rfl,rfl,d,k⟩:=h;subst W;subst V;have fin:EP X pins σ Q (.bool false) s:={.bl false,H,I,Z9,k};have Z:X.A.units<iN:=by omega
 cases n with
 |zero=>exact d.1.elim
 |succ m=>
  have Y:X.A.in1.units+m<iN:=by grind
  rcases d with⟨h1,_⟩|⟨t,B,xs,ys,e1,D,h1,h2,r⟩|⟨t,B,xs,ys,e1,D,h1,h2,r⟩
  ·exact h1.elim
  ·cases e1
   cases D;obtain⟨us,U,M⟩:=oR I.hok h1;obtain⟨vs,J,L⟩:=oR I.hok h2;obtain⟨e,z⟩:=oQ r U J;have k:=RcNeAt.lists M L (by simpa using e) Z (fun j a b=>by
    obtain⟨x,y,O,W,V⟩:=z j (by simpa using a) (by simpa using b);simpa using vI I.hok Y O W V)
   rw[qh]at k;exact k X.prog X.w _ _ fin
  ·cases e1
   cases D;obtain⟨us,U,M⟩:=qg I.hok h1;obtain⟨vs,J,L⟩:=qg I.hok h2;obtain⟨e,z⟩:=oQ r U J;have k:=RcNeAt.tuples M L Z (fun j a b=>by
    obtain⟨x,y,O,W,V⟩:=z j (by simpa using a) (by simpa using b);simpa using vI I.hok Y O W V)
   rw[qh,Ik,bj,bj,e,beq_self_eq_true]at k;exact k X.prog X.w _ _ fin
theorem AJ{A:cm}{k:Nat}(Z:dC k A):A.units+50<iN:=by
 have:=Z.un
 lia
end
end _L
namespace PySem
open Sem (wp)
def kO(h:cz)(d:ab)(es:Array gj)(ep:Nat):Prop:=∃o,h.get? d=Z8 o/\o.ExactDict/\o.data=.dict es ep
section
variable{prog:aP}{w:bF}{A:cm}{E:ae->aj->Prop}{s:aj}
theorem AK{d:ab}{es:Array gj}{ep:Nat}{Q:ae->aj->Prop}(Y:(d==gc)=false)(X:kO s.heap d es ep)
  (q:Q (.ref s.heap.objs.size) {s with heap:=s.heap.push {cls:=.type "dict_keyiterator",data:=.fields #[.ref d,.int 0 0,.int es.size 0,.int ep 0]}}) :
  aN (aW prog w) A (qA (.ref d)) Q E s:=by
 obtain⟨o,Z,hc,hx⟩:=X;have ty:s.TypeIs (.ref d) "dict":=⟨o,Z,hc.1⟩;refine ft ty F.slot_dict_iter (cy F.slot_dict_iter ty F.entry_dict_iter ?_ (F.args_dict_iter_1 _));unfold fi.«dict.__iter__» Builtin.Dict.dictSlotNone;refine aa (aa (kX ty ?_));refine af (a:=Value.ref d) ?_;show aN _ _ (gA d >>= _) _ _ s;unfold gA;rw[Q5 (fun z=>by rw[Y]at z;cases z)];refine aa (af (aa (fu Z hx (aa (gK Z hx ?_)))));refine aa (cw (af {_,Z9,"dict_keyiterator",_,{_,aE _ rfl,Z9},F.slot_dict_keyiterator_next.lookup,?_}));simpa[e8] using q
theorem AL{I d:ab}{i ep:Nat}{es:Array gj}{e:gj}{Q:Option ae->aj->Prop}(Z:s.heap.IsKeyIter I d i es.size ep)(M:kO s.heap d es ep)(O:es[i]?=Z8 e)
  (q:∀h',h'.IsKeyIter I d (i+1) es.size ep->fX I s.heap h'->Q (Z8 e.key) {s with heap:=h'}):aN (aW prog w) A (fH (.ref I)) Q E s:=by
 obtain⟨L,X,V,Y⟩:=id Z;obtain⟨o,U,hc,hx⟩:=M;have lt:i<es.size:=(Array.getElem?_eq_some_iff.mp O).1;unfold fH;refine aa (gY (dA (name:=cN "__next__") Z.typeIs F.slot_dict_keyiterator_next
  (cy F.slot_dict_keyiterator_next Z.typeIs F.entry_dict_keyiterator_next ?_ (F.args_dict_keyiterator_next_1 _))))
 refine aa (af (aa (aa ?_)))
 first|refine aa (iT Z.typeIs (af ?_))|refine aa (jT Z.typeIs (af ?_))
 refine aa (gB X Y ?_);have W:cZ "dict_keyiterator"=false:=by decide
 simp only[W,dQ,if_false];show aN _ _ (if (Value.ref d==Value.none)=true then _ else _) _ _ s;rw[Q5 (show ¬(Value.ref d==Value.none)=true from bz)];refine aa (af (aa (fu U hx ?_)));rw[Q5 (by simp)];refine aa (af (aa (gK U hx ?_)));rw[Q5 (by simp)];refine af ?_;simp only[show ¬((i:Int)<0) from by omega,if_false,dE,O];refine aa ?_
 first|refine aa (iT Z.typeIs (af ?_))|refine aa (jT Z.typeIs (af ?_))
 refine aa (Ei Z.typeIs ?_);show aN _ _ (qG (.ref I) 1 (e8 ((i:Int)+1)) >>= _) _ _ s;refine aa (gC X Y (by simp) ?_);have next:(s.heap.update I (gQ (·.setIfInBounds 1 (e8 ((i:Int)+1))))).IsKeyIter I d (i+1) es.size ep:=
  {_,cC _ X (gZ (cW Y _)),(j0 ..).trans V,by rw[cW Y];simp[e8]}
 refine aa (c8 (aa (Ei (s:={s with heap:=s.heap.update I (gQ (·.setIfInBounds 1 (e8 ((i:Int)+1))))}) next.typeIs ?_)));refine af (a:=e.key) ?_;exact af {_,Z9,af (q _ next (c7 ..))}
theorem Cd{I d:ab}{i ep:Nat}{es:Array gj}{Q:Option ae->aj->Prop}(O:A.handled=Z7)(Z:s.heap.IsKeyIter I d i es.size ep)(L:kO s.heap d es ep)(M:es[i]?=Z7)
  (q:∀h',jK I s.heap h'->Q Z7 {s with heap:=h'}):aN (aW prog w) A (fH (.ref I)) Q E s:=by
 obtain⟨J,W,U,X⟩:=id Z;obtain⟨o,V,hc,hx⟩:=L;unfold fH;refine aa (gY (dA (name:=cN "__next__") Z.typeIs F.slot_dict_keyiterator_next
  (cy F.slot_dict_keyiterator_next Z.typeIs F.entry_dict_keyiterator_next ?_ (F.args_dict_keyiterator_next_1 _))))
 refine aa (af (aa (aa ?_)))
 first|refine aa (iT Z.typeIs (af ?_))|refine aa (jT Z.typeIs (af ?_))
 refine aa (gB W X ?_);have Y:cZ "dict_keyiterator"=false:=by decide
 simp only[Y,dQ,if_false];show aN _ _ (if (Value.ref d==Value.none)=true then _ else _) _ _ s;rw[Q5 (show ¬(Value.ref d==Value.none)=true from bz)];refine aa (af (aa (fu V hx ?_)));rw[Q5 (by simp)];refine aa (af (aa (gK V hx ?_)));rw[Q5 (by simp)];refine af ?_;simp only[show ¬((i:Int)<0) from by omega,if_false,dE,M];refine aa ?_
 first|refine aa (iT Z.typeIs (af ?_))|refine aa (jT Z.typeIs (af ?_))
 show aN _ _ (qG (.ref I) 0 .none >>= _) _ _ s;refine aa (gC W X (by simp) ?_);show aN _ _ (vJ (.type "StopIteration") [] >>= _) _ _ _;refine aa ?_;simp only[vJ,EN];refine aa (cw ?_ (by size_fits));refine aa (m:=iQ _ _) (jy (a:=Value.none) (by first|rfl|(simp only[iQ];rfl)) ?_);refine cw ?_ (by size_fits);simp only[yD];refine aa (rH ?_);rw[show A.in1.handled=Z7 from O];refine aa (af (wB ?_));refine aa (k6 (T:="StopIteration") (b:=true) {_,aE _ rfl,Z9} qH ?_);exact af (q _ (((c7 ..).extBut.push _).push _))
end
def uG(prog:aP)(w:bF)(A:cm)(op:Bo)(P:Nat->ae->Prop)(G:cz->Prop)(Z:Nat->Nat->Bool):Prop:=
 ∀i j vi vj (s:aj) (Q:ae->aj->Prop) (E:ae->aj->Prop),P i vi->P j vj->G s.heap->Q (.bool (Z i j)) s->aN (aW prog w) A (qF op vi vj) Q E s
section
variable{prog:aP}{w:bF}{A:cm}{R:rV->aj->Prop}{I:ab}{fp wr:List ab}{n:Nat}{P:Nat->ae->Prop}{St:Nat->cz->Prop}{G:cz->Prop}
theorem yE(W:EO prog w A.in1 I fp wr n P St)(y:Nat->Nat->Bool)(g:uG prog w A.in1 .Lt P G y)(S:ab)(f:S∉fp)
  (hG:∀h h':cz,G h->(∀b o,b∉wr->b≠S->h.get? b=Z8 o->h'.get? b=Z8 o)->G h') :
  ∀(k j:Nat) (s:aj) (U:ae) (c:Nat),n-(j+1)=k->j+1<=n->St (j+1) s.heap->G s.heap->P (jc y j) U ->
  s.heap.get? S=Z8 {cls:=.type "list",dict:=Z7,data:=.seq #[U,U] c,slots:=#[]} ->
  (∀v h' tk,P (jc y (n-1)) v->(∀b o,b∉wr->b≠S->s.heap.get? b=Z8 o->h'.get? b=Z8 o)->R (.ok (.ret v)) {s with heap:=h',toks:=tk}) ->
  iL (aW prog w) A (.builtin "min.loop" {[.ref I,.none,.ref S],[]}) R s:=by
 have r:S∉wr:=fun h=>f (W.sub _ h);have nm:(toString "min"++toString ".loop":String)="min.loop":=by decide
 intro k
 induction k with
 |zero=>
  intro j s U c hk hj J hg V t d;have q:j+1=n:=by omega
  refine dJ F.entry_min_loop ?_;rw[dP F.plain_min_loop _];show aN _ A.in1 (o3 (.ref S) >>= _) _ _ s;refine aa (gx t rfl ?_);show aN _ A.in1 (tryCatch (fH (.ref I)) _ >>= _) _ _ s;refine aa (gy (W.done s _ _ (q ▸ J) fun h' tk kp=>?_));show aN _ A.in1 (qY S (fun _=>#[]) >>= _) _ _ _;refine aa (iB (kp S _ r t) rfl (aa (iU (af ?_))));exact d U _ tk (by rw[<- q];exact V) fun b o Y Z e=>(aY _ _ (cE Z)).trans (kp b o Y e)
 |succ k ih=>
  intro j s U c hk hj J hg V t d;have M:j+1<n:=by omega
  refine dJ F.entry_min_loop ?_;rw[dP F.plain_min_loop _];show aN _ A.in1 (o3 (.ref S) >>= _) _ _ s;refine aa (gx t rfl ?_);show aN _ A.in1 (tryCatch (fH (.ref I)) _ >>= _) _ _ s;refine aa (gy (W.item (j+1) s _ _ M J fun v h' tk hP O kp=>?_));have D:=kp S _ r t;have g1:G h':=hG _ _ hg fun b o hb _ e=>kp b o hb e;show aN _ A.in1 (tryCatch (nF [v,v] (qF .Lt v U >>= _)) _ >>= _) _ _ _;refine aa (gy (c8 (aa (g (j+1) (jc y j) v U _ _ _ hP V g1 ?_))));refine aa (c8 (gH (aa (iU (af ?_)))))
  cases hb:y (j+1) (jc y j) with
  |true=>
   simp only[if_true];refine aa (iB D rfl (aa (iU ?_)));rw[nm];refine af ⟨eT F.plain_min_loop _,ih (j+1) _ v _ (by omega) M (W.frame _ _ _ O fun b bw o e=>?_) (hG _ _ g1 fun b o _ Z e=>(aY _ _ (cE Z)).trans e)
    (by simp only[jc,hb,if_true];exact hP) (cC _ D rfl) fun v' z X L B=>?_⟩
   ·exact (aY _ _ (fun h:S=b=>f (by rw[h];exact bw))).trans e
   ·exact d v' z X L fun b o Y Z e=>B b o Y Z ((aY _ _ (cE Z)).trans (kp b o Y e))
  |false=>
   simp only[dQ,if_false];refine aa (iU ?_);rw[nm];refine af {eT F.plain_min_loop _,ih (j+1) _ U c (by omega) M O g1 (by simp only[jc,hb,dQ,if_false];exact V) D fun v' z X L B=>?_};exact d v' z X L fun b o Y Z e=>B b o Y Z (kp b o Y e)
theorem xi(W:EO prog w A.in1 I fp wr n P St)(L:Nat->Nat->Bool)(M:uG prog w A.in1 .Lt P G L)(S:ab)(Y:S∉fp)
  (B:∀h h':cz,G h->(∀b o,b∉wr->b≠S->h.get? b=Z8 o->h'.get? b=Z8 o)->G h') (hn:0<n) {s:aj} {c:Nat} (z:St 0 s.heap) (g:G s.heap)
  (q:s.heap.get? S=Z8 {cls:=.type "list",dict:=Z7,data:=.seq #[] c,slots:=#[]})
  (hR:∀v h' tk,P (jc L (n-1)) v->(∀b o,b∉wr->b≠S->s.heap.get? b=Z8 o->h'.get? b=Z8 o)->R (.ok (.ret v)) {s with heap:=h',toks:=tk}) :
  iL (aW prog w) A (.builtin "min.loop" {[.ref I,.none,.ref S],[]}) R s:=by
 have J:S∉wr:=fun h=>Y (W.sub _ h);have nm:(toString "min"++toString ".loop":String)="min.loop":=by decide
 refine dJ F.entry_min_loop ?_;rw[dP F.plain_min_loop _];show aN _ A.in1 (o3 (.ref S) >>= _) _ _ s;refine aa (gx q rfl ?_);show aN _ A.in1 (tryCatch (fH (.ref I)) _ >>= _) _ _ s;refine aa (gy (W.item 0 s _ _ hn z fun v h' tk hP X kp=>?_));have O:=kp S _ J q;have d:G h':=B _ _ g fun b o hb _ e=>kp b o hb e;show aN _ A.in1 (qY S (fun _=>#[v,v]) >>= _) _ _ _;refine aa (iB O rfl ?_);rw[nm];refine af {eT F.plain_min_loop _,yE W L M S Y B _ 0 _ v _ rfl hn (W.frame _ _ _ X fun b y o e=>?_) (B _ _ d fun b o _ Z e=>(aY _ _ (cE Z)).trans e) hP (cC _ O rfl) fun f r U D t=>?_}
 ·exact (aY _ _ (fun h:S=b=>Y (by rw[h];exact y))).trans e
 ·exact hR f r U D fun b o V Z e=>t b o V Z ((aY _ _ (cE Z)).trans (kp b o V e))
end
section
variable{prog:aP}{w:bF}{A:cm}{E:ae->aj->Prop}{s:aj}
theorem yF{x:ae}{Q:ae->aj->Prop}
  (h:aN (aW prog w) A.in1 (qA x) (fun it Z=>∃I fp wr n P St G V,it=.ref I/\EO prog w A.in1 I fp wr n P St/\St 0 Z.heap/\G Z.heap/\(∀b∈fp,b<Z.heap.objs.size)/\0<n/\uG prog w A.in1 .Lt P G V /\
   (∀h h':cz,G h->(∀b o,b∉wr->b≠Z.heap.objs.size->h.get? b=Z8 o->h'.get? b=Z8 o)->G h') /\
   ∀v h' tk,P (jc V (n-1)) v->(∀b o,b∉wr->Z.heap.get? b=Z8 o->h'.get? b=Z8 o)->Q v {Z with heap:=h',toks:=tk}) E s) :
  aN (aW prog w) A (pz (.builtin "min") [x]) Q E s:=by
 have nm:(toString "min"++toString ".loop":String)="min.loop":=by decide
 refine call_function_tree F.kind_min F.plain_min F.entry_min (F.args_min1 _) ?_;show aN _ A.in1 (iu "min" ["key","default"] 0 {[],[]} >>= _) _ _ s;refine aa (jy (show iu "min" ["key","default"] 0 {[],[]}=pure [Z7,Z7] from rfl) (aa (af ?_)));refine aa (fo h (fun it Z Y=>?_) fun _ _ e=>e);obtain⟨I,fp,wr,n,P,St,G,V,rfl,W,M,B,O,hn,X,J,D⟩:=Y;refine aa (cw ?_);have L:Z.heap.objs.size∉fp:=fun y=>fh _ (O _ y);rw[nm];have kp:∀b o,Z.heap.get? b=Z8 o->(Z.heap.push {cls:=.type "list",data:=.seq ([]:List ae).toArray}).get? b=Z8 o:=fun b o e=>aq _ e;refine af {eT F.plain_min_loop _,xi W V X Z.heap.objs.size L J hn (W.frame _ _ _ M fun b _ o e=>kp b o e) (J _ _ B fun b o _ _ e=>kp b o e) (aE _ rfl) fun v h' tk z hk=>?_};exact D v h' tk z fun b o U e=>hk b o U (aG (aI e)) (kp b o e)
end
section
variable{prog:aP}{w:bF}{K:Type}[DecidableEq K]{knd:HeapKind prog w K}{A:cm}{E:ae->aj->Prop}{s:aj}
end
section
variable{prog:aP}{w:bF}{A:cm}{E:ae->aj->Prop}{s:aj}
end
end PySem
namespace _H
theorem lx_irr:∀a:List Int,lexLt a a=false
 | []=>rfl
 |x::r=>by rw[k5,Q6 rfl];exact lx_irr r
theorem lx_trans:∀{a b c:List Int},lexLt a b=true->lexLt b c=true->lexLt a c=true
 | [],[],_,h,_=>by cases h
 | [],_::_,[],_,h=>by cases h
 | [],_::_,_::_,_,_=>rfl
 |_::_,[],_,h,_=>by cases h
 |_::_,_::_,[],_,h=>by cases h
 |x::a,y::b,z::c,h,k=>by
  rw[k5]at h k |-
  by_cases e:x=y
  ·subst e;rw[Q6 rfl]at h
   by_cases f:x=z
   ·subst f;rw[Q6 rfl]at k |-;exact lx_trans h k
   ·rw[Q5 f]at k |-;exact k
  ·rw[Q5 e]at h;have h:=Q0 h
   by_cases f:y=z
   ·subst f;rw[Q5 e];exact Q3 h
   ·rw[Q5 f]at k;have k:=Q0 k;rw[Q5 (by omega)];exact Q3 (by omega)
theorem lx_anti:∀{a b:List Int},lexLt a b=false->lexLt b a=false->a=b
 | [],[],_,_=>rfl
 | [],_::_,h,_=>by cases h
 |_::_,[],_,h=>by cases h
 |x::a,y::b,h,k=>by
  rw[k5]at h k
  by_cases e:x=y
  ·subst e;rw[Q6 rfl]at h k;rw[lx_anti h k]
  ·rw[Q5 e]at h;rw[Q5 (fun z=>e z.symm)]at k;have h:=of_decide_eq_false h;exact Q7 (by lia) e
theorem lx_asym{a b:List Int}(h:lexLt a b=true):lexLt b a=false:=by
 cases e:lexLt b a with
 |false=>rfl
 |true=>
  have z:=lx_trans h e;rw[lx_irr]at z
  cases z
theorem lx_of_not{a b:List Int}(h:lexLt a b=false)(n:a≠b):lexLt b a=true:=by
 cases e:lexLt b a with
 |true=>rfl
 |false=>exact Q7 (lx_anti h e) n
theorem best_le(f:Nat->List Int):∀k,pP (fun i j=>lexLt (f i) (f j)) k<=k/\∀j,j<=k->lexLt (f j) (f (pP (fun i j=>lexLt (f i) (f j)) k))=false
 |0=>⟨aB _,fun j Y=>by
  have e:j=0:=by omega
  rw[e];exact lx_irr _⟩
 |k+1=>by
  obtain⟨h1,h2⟩:=best_le f k;simp only[pP]
  by_cases e:lexLt (f (k+1)) (f (pP (fun i j=>lexLt (f i) (f j)) k))=true
  ·rw[Q6 e];refine{aB _,fun j Y=>?_}
   by_cases Z:j=k+1
   ·rw[Z];exact lx_irr _
   ·cases z:lexLt (f j) (f (k+1)) with
    |false=>rfl
    |true=>
     have y:=lx_trans z e;rw[h2 j (by lia)]at y
     cases y
  ·rw[Q5 e];refine{by lia,fun j Y=>?_}
   by_cases Z:j=k+1
   ·rw[Z];exact Ce.mpr e
   ·exact h2 j (by lia)
open PySem PyProof.Rows
open PySem.SeqAt
open PySem.AutoSeq1 (wpAny_loadPart')
open PySem.MeetsSeq PySem.MeetsSeq2 PySem.MeetsSeq3
theorem ER(l b:ab)(xs ys:Array ae)(n m:Nat)(dd de:Option ab)(sl sm:Array (Option ae))(J D:List Int)(hi:dY xs.toList J)(f:dY ys.toList D) :
  Meets (fi.«tuple.__gt__» {[.ref l,.ref b],[]})
   (fun _ R s=>s.heap.get? l=Z8 {cls:=.type "tuple",dict:=dd,data:=.seq xs n,slots:=sl}/\s.heap.get? b=Z8 {cls:=.type "tuple",dict:=de,data:=.seq ys m,slots:=sm}/\R (.ok (.ret (.bool (lexLt D J)))) s):=
 .of_wp fun prog w A R s h=>by
  obtain⟨hp,g,d,tk,L⟩:=s;obtain⟨hl,hb,h⟩:=h;have f2:=tE;have z1:xs.size=J.length:=by rw[<- hi.length];simp
  have z2:ys.size=D.length:=by rw[<- f.length];simp
  wp_walk using pO hl,pO hb,wpAny_forIn_list _ (fun rest b s'=>b.1=Z7/\s'=⟨hp,g,d,tk,L⟩/\∃(vs I:List ae) (Y X:List Int),rest=vs.zip I /\
   dY vs Y/\dY I X/\Y.length+ys.size=X.length+xs.size/\R (.ok (.ret (.bool (lexLt X Y)))) ⟨hp,g,d,tk,L⟩) _
  case turn=>
   rintro⟨y,x⟩ rest b s' ⟨O,rfl,vs,I,Y,X,hz,hv,hw,Z,W⟩
   cases hv with
   |nil=>rw[BV]at hz;exfalso;cases hz
   |cons a t hv=>
    cases hw with
    |nil=>rw[Bt]at hz;exfalso;cases hz
    |cons c u hw=>
     injection hz with z U;injection z with hy hx;subst hy hx;rw[k5]at W;simp only[cY]at Z;obtain⟨e,he,V⟩:=wW A.in1 ⟨hp,g,d,tk,L⟩ a t c u;refine aa (he prog w _ _ ?_)
     cases e with
     |true=>
      rw[Q6 (V.mp rfl).symm]at W
      wp_walk
      exact{Z9,Z9,_,_,_,_,U,hv,hw,by lia,W}
     |false=>
      rw[Q5 (fun q=>Q7 (V.mpr q.symm) bz)]at W;have r:∀(E:ae->aj->Prop) (Q:ae->aj->Prop),Q (.bool (decide (a>c))) ⟨hp,g,d,tk,L⟩->aN (aW prog w) A.in1 (qF .Gt (.int a t) (.int c u)) Q E ⟨hp,g,d,tk,L⟩:=fun E Q q=>
       (PyProof.Rows.gt_int q:aN (aW prog w) A.in1 (gi .Gt (.int a t) (.int c u)) Q E _)
      wp_walk using r
      exact{_,Z9,by simpa using W}
  case fin=>
   rintro⟨b1,b2⟩ s' ⟨O,rfl,vs,I,Y,X,hz,B,M,Z,W⟩;subst O;have hv:lexLt X Y=decide (ys.size<xs.size):=by
    cases B with
    |nil=>
     cases M with
     |nil=>
      simp only[cU]at Z;rw[o9];exact (Q4 (by lia)).symm
     |cons c u hw=>
      simp only[cU,cY]at Z;rw[oo];exact (Q4 (by lia)).symm
    |cons a t hv=>
     cases M with
     |nil=>
      simp only[cU,cY]at Z;rw[om];exact (Q3 (by lia)).symm
     |cons c u hw=>
      rw[Bu]at hz
      cases hz
   rw[hv]at W
   wp_walk
   exact{_,Z9,by simpa[oN] using W}
  case h=>
   exact{Z9,Z9,xs.toList,ys.toList,J,D,Z9,hi,f,by lia,h}
theorem gt_tup{prog:aP}{w:bF}{A:cm}{E:ae->aj->Prop}{s:aj}{l b:ab}{xs ys:Array ae}{Z Y:List Int}{Q:ae->aj->Prop}(J:wx s.heap l xs)(hb:wx s.heap b ys)(hi:dY xs.toList Z)(V:dY ys.toList Y)
  (O:A.units<iN) (h:Q (.bool (lexLt Y Z)) s):aN (aW prog w) A (gi .Gt (.ref l) (.ref b)) Q E s:=by
 refine Z0 fun B D=>?_;obtain⟨⟨t,I,t1,U⟩,X,rfl,n,rfl⟩:=id J;obtain⟨⟨y,L,z,M⟩,W,rfl,m,rfl⟩:=id hb;exact D (BW (op:=.Gt) {_,X,Z9} {_,W,Z9} PySem.F.slot_tuple_gt PySem.F.entry_tuple_gt (PySem.F.args_tuple_gt_2 _ _) (ER l b xs ys n m I L U M Z Y hi V)
  {X,W,show Value.bool (lexLt Y Z)≠Value.notImplemented/\Q (.bool (lexLt Y Z)) s from{(fun x=>nomatch x),h}} O)
end _H
namespace _L
open PySem PySem.Spec PyProof.Rows
theorem lK:∀{Z Y:List Int},Z.map (Sum.inl:Int->Key)=Y.map Sum.inl->Z=Y
 | [],[],_=>rfl
 | [],_::_,h=>by cases h
 |_::_,[],h=>by cases h
 |x::a,y::b,h=>by
  injection h with h1 h2;injection h1 with h1;rw[h1,lK h2]
theorem Im(Z:List Int):(Z.map (Sum.inl:Int->Key)).map kV=Z.map V.int:=by
 rw[Jr];rfl
section
variable{X:Cx}
theorem Io(J:X.A.units<iN):OpR X (gi .Gt) (fun x y H Q=>∃a b Z W,x=.ref a/\y=.ref b/\H a=Z8 (.t (Z.map V.int))/\H b=Z8 (.t (W.map V.int))/\Q (.bl (_H.lexLt W Z)) H):=by
 intro pins s σ H x y v u Q I O L h;obtain⟨a,b,Z,W,rfl,rfl,ha,hb,q⟩:=h
 cases O
 cases L;obtain⟨its,U,M,_⟩:=I.tuple (SqT.of ha);obtain⟨Y,z,p2,_⟩:=I.tuple (SqT.of hb);have D:dY its.toArray.toList Z:=intsAre_of U;have B:dY Y.toArray.toList W:=intsAre_of z;exact _H.gt_tup M p2 D B J {.bl (_H.lexLt W Z),H,I,Z9,q}
def jz(H:Hp):List ab->List (List Int)->Prop:=bM fun a n=>H a=Z8 (.t (n.map V.int))
theorem jz.length{H:Hp}{Z:List ab}{Y:List (List Int)}(t:jz H Z Y):Z.length=Y.length:=bQ t
theorem jz.get{H:Hp}:∀{Z:List ab} {Y:List (List Int)} {i:Nat} {a:ab},jz H Z Y->Z[i]?=Z8 a->∃n,Y[i]?=Z8 n/\H a=Z8 (.t (n.map V.int))
 |_,_,_,_,.nil,e=>by simp at e
 |_,_,0,_,.cons r _,e=>by simp at e;subst e;exact{_,Z9,r}
 |_,_,i+1,a,.cons _ t,e=>by
  obtain⟨n,h1,h2⟩:=jz.get (i:=i) (a:=a) t (by simpa using e);exact{n,by simpa using h1,h2}
theorem jz.keep{H H':Hp}(k:∀b xs,H b=Z8 (.t xs)->H' b=Z8 (.t xs)){Z:List ab}{Y:List (List Int)}(t:jz H Z Y):jz H' Z Y:=Paired.mapP t fun _ _ z=>k _ _ z
theorem jz.append{H:Hp}:∀{Z bs:List ab} {Y X:List (List Int)},jz H Z Y->jz H bs X->jz H (Z++bs) (Y++X)
 |_,_,_,_,.nil,s=>s
 |_,_,_,_,.cons r t,s=>.cons r (jz.append t s)
theorem jz.take{H:Hp}:∀{Z:List ab} {Y:List (List Int)} (n:Nat),jz H Z Y->jz H (Z.take n) (Y.take n)
 |_,_,0,_=>.nil
 |_,_,_+1,.nil=>.nil
 |_,_,n+1,.cons r t=>.cons r (jz.take n t)
theorem jz.drop{H:Hp}:∀{Z:List ab} {Y:List (List Int)} (n:Nat),jz H Z Y->jz H (Z.drop n) (Y.drop n)
 |_,_,0,r=>r
 |_,_,_+1,.nil=>.nil
 |_,_,n+1,.cons _ t=>jz.drop n t
open Classical in
def ES:V->List V->Hp->VK->Prop:=fun x vs H Q=>∃l xs i y,x=.ref l/\vs=[.int (i:Nat),y]/\H l=Z8 (.l xs)/\i<=xs.length/\xs.length<aF/\Q .non (upd H l (.l (xs.take i++y::xs.drop i)))
theorem AM:MtM X "list.insert" ES:=by
 intro pins s σ H x vs v us Q I V O h;refine Z0 fun D J=>?_;obtain⟨l,xs,i,y,rfl,rfl,W,hi,hz,q⟩:=h;subst V;obtain⟨u,Y,rfl,U,Z⟩:=O.two;obtain⟨t,rfl⟩:=U;obtain⟨z,its,n,r,B,e⟩:=I.lstM W;refine J ?_;generalize hx:((i:Nat):Int)=x;have L:Builtin.List.listFitsIndex x=true:=by
  have M:=qC;exact fitsIndex_both (by lia) (by lia)
 refine sd F.slot_list_insert {_,e,Z9} F.entry_list_insert (F.args_list_insert_3 _ _ _) (Js l its.toArray n x t Y (by simp_all) (by simp_all)) {e,{.non,_,I.lset (its':=its.take i++Y::its.drop i) W e ?_ ((r.take i).append (.cons Z (r.drop i))) ?_,Z9,q}}
 ·have k:(if x<0 then (x+(its.toArray.size:Int)).toNat else min x.toNat its.toArray.size)=i:=by
   rw[Q5 (by lia),bj]
   lia
  rw[k];apply Array.toList_inj.mp;simp[List.extract_eq_take_drop];exact nJ (kB ▸ aB _)
 ·grind
theorem ET{z:V}(h:sc0 z):scal z z=true:=by
 cases z with
 |non=>rfl
 |bl b=>rfl
 |int i=>rfl
 |str x=>rfl
 |byt b=>exact eR h
 |flt b=>exact eR h
 |ref a=>exact eR h
 |ty a=>exact eR h
theorem qI(O:X.A.units+50<iN):OpR X (gi .NotEq) (fun x y H Q=>∃n,n<=20/\TEq H n x y/\Q (.bl false) H):=by
 intro pins s σ H x y v u Q I W V h;obtain⟨n,hn,d,q⟩:=h;have sc:∀z,sc0 z->x=z->y=z->aN (aW X.prog X.w) X.A (gi .NotEq v u) (EP X pins σ Q) X.xe s:=by
  rintro z hz rfl rfl;refine BN pins s σ H _ _ v u Q I W V {ET hz,?_};rw[Q3 rfl];exact q
 have U:=fun p Z e1 Y=>
  Il O pins s σ H x y v u Q I W V ⟨n,p,Z,hn,e1,Y,d,q⟩
 cases n with
 |zero=>exact sc x d.1 rfl d.2.symm
 |succ n=>
  rcases d with⟨h1,h2⟩|⟨p,Z,_,_,e1,Y,_⟩|⟨p,Z,_,_,e1,Y,_⟩
  ·exact sc x h1 rfl h2.symm
  ·exact U p Z e1 Y
  ·exact U p Z e1 Y
def Least(ks:List (List Key))(n:List Int):Prop:=n.map Sum.inl∈ks/\∀m:List Int,m.map Sum.inl∈ks->_H.lexLt m n=false
end
section
variable{X:Cx}{pins:List (ab×Obj)}{σ:St}{H:Hp}{s:aj}{d:ab}
theorem Inv.swap{o o':HO}(I:Inv X pins σ H s)(e:H d=Z8 o)(V:∀xs,o≠.t xs)(U:∀ps,o≠.tbl ps)(M:∀a,o≠.own a)(L:∀Z u,X.H₀ d≠Z8 (.frz Z u))(ok:gE X.prog X.w (upd H d o') s.heap d o'):Inv X pins σ (upd H d o') s:=by
 have Y:∀b,H b=Z7->upd H d o' b=Z7:=fun b z=>by
  rw[aV (aC e z).symm];exact z
 have W:∀b xs,H b=Z8 (.t xs)->upd H d o' b=Z8 (.t xs):=fun b xs z=>by
  rw[aV (cQ z e (fun q=>V xs q.symm))];exact z
 have O:∀b a,H b=Z8 (.own a)->upd H d o' b=Z8 (.own a):=fun b a z=>by
  rw[aV (cQ z e (fun q=>M a q.symm))];exact z
 refine{I.ok,I.os,I.bare,{I.base.keep,I.base.slot,fun b Z q n hx=>Y b (I.base.free b Z q n hx),I.base.there,fun b xs q=>W b xs (I.base.tups b xs q),fun b Z u q=>?_,fun b ps q=>?_},I.loc,I.cell,Y _ I.free,fun x c q=>Y c (I.freeC x c q),fun p hp=>?_,fun b u q=>?_,I.len}
 ·have z:=I.base.frzs b Z u q;rw[aV (fun y=>L Z u (by rw[<- y];exact q))];exact z
 ·obtain⟨more,z⟩:=I.base.tbls b ps q;refine{more,?_};rw[aV (cQ z e (fun y=>U _ y.symm))];exact z
 ·obtain⟨h1,h2,J⟩:=I.pin p hp;exact{h1,Y _ h2,J}
 ·by_cases z:b=d
  ·subst z;rw[ai]at q;injection q with q;subst q;exact ok
  ·rw[aV z]at q;exact (I.hok b u q).stay (fun c v _ y=>y) (fun c y=>O c b y) W
theorem Inv.freeze{kvs:List (Key×V)}(I:Inv X pins σ H s)(e:H d=Z8 (.dK kvs))(U:∀Z u,X.H₀ d≠Z8 (.frz Z u)):∃W,s.heap.get? d=Z8 W/\Inv X pins σ (upd H d (.frz W (.dK kvs))) s:=by
 obtain⟨h1,h2,vs,r,Z,es,ep,Y,O⟩:=(I.hok d _ e);exact{Z,Y,I.swap e (fun xs z=>by cases z) (fun ps z=>by cases z) (fun a z=>by cases z) U ⟨Y,h1,h2,vs,r,Z,es,ep,Y,O⟩}
theorem Inv.thaw{kvs:List (Key×V)}{Y:Obj}(I:Inv X pins σ H s)(e:H d=Z8 (.frz Y (.dK kvs)))(Z:∀W u,X.H₀ d≠Z8 (.frz W u)):Inv X pins σ (upd H d (.dK kvs)) s:=by
 obtain⟨_,h1⟩:=(I.hok d _ e);exact I.swap e (fun xs z=>by cases z) (fun ps z=>by cases z) (fun a z=>by cases z) Z h1
end
def Iti(d:ab)(Y:Obj)(kvs:List (Key×V)):It:=
 {fun i H=>H d=Z8 (.frz Y (.dK kvs))/\i<kvs.length,fun i H x H'=>∃t Z,x=.ref t/\H t=Z7/\kvs[i]?=Z8 Z/\H'=upd H t (.t [kV Z.1,Z.2]),fun i H=>H d=Z8 (.frz Y (.dK kvs))/\kvs.length<=i}
theorem KV.at_{kvs:List (Key×V)}{vs:List (Key×ae)}(r:KV kvs vs):∀{i:Nat} {Z:Key×V},kvs[i]?=Z8 Z->∃u,vs[i]?=Z8 (Z.1,u)/\RelV Z.2 u:=by
 induction r with
 |nil=>intro i Z h;simp at h
 |cons a _ Y=>
  intro i Z h
  cases i with
  |zero=>
   simp at h;subst h;exact{_,by rw[List.getElem?_cons_zero,a.1],a.2}
  |succ i=>
   obtain⟨u,h1,h2⟩:=Y (by simpa using h);exact{u,by simpa using h1,h2}
theorem Cf{P:aP}{w:bF}{k:Key}{u:ae}(h:(eF P w).is k u=true):RelV (kV k) u:=by
 rcases gD h with⟨i,t,rfl,rfl⟩|⟨x,t,rfl,rfl⟩
 ·exact⟨t,Z9⟩
 ·exact⟨t,Z9⟩
theorem l8:tS Jq "dict_itemiterator.__iter__"=Z8 fi.«dict_keyiterator.__iter__»:=
 yG (id':="dict_keyiterator.__iter__") (by kernel_rfl) rfl (by decide +kernel) (by kernel_rfl)
section
variable{P:aP}{w:bF}{K:ag}
def qJ(o:Obj):Nat:=match o.data with|.dict _ ep=>ep|_=>0
theorem qK{X:Cx}{pins:List (ab×Obj)}{σ:St}{H:Hp}{s:aj}{d:ab}{Y:Obj}{kvs:List (Key×V)}(I:Inv X pins σ H s)(e:H d=Z8 (.frz Y (.dK kvs))):∃vs,KV kvs vs/\s.heap.DictAt (eF X.prog X.w) d vs (qJ Y):=by
 refine Z0 fun D M=>?_;obtain⟨U,h1,h2,vs,r,B,es,ep,Z,L,W,J⟩:=(I.hok d _ e);refine M ?_;rw[U]at Z;injection Z with Z;subst Z;have O:qJ Y=ep:=by
  unfold qJ;rw[W]
 rw[O];exact⟨vs,r,Y,es,U,L,W,J⟩
theorem yI{elts:List cH} {x1} {pos:Pos} (d it:ab) (od:Obj) (kvs:List (Key×V)) (bI:d≠it):tM P w K (.Tuple elts x1 pos) (Iti d od kvs) [it] it (fun i h=>∃ok Y,j1 h it d i kvs.length (qJ od) ok Y) where
 mem:=by simp
 obj:=fun i h st b hb=>by
  have e:b=it:=by simpa using hb
  subst e;obtain⟨ok,Y,e⟩:=st;exact{_,e,fun v z=>by cases z}
 keep:=fun i h h' ⟨ok,Y,st⟩ k=>{ok,Y,k it (by simp) _ st}
 item:=by
  intro X hP hw hK hc i pins s σ H E I hf st f;refine Z0 fun Gz gz=>?_;subst hP hw hK;obtain⟨ok,Y,st⟩:=st;obtain⟨hd,hi⟩:=f;obtain⟨vs,r,da⟩:=qK I hd;have g:=r.length;have U:=aA hi;obtain⟨u,hu,ru⟩:=r.at_ U;obtain⟨O,f1,f2,t,B,J⟩:=hf it (by simp);refine gz ?_;rw[g]at st;refine wpAny_pyNext_items_item st da hu fun key h' hk M bP bG kp=>{_,Z9,ye M fun h2 W sb=>?_};have Z:=(I.turned (t':=s.toks) (fun b o hb e=>kp b o hb e) O f1 t B J).turned (t':=s.toks) (fun b o hb e=>sb.extBut b o hb e) O f1 t B J;have fr:=I.hok.fresh (aB _);have L:=(aG (aI st)).symm;have I3:Inv X pins σ (upd H s.heap.objs.size (.t [kV kvs[i].1,kvs[i].2])) {s with heap:=h2}:=by
   exact⟨Z.ok,Z.os,Z.bare,⟨Z.base.keep,Z.base.slot,fun b D q n hx=>by
     have z:=Z.base.free b D q n hx
     by_cases y:b=s.heap.objs.size
     ·exfalso;have lt:=aZ (aI q) I.sz;rw[y]at lt;exact Q7 lt (fh _)
     ·rw[aV y];exact z,Z.base.there,fun b xs q=>by
     rw[aV (aC (Z.base.tups b xs q) fr)];exact Z.base.tups b xs q,fun b D v q=>by
     rw[aV (aC (Z.base.frzs b D v q) fr)];exact Z.base.frzs b D v q,fun b ps q=>by
     obtain⟨m,z⟩:=Z.base.tbls b ps q;exact{m,by rw[aV (aC z fr)];exact z}⟩,Z.loc,Z.cell,by
     rw[aV (aG I.lt)];exact Z.free,fun x c q=>by
     obtain⟨v,y⟩:=I.cell x c q;rw[aV (aG y.lt)];exact Z.freeC x c q,fun p hp=>by
     obtain⟨h1,bR,h3⟩:=Z.pin p hp;obtain⟨g1,_⟩:=I.pin p hp;refine{h1,?_,h3};rw[aV (aG (aI g1))];exact bR,fun b v q=>by
     by_cases y:b=s.heap.objs.size
     ·subst y;rw[ai]at q;injection q with q;subst q;exact{(by show 2<=aF;decide),[key,u],.cons (Cf hk) (.cons ru .nil),_,(sb.extBut _ _ L bP),Z9,0,Z9}
     ·rw[aV y]at q;exact (Z.hok b v q).stay (fun c v' _ z=>z) (fun c z=>by rw[aV (aC z fr)];exact z) fun c xs z=>by rw[aV (aC z fr)];exact z,Z.len⟩
  refine{.ref s.heap.objs.size,_,I3,Z9,{_,_,Z9,fr,U,Z9},{_,_,by rw[g];exact W},fun b hb=>?_};have e:b=it:=by simpa using hb
  subst e;rw[aV (cE L)];exact O
 done:=by
  intro X hP hw hK hc i pins s σ H E I hf st f;refine Z0 fun Gz gz=>?_;subst hP hw hK;obtain⟨ok,Y,st⟩:=st;obtain⟨hd,hi⟩:=f;obtain⟨vs,r,da⟩:=qK I hd;have g:=r.length;obtain⟨O,f1,f2,t,B,J⟩:=hf it (by simp);refine gz ?_;rw[g]at st;exact wpAny_pyNext_items_end (I.ok.hd hc) st da (yJ (by lia)) fun h' eb=>{Z9,I.turned (t':=s.toks) (fun b o hb e=>eb b o hb e) O f1 t B J}
 self:=fun A i s Q E ⟨ok,Y,st⟩ h=>by
  have ty:s.TypeIs (.ref it) "dict_itemiterator":={_,st,Z9};exact ft ty F.slot_dict_itemiterator_iter (cy F.slot_dict_itemiterator_iter ty l8 (af {_,Z9,"dict_itemiterator",_,ty,F.slot_dict_itemiterator_next.lookup,h}) (F.args_dict_itemiterator_iter_1 _))
end
section
variable{X:Cx}{o:cH}{to:TE}{apos cpos:Pos}{elts:List cH}{x1:Nat}{pos:Pos}
def Iq(X:Cx)(to:TE):TI:=fun σ H R=>to σ H fun x H1=>∃d kvs,x=.ref d/\H1 d=Z8 (.dK kvs)/\(∀Y u,X.H₀ d≠Z8 (.frz Y u))/\∀Z,R (Iti d Z kvs) (upd H1 d (.frz Z (.dK kvs)))
theorem Cg(z:PE X o to)(Z:gW o "items" X.env (eY o X.env)=eY o X.env:=by rfl)(Y:(apos.endLine==cpos.line)=true:=by rfl):PI X (.Tuple elts x1 pos) (.Call (.Attribute o "items" apos) [] [] cpos) (Iq X to):=by
 intro pins s σ H R I h;refine iO Z Y (thn (z pins s σ H _ I h) fun v J qz=>Z0 fun Gz f=>?_);obtain⟨x,H1,L,g,d,kvs,ex,M,nf,q⟩:=qz;subst ex;subst g;obtain⟨hz,D,t,k1,V⟩:=(L.hok d _ M);obtain⟨O,_,_,B,y,_⟩:=id V;refine f ({"dict","dict.items",ir,jD,uH,V.typeIs,fun a e=>?_,ff rfl (jf ?_)})
 ·injection e with e;subst e;exact⟨O,B,y.2.1⟩
 refine lY jD V.typeIs tV (tH _) (meets_dict_items (eF X.prog X.w) d D) {⟨t,V⟩,?_};obtain⟨U,g3,W⟩:=(L.kept (t':=J.toks) fun b O q=>aq _ q).freeze M nf;obtain⟨vs,r,da⟩:=qK W (ai:upd H1 d (.frz U (.dK kvs)) d=_);refine wpAny_pyIter_items {_,aE _ rfl,Z9,Z9} da ?_;refine{_,[_],_,_,_,Z9,W.kept (t':=J.toks) fun b O q=>aq _ q,yI d _ U kvs (aG (aI g3)),{.none,.none,?_},fun b hb=>?_,q U}
 ·rw[r.length];exact aE _ rfl
 ·have e:=aH.mp hb;subst e;exact W.fpOk (aB _) (W.hok.fresh (aB _))
end
theorem AN{d:ab}{O:Obj}{kvs:List (Key×V)}{g:TG}{tb:TS}{D:jW}{σ:St}{H:Hp}(Z:Nat->St->Hp->Prop)(h0:Z 0 σ H)(B:∀i σ H,i<=kvs.length->Z i σ H->H d=Z8 (.frz O (.dK kvs)))
  (hs:∀i U t σ H,kvs[i]?=Z8 U->Z i σ H->H t=Z7->g (.ref t) σ (upd H t (.t [kV U.1,U.2])) fun X H2=>tb {D with nx:=Z (i+1),ct:=Z (i+1),bk:=D.nx} X H2) (L:∀σ H,Z kvs.length σ H->D.nx σ H) :
  ∃W:Nat->Nat->St->Hp->Prop,(∃m,W 0 m σ H)/\∀i m σ H,W i m σ H ->
   ((Iti d O kvs).stop i H/\D.nx σ H)\/((Iti d O kvs).go i H/\∃N:St->Hp->Prop,(∀Y H',N Y H'->∃M,M<m/\W (i+1) M Y H')/\∀x H',(Iti d O kvs).yld i H x H'->g x σ H' fun X H2=>tb {D with nx:=N,ct:=N,bk:=D.nx} X H2):=by
 refine{fun i m σ H=>m=kvs.length-i/\i<=kvs.length/\Z i σ H,{kvs.length,by simp,aO _,h0},?_};rintro i m σ H ⟨rfl,hi,p⟩;have q:=B i σ H hi p
 by_cases lt:i<kvs.length
 ·refine .inr {⟨q,lt⟩,Z (i+1),fun Y H' I=>{kvs.length-(i+1),by lia,Z9,lt,I},fun x H' y=>?_};obtain⟨t,U,rfl,J,hk,rfl⟩:=y;exact hs i U t σ H hk p J
 ·have e:i=kvs.length:=by lia
  subst e;exact .inl {{q,aB _},L σ H p}
def F4(X:Cx)(D:jW):jW where
 nx:=fun σ H=>∃d Z kvs,H d=Z8 (.frz Z (.dK kvs))/\(∀Y u,X.H₀ d≠Z8 (.frz Y u))/\D.nx σ (upd H d (.dK kvs))
 rt:=D.rt
 bk:=D.bk
 ct:=D.ct
theorem vK{X:Cx}{st:dI}{t:TS}(h:PS X st t):PS X st (fun D σ H=>t (F4 X D) σ H):=by
 intro pins s σ H D I q;refine thn (h pins s σ H (F4 X D) I q) fun fl V z=>?_
 cases fl with
 |next=>
  obtain⟨Z,H',Y,d,U,kvs,e,W,y⟩:=z;exact{Z,_,Y.thaw e W,y}
 |brk=>exact z
 |cont=>exact z
 |ret u=>exact z
end _L
namespace _L
open PySem PySem.Spec PyProof.Rows PySem.SeqAt
section
variable{P:aP}{w:bF}{H:Hp}{s:aj}
end
section
variable{X:Cx}
end
end _L
namespace _L
open PySem PySem.Spec PyProof.Rows
section
variable{prog:aP}{w:bF}{A:cm}{E:ae->aj->Prop}{s:aj}
end
section
variable{X:Cx}
end
section
variable{prog:aP}{w:bF}{A:cm}{E:ae->aj->Prop}{s:aj}{K:ag}{x C:ab}{ox:Obj}
end
section
variable{X:Cx}{pins:List (ab×Obj)}{σ:St}{H:Hp}{s:aj}
end
section
variable{P:aP}{w:bF}{H:Hp}{h h':cz}{a:ab}{o:HO}{fs ex:List ab}
end
section
variable{X:Cx}{pins:List (ab×Obj)}{σ:St}{H:Hp}{s:aj}{C:ab}{x:Str}{p pos:Pos}{e:cH}{es:List cH}{t:TA}
end
section
variable{X:Cx}{CX:CXT}{k:Nat}{f C:ab}{fd:bS}{ps:List Str}{sp:Sp}{E:XK}{m:Str}{pos apos:Pos}{o:cH}{ta:TE}
end
section
variable{X:Cx}{pins:List (ab×Obj)}{σ:St}{H:Hp}{s:aj}
end
section
variable{X:Cx}{pins:List (ab×Obj)}{σ:St}{H:Hp}{s s2:aj}{h':cz}
theorem Inv.turned2{t':Nat}{e it:ab}(I:Inv X pins σ H s)(k:∀b o,b≠e->b≠it->s.heap.get? b=Z8 o->h'.get? b=Z8 o)(f:vp X pins H e)(g:vp X pins H it):Inv X pins σ H {s with heap:=h',toks:=t'}:=by
 have Z:∀b u,H b=Z8 u->b≠e:=fun b u q z=>by rw[z,f.1]at q;cases q
 have Y:∀b u,H b=Z8 u->b≠it:=fun b u q z=>by rw[z,g.1]at q;cases q
 refine Z0 fun d t=>?_;obtain⟨f0,f1,f2,J,L,U⟩:=f;obtain⟨g0,W,g2,O,y,V⟩:=g;refine t (I.step (g':=s.gens) (d':=s.drawn) (ch:=[e,it]) (fun b hb=>?_) (fun b o _ _ hc q _=>k b o (fun z=>hc (by simp[z])) (fun z=>hc (by simp[z])) q) (fun b o _ _ hc q _=>{o.slots,k b o (fun z=>hc (by simp[z])) (fun z=>hc (by simp[z])) q}) (fun _ _ _ _ n=>n)
  (fun b o hc q=>{o,k b o (fun z=>hc (by simp[z])) (fun z=>hc (by simp[z])) q}) (fun _ _ q=>q) (fun _ _ _ q=>q) (fun b ps q=>{#[],by rw[q];simp}) (fun m B=>?_) (fun b u q=>?_) I.bare)
 ·rcases aD.mp hb with z|z
  ·subst z;exact⟨J,f1,L,U⟩
  ·have z:=aH.mp z;subst z;exact⟨O,W,y,V⟩
 ·obtain⟨o,es,ep,D,r⟩:=B;exact{o,es,ep,k _ o (cE f1) (cE W) D,r}
 ·refine (I.hok b u q).stay (fun c v hc M=>k c v ?_ ?_ M) (fun _ q=>q) fun _ _ q=>q
  ·rcases hc with z|z
   ·rw[z];exact Z b u q
   ·exact Z c _ z
  ·rcases hc with z|z
   ·rw[z];exact Y b u q
   ·exact Y c _ z
theorem Inv.track{o:HO}(I:Inv X pins σ H s)(Z:Inv X pins σ H s2)(ok:gE X.prog X.w (upd H s.heap.objs.size o) s2.heap s.heap.objs.size o):Inv X pins σ (upd H s.heap.objs.size o) s2:=by
 have fr:=I.hok.fresh (aB _);exact⟨Z.ok,Z.os,Z.bare,⟨Z.base.keep,Z.base.slot,fun b Y q n hx=>by
   have z:=Z.base.free b Y q n hx
   by_cases y:b=s.heap.objs.size
   ·exfalso;have lt:=aZ (aI q) I.sz;rw[y]at lt;exact Q7 lt (fh _)
   ·rw[aV y];exact z,Z.base.there,fun b xs q=>by
   rw[aV (aC (Z.base.tups b xs q) fr)];exact Z.base.tups b xs q,fun b Y v q=>by
   rw[aV (aC (Z.base.frzs b Y v q) fr)];exact Z.base.frzs b Y v q,fun b ps q=>by
   obtain⟨m,z⟩:=Z.base.tbls b ps q;exact{m,(aV (aC z fr)) ▸ z}⟩,Z.loc,Z.cell,by
   rw[aV (aG I.lt)];exact Z.free,fun x c q=>by
   obtain⟨v,y⟩:=I.cell x c q;rw[aV (aG y.lt)];exact Z.freeC x c q,fun p hp=>by
   obtain⟨h1,W,U⟩:=Z.pin p hp;obtain⟨V,_⟩:=I.pin p hp;refine{h1,?_,U};rw[aV (aG (aI V))];exact W,fun b v q=>by
   by_cases y:b=s.heap.objs.size
   ·subst y;rw[ai]at q;injection q with q;subst q;exact ok
   ·rw[aV y]at q;exact (Z.hok b v q).stay (fun c O _ z=>z) (fun c z=>(aV (aC z fr)) ▸ z) fun c xs z=>(aV (aC z fr)) ▸ z,Z.len⟩
end
def Ite(K:ag)(a:ab):It:=
 {fun i H=>∃xs x,SqL K H a xs/\xs[i]?=Z8 x,fun i H x H'=>∃t y,x=.ref t/\H t=Z7/\(∀xs,SqL K H a xs->xs[i]?=Z8 y)/\H'=upd H t (.t [.int i,y]),fun i H=>∃xs,SqL K H a xs/\xs.length<=i}
section
variable{P:aP}{w:bF}{K:ag}
theorem AO{elts:List cH} {x1} {pos:Pos} (a e it:ab) (W:e≠it):tM P w K (.Tuple elts x1 pos) (Ite K a) [e,it] e (fun i h=>∃old,IsEnum h e it (i:Int) old/\h.IsListIter it a i) where
 mem:=by simp
 obj:=fun i h st b hb=>by
  obtain⟨old,h1,h2⟩:=st
  rcases aD.mp hb with z|z
  ·simp_all
  ·have z:=aH.mp z;subst z;obtain⟨o,e,c,d⟩:=h2;exact{o,e,fun v z=>by rw[d]at z;cases z}
 keep:=fun i h h' ⟨old,h1,h2⟩ k=>{old,k e (by simp) _ h1,h2.at fun o q=>k it (by simp) o q}
 item:=by
  intro X M hw D hc i pins s σ H E I V st O;refine Z0 fun Gz J=>?_;subst M hw D;obtain⟨old,Z,Y⟩:=st;obtain⟨xs,x,hq,hx⟩:=O;obtain⟨its,t,p,hz⟩:=I.list hq;obtain⟨u,hu,ru⟩:=t.get hx;have F1:=V e (by simp);have F2:=V it (by simp);obtain⟨U,f1,f,y,B,L⟩:=id F1;refine J (wpAny_pyNext_enum_item Z Y p.isList (by simpa using hu) W fun h' a1 a2 a3 a4 a5=>{_,Z9,wpAny_letOwnedTupleGo_enum a1 fun h2 e2 r=>?_});have g:=(aG (aI Z)).symm;have n2:s.heap.objs.size≠it:=by
   obtain⟨o,q,_⟩:=Y;exact (aG (aI q)).symm
  refine{.ref s.heap.objs.size,_,(I.track ((I.turned2 (t':=s.toks+1) (fun b o h1 h2 q=>a5 b o h1 h2 q) F1 F2).turned (t':=s.toks+1) (fun b o hb q=>r.extBut b o hb q) U f1 y B L) (o:=.t [.int i,x]) {(by show 2<=aF;decide),[.int i s.toks,u],.cons {_,Z9} (.cons ru .nil),_,(r.extBut _ _ g a3),Z9,0,Z9}),Z9,{_,x,Z9,(I.hok.fresh (aB _)),fun ys hy=>(I.list_inj hy hq) ▸ hx,Z9},{u,e2,a2.extBut r.extBut (cE W)},fun b hb=>?_}
  rcases aD.mp hb with z|z
  ·rw[z,aV (cE g)];exact U
  ·rw[aH.mp z,aV (cE n2)];exact F2.1
 done:=by
  intro X M hw D hc i pins s σ H E I V st O;refine Z0 fun Gz J=>?_;subst M hw D;obtain⟨old,Z,Y⟩:=st;obtain⟨xs,hq,hx⟩:=O;obtain⟨its,t,p,hz⟩:=I.list hq;obtain⟨U,f1,f,y,B,L⟩:=V it (by simp);refine J ?_;have hl:=t.length;exact wpAny_pyNext_enum_end (I.ok.hd hc) Z Y p.isList (by simp;lia) fun h' eb=>{Z9,I.turned (t':=s.toks) (fun b o hb e=>eb b o hb e) U f1 y B L}
 self:=fun A i s Q E ⟨old,st,_⟩ h=>by
  have ty:s.TypeIs (.ref e) "enumerate":={_,st,Z9};exact ft ty F.slot_enumerate_iter (cy F.slot_enumerate_iter ty F.entry_enumerate_iter (af {_,Z9,"enumerate",_,ty,F.slot_enumerate_next.lookup,h}) (F.args_enumerate_iter_1 _))
end
section
variable{X:Cx}{elts:List cH}{x1:Nat}{tpos pos p:Pos}
def F6(K:ag)(tl:TA):TI:=fun σ H R=>tl σ H fun vs H1=>∃a,vs=[.ref a]/\(∃xs,SqL K H1 a xs)/\R (Ite K a) H1
theorem rJ{a:cH}{ta:TA}(V:Gl X "enumerate")(L:X.mg "enumerate"=Z7)(ha:PA X [a] ta)(hs:cL [a] X.env=[(false,eY a X.env)]:=by rfl):PI X (.Tuple elts x1 tpos) (.Call (.Name "enumerate" p) [a] [] pos) (F6 X.K ta):=by
 intro pins s σ H R I h;refine Call_ (pw I V L boot_enumerate (j9 (thn (ha pos pins s σ H _ I h) fun us Y ⟨vs,H1,Z,W,M⟩=>?_) hs rfl));obtain⟨l,e,⟨xs,hq⟩,q⟩:=M;subst e;obtain⟨u,rfl,U⟩:=vals1 W;subst U;obtain⟨its,B,D,hz⟩:=Z.list hq;refine call_enumerate_list D.isList fun h' e1 O e3 J=>?_;have ty:({Y with heap:=h'}:aj).TypeIs (.ref (Y.heap.objs.size+1)) "enumerate":={_,e1,Z9};refine ft ty F.slot_enumerate_iter (cy F.slot_enumerate_iter ty F.entry_enumerate_iter (af {_,Z9,"enumerate",_,ty,F.slot_enumerate_next.lookup,{_,[_,_],_,_,H1,Z9,(Z.kept (t':=Y.toks) J),AO l _ Y.heap.objs.size (Nat.succ_ne_self _),{.none,e1,O},fun b hb=>?_,q}}) (F.args_enumerate_iter_1 _))
 rcases aD.mp hb with z|z
 ·rw[z];exact Z.fpOk (gO _) (Z.hok.fresh (gO _))
 ·rw[aH.mp z];exact Z.fpOk (aB _) (Z.hok.fresh (aB _))
theorem AQ{K:ag}{a:ab}{xs:List V}{n:Nat}{g:TG}{tc:TT}{te:TE}{σ:St}{H:Hp}{Q:VK}(Y:Nat->List V->Hp->Prop)(h0:Y 0 [] H)(B:∀i ys H,i<=xs.length->Y i ys H->SqL K H a xs/\ys.length<aF)
  (hs:∀i x t ys H,xs[i]?=Z8 x->Y i ys H->H t=Z7->g (.ref t) (aQ n Z7++σ) (upd H t (.t [.int i,x])) fun Z H2=>Z.drop n=σ/\tc Z H2 fun b O=>if b=true then te Z O fun y M=>Y (i+1) (ys++[y]) M else Y (i+1) ys O)
  (J:∀ys H,Y xs.length ys H->∀p,H p=Z7->Q (.ref p) (upd H p (.l ys))) :
  ∃W:Nat->Nat->List V->Hp->Prop,(∃m,W 0 m [] H)/\∀i m ys H,W i m ys H->ys.length<aF/\(((Ite K a).stop i H/\∀p,H p=Z7->Q (.ref p) (upd H p (.l ys))) \/
   ((Ite K a).go i H/\∃N:List V->Hp->Prop,(∀X H',N X H'->∃L,L<m/\W (i+1) L X H')/\∀x H',(Ite K a).yld i H x H'->g x (aQ n Z7++σ) H' fun Z H2=>Z.drop n=σ/\tc Z H2 fun b O=>
    if b=true then te Z O fun y M=>N (ys++[y]) M else N ys O)):=by
 refine{fun i m ys H=>m=xs.length-i/\i<=xs.length/\Y i ys H,{xs.length,by simp,aO _,h0},?_};rintro i m ys H ⟨rfl,hi,p⟩;obtain⟨q,z⟩:=B i ys H hi p;refine{z,?_}
 by_cases U:i<xs.length
 ·refine .inr {{xs,xs[i],q,by simp[U]},Y (i+1),fun X H' D=>{xs.length-(i+1),by lia,Z9,U,D},fun x H' y=>?_};obtain⟨t,v,rfl,I,hv,rfl⟩:=y;exact hs i v t ys H (hv xs q) p I
 ·have e:i=xs.length:=by lia
  subst e;exact .inl {{xs,q,aB _},J ys H p}
end
section
variable{prog:aP}{w:bF}{A:cm}{E:ae->aj->Prop}{s:aj}
end
section
variable{X:Cx}{e:cH}{t:TA}{p pos kp bp:Pos}{j:Nat}
end
section
variable{X:Cx}
end
section
variable{X:Cx}{CX:CXT}{k:Nat}{ι:Type}{fm C:ι->ab}{fd:ι->bS}{ps:List Str}{sp:ι->Sp}{E:XK}{m:Str}{pos apos:Pos}{o:cH}{ta:TE}
end
end _L
namespace _H
open PySem PyProof.Rows
open PySem.SeqAt
open PySem.AutoSeq1 (wpAny_loadPart')
open PySem.MeetsSeq PySem.MeetsSeq2 PySem.MeetsSeq3
end _H
namespace _L
open PySem PySem.Spec PyProof.Rows
section
variable{X:Cx}
end
end _L
namespace _L
open PySem PySem.W PyProof.Rows _H
section
variable{r:Nat->List Int}{n:Nat}
end
end _L
namespace _L
open PySem PySem.W PySem.Spec PyProof.Rows _H
section
variable{prog:aP}{w:bF}{A:cm}{E:ae->aj->Prop}{s:aj}
end
section
variable{X:Cx}{e:cH}{t:TA}{p pos kp bp:Pos}{j:Nat}
end
end _L
namespace PySem
open SeqAt MeetsSeq MeetsSeq2 MeetsSeq3 SeqRoads2
section
variable{prog:aP}{w:bF}{A:cm}{s:aj}
variable{K:Type}[DecidableEq K]{knd:KeyKind prog w K}
end
end PySem
namespace _L
open PySem PySem.Spec PyProof.Rows PySem.SeqAt
section
variable{X:Cx}
theorem uI:MtR X "list.clear" (fun x vs H Q=>∃l xs,x=.ref l/\vs=[]/\H l=Z8 (.l xs)/\Q .non (upd H l (.l []))):=by
 intro pins s σ H x vs v us Q I Y W h;obtain⟨l,xs,rfl,rfl,Z,q⟩:=h
 cases Y
 cases W;obtain⟨z,its,n,r,V,e⟩:=I.lstM Z;refine sd F.slot_list_clear {_,e,Z9} F.entry_list_clear (F.args_list_clear_1 _) (AutoSeq1.list_clear_list_0 l its.toArray n (by rw[bj];omega)) {e,?_};exact{.non,_,I.lset (its':=[]) Z e (by simp) .nil (aO _),Z9,q}
end
end _L
namespace _L
open PySem PySem.Spec PyProof.Rows
section
variable{X:Cx}
end
section
variable{X:Cx}
theorem uJ(hu:X.A.units+2<iN)(hc:X.calm=true):kN X (.builtin "min") (fun xs H Q=>∃l W Z,xs=[V.ref l]/\H l=Z8 (.l (W.map V.ref))/\jz H W Z/\Z≠[]/\∀(a:ab) (n:List Int),a∈W->n∈Z->H a=Z8 (.t (n.map V.int))->(∀m∈Z,_H.lexLt m n=false)->Q (.ref a) H):=by
 intro pins s σ H xs us Q I r h;obtain⟨l,W,Z,rfl,hl,ht,ne,q⟩:=h;obtain⟨u,rfl,ru⟩:=vals1 r
 cases ru;obtain⟨its,rv,pl,hz⟩:=I.list (SqL.of hl);have D:l<s.heap.objs.size:=let ⟨_,Y,_⟩:=pl.isList;aI Y;have L:its.toArray.size=Z.length:=by
  rw[bj,<- rv.length,ak];exact ht.length
 have B:0<its.toArray.size:=by
  rw[L];exact pQ.mpr ne
 have key:∀(i:Nat) (v:ae),its.toArray[i]?=Z8 v->∃(a:ab) (n:List Int),v=Value.ref a/\W[i]?=Z8 a/\Z[i]?=Z8 n/\H a=Z8 (.t (n.map V.int)):=by
  intro i v hv;have J:its[i]?=Z8 v:=by simpa using hv
  have li:i<W.length:=by
   have:=(ay.mp J).1;have:=rv.length;rw[ak]at this;omega
  have ea:(W.map V.ref)[i]?=Z8 (.ref W[i]):=by rw[bD,aA li];rfl
  obtain⟨w',hw,ck⟩:=rv.get ea;rw[J]at hw
  cases hw
  cases ck;obtain⟨n,hn,ci⟩:=ht.get (aA li);exact{_,n,Z9,aA li,hn,ci}
 refine yF (kH pl.isList ?_);refine⟨s.heap.objs.size,[s.heap.objs.size,l],[s.heap.objs.size],its.toArray.size,_,_,fun h=>∀b o ys,H b=Z8 (.t ys)->s.heap.get? b=Z8 o->h.get? b=Z8 o,fun i j=>_H.lexLt ((Z[i]?).getD []) ((Z[j]?).getD []),Z9,
  AR (A:=X.A.in1) (I.ok.hd hc) s.heap.objs.size l (aG D) its.toArray,{{_,aE _ rfl,Z9,Z9},pl.isList.at fun o e=>aq _ e},fun b o ys _ e=>aq _ e,?_,B,?_,?_,?_⟩
 ·intro b cl;rw[eA]
  rcases aD.mp cl with e|e
  ·rw[e];exact iH _
  ·rw[aH.mp e];exact dD D
 ·rintro i j vi vj s' Q' E' hi t g f;obtain⟨b1,n,rfl,_,d,y⟩:=key i vi hi;obtain⟨b2,m,rfl,_,d3,d4⟩:=key j vj t;have f:Q' (.bool (_H.lexLt ((Z[i]?).getD []) ((Z[j]?).getD []))) s':=f;rw[d,d3]at f;obtain⟨O,r1,p1,_⟩:=I.tuple (SqT.of y);obtain⟨M,r2,p2,_⟩:=I.tuple (SqT.of d4);have i1:dY O.toArray.toList n:=intsAre_of r1;have i2:dY M.toArray.toList m:=intsAre_of r2;have t1:wx s'.heap b1 O.toArray:=let ⟨o,Y,rest⟩:=p1;{o,g _ _ _ y Y,rest};have t2:wx s'.heap b2 M.toArray:=let ⟨o,Y,rest⟩:=p2;{o,g _ _ _ d4 Y,rest};exact _H.lt_tupInts (A:=X.A.in1) t1 t2 i1 i2 (by show X.A.units+1<iN;omega) f
 ·intro h1 h2 g kp b o ys hy Y;have lt:=aI Y;refine kp b o (fun e=>aG lt (aH.mp e)) (fun e=>?_) (g b o ys hy Y);rw[eA]at e;exact aG (dD lt) e
 ·rintro v h' tk hv kp;obtain⟨a,n,rfl,c2,d,y⟩:=key _ v hv;obtain⟨_,U⟩:=_H.best_le (fun i=>(Z[i]?).getD []) (its.toArray.size-1);rw[d]at U;refine{.ref a,H,I.kept (t':=tk) fun b o Y=>kp b o (fun e=>aG (aI Y) (aH.mp e)) (aq _ Y),Z9,q a n (aK c2) (aK d) y fun m hm=>?_};obtain⟨j,t⟩:=cP hm;have lj:=(ay.mp t).1;have z:=U j (by omega);rw[t]at z;exact z
end
theorem Ci{n m:Nat}{g:TG}{tc:TT}{te:TE}{σ:St}{H:Hp}{Q:VK}(Y:Nat->List V->Hp->Prop)(h0:Y 0 [] H)(D:∀i ys H,i<=m->Y i ys H->ys.length<aF)
  (hs:∀i ys H,i<m->Y i ys H->g (.int (0+i)) (aQ n Z7++σ) H fun Z H2=>Z.drop n=σ/\tc Z H2 fun b O=>if b=true then te Z O fun y M=>Y (i+1) (ys++[y]) M else Y (i+1) ys O)
  (J:∀ys H,Y m ys H->∀p,H p=Z7->Q (.ref p) (upd H p (.l ys))) :
  ∃W:Nat->Nat->List V->Hp->Prop,(∃k,W 0 k [] H)/\∀i k ys H,W i k ys H->ys.length<aF/\(((Itr 0 m).stop i H/\∀p,H p=Z7->Q (.ref p) (upd H p (.l ys))) \/
   ((Itr 0 m).go i H/\∃N:List V->Hp->Prop,(∀U H',N U H'->∃L,L<k/\W (i+1) L U H')/\∀x H',(Itr 0 m).yld i H x H'->g x (aQ n Z7++σ) H' fun Z H2=>Z.drop n=σ/\tc Z H2 fun b O=>
    if b=true then te Z O fun y M=>N (ys++[y]) M else N ys O)):=by
 refine{fun i k ys H=>k=m-i/\i<=m/\Y i ys H,{m,by simp,aO _,h0},?_};rintro i k ys H ⟨rfl,hi,X⟩;refine{D i ys H hi X,?_}
 by_cases lt:i<m
 ·refine .inr {lt,Y (i+1),fun U H' I=>{m-(i+1),by omega,Z9,lt,I},fun x H' y=>?_};obtain⟨e,y⟩:=y;subst e y;exact hs i ys _ lt X
 ·have e:i=m:=by omega
  subst e;exact .inl {aB _,J ys H X}
end _L
namespace _M
open PySem _L
def top(i:Nat):dI:=PySem.Challenge.pw_momentloom_k28_halls_at_their_beginning.main.body.getD i (.Pass {0,0,0,0})
abbrev me:dI:=top 2
abbrev mO:dI:=d6 (top 3) 0
abbrev kT:dI:=d6 (top 4) 0
abbrev jg:dI:=top 5
abbrev k7:dI:=top 7
abbrev qj:dI:=top 8
abbrev mf:dI:=top 9
abbrev jt:dI:=d6 (top 11) 0
abbrev iX:dI:=d6 (top 11) 1
abbrev iw:dI:=d6 (top 11) 3
abbrev gL:dI:=d6 (top 11) 6
abbrev xj:dI:=top 41
abbrev qZ:dI:=top 43
abbrev sE:dI:=top 44
abbrev oC:dI:=d6 (top 45) 0
abbrev iI:dI:=d6 (top 45) 1
abbrev ix:dI:=d6 (top 45) 2
abbrev g8:dI:=d6 (top 45) 4
abbrev g9:dI:=d6 (top 45) 9
abbrev oE:dI:=d6 (top 46) 0
abbrev jL:dI:=d6 (top 46) 1
abbrev gM:dI:=top 48
abbrev gb:dI:=top 50
abbrev ju:dI:=top 51
abbrev oF:dI:=d6 (top 52) 0
abbrev iy:dI:=d6 (top 52) 1
abbrev fb:dI:=d6 (top 52) 2
abbrev jh:dI:=d6 (top 52) 3
abbrev eI:dI:=d6 (top 52) 4
abbrev kl:dI:=d6 (top 52) 5
abbrev mQ:dI:=d6 (top 52) 6
abbrev lA:dI:=d6 (top 52) 7
abbrev fG:dI:=d6 (top 52) 9
abbrev ji:dI:=d6 (top 52) 10
abbrev jE:dI:=d6 (top 52) 11
abbrev iY:dI:=d6 (top 52) 12
abbrev iz:dI:=d6 (top 52) 13
abbrev j2:dI:=d6 (top 52) 14
abbrev hJ:dI:=d6 (top 52) 15
abbrev km:dI:=top 54
abbrev lL:dI:=top 55
abbrev eE:dI:=top 56
abbrev kr:dI:=top 57
abbrev iZ:dI:=top 58
abbrev hX:dI:=top 59
abbrev lB:dI:=top 60
abbrev lC:dI:=top 61
abbrev jF:dI:=top 62
abbrev jj:dI:=top 63
abbrev kx:dI:=top 64
abbrev kz:dI:=top 65
abbrev hZ:dI:=top 66
abbrev lD:dI:=top 68
abbrev iD:dI:=top 69
abbrev jk:dI:=top 70
abbrev ia:dI:=top 71
abbrev kA:dI:=top 75
abbrev Cj:dI:=top 76
structure Df(K:ag)(mg:Str->Option ae)(x:Str)(st:dI)(ps:List Str)(f:ab)(fd:bS):Prop where
 F:Fun K x x st f fd
 b:Binds K fd ps []
 m:mg x=Z8 (.ref f)
theorem pcl{X:Cx}{k:Nat}{x:Str}{st:dI}{ps:List Str}{f:ab}{fd:bS}{sp:Sp}{e:cH}{es:List cH}{t:TA}{p pos:Pos}(F:bO X.prog X.w X.K X.mg X.base CX0 k f fd ps sp)(W:dC k X.A)(D:Df X.K X.mg x st ps f fd)(ha:PA X (e::es) t)(V:Gl X x:=by rfl)
  (Y:(x==("__debug__":Str))=false:=by decide) (U:cL (e::es) X.env=(false,eY e X.env)::cL es X.env:=by rfl) (Z:(jw pos (cL es X.env)).any (·.1)=false:=by rfl):PE X (.Call (.Name x p) (e::es) [] pos) (wQ sp [] E0 t):=Ey F W V D.m D.F.kp D.b .nil eV ha Y U Z
structure Bl(mg:Str->Option ae):Prop where
 len:mg "len"=Z7
 abs:mg "abs"=Z7
 isi:mg "isinstance"=Z7
 list:mg "list"=Z7
 tuple:mg "tuple"=Z7
 str:mg "str"=Z7
 int:mg "int"=Z7
 bool:mg "bool"=Z7
 range:mg "range"=Z7
 max:mg "max"=Z7
 dict:mg "dict"=Z7
theorem oG:eh "isinstance"=Z8 (.builtin "isinstance"):=by decide +kernel
theorem boot_list:eh "list"=Z8 (.type "list"):=by decide +kernel
theorem boot_tuple:eh "tuple"=Z8 (.type "tuple"):=by decide +kernel
theorem boot_int:eh "int"=Z8 (.type "int"):=by decide +kernel
theorem boot_bool:eh "bool"=Z8 (.type "bool"):=by decide +kernel
theorem boot_max:eh "max"=Z8 (.builtin "max"):=by decide +kernel
theorem boot_dict:eh "dict"=Z8 (.type "dict"):=by decide +kernel
theorem cxA{CX:CXT}{P:aP}{w:bF}{K:ag}{mg:Str->Option ae}{base:cz}{N:List Str}{q:Str}{sc:kE}{f:ab}{Z:ae}{A:cm}{o:List Env}{s:aj}{H:Hp}{E:XK}:(vw CX P w K mg base N q sc f Z A o s H E).K=K:=rfl
theorem cxB{CX:CXT}{P:aP}{w:bF}{K:ag}{mg:Str->Option ae}{base:cz}{N:List Str}{q:Str}{sc:kE}{f:ab}{Z:ae}{A:cm}{o:List Env}{s:aj}{H:Hp}{E:XK}:(vw CX P w K mg base N q sc f Z A o s H E).nox.K=K:=rfl
def But(p:ab)(H H':Hp):Prop:=∀b o,H b=Z8 o->b≠p->H' b=Z8 o
theorem But.refl(p:ab)(H:Hp):But p H H:=fun _ _ e _=>e
theorem But.trans{p:ab}{H H1 H2:Hp}(a:But p H H1)(b:But p H1 H2):But p H H2:=fun c o e n=>b c o (a c o e n) n
theorem But.upd(p:ab)(H:Hp)(o:HO):But p H (upd H p o):=fun b u e n=>(aV n) ▸ e
theorem But.same{p:ab}{H H1 H2:Hp}(a:But p H H1)(b:cA H1 H2):But p H H2:=fun c o e n=>b c o (a c o e n)
theorem az{H:Hp}{p:ab}(h:H p=Z7)(o:HO):cA H (upd H p o):=fun b u q=>(aV (aC q h)) ▸ q
theorem lt2:2<=aF:=by decide
section
variable{P:aP}{w:bF}{K:ag}{mg:Str->Option ae}{base:cz}{f fM fD:ab}{fd fdM fdD:bS}
def zM:Sp:=fun vs H Q _=>∃c k:Int,vs=[.int c,.int k]/\eW c<=1048576/\∀r:Int,Q (.int r) H
theorem AS(x:Int):-(2^64)<x%2147483629/\x%2147483629<2^64:=by
 lia
theorem scM:bU ["_law_cell","_law_k","_law_number"] ["_law_cell","_law_k"] (aS km):=fK
theorem Ck(D:Df K mg "_law_mixed" km ["_law_cell","_law_k"] f fd):bO P w K mg base CX0 1 f fd ["_law_cell","_law_k"] zM:=by
 refine D.F.ok scM (fun vs H Q E h=>?_) (fun Z A outer s H vs Q E Y h=>?_)
 ·obtain⟨c,k,rfl,_⟩:=h;rfl
 obtain⟨c,k,rfl,hc,q⟩:=h;refine⟨_,ax (pst 2 scM (cV oe (cV oa (cV il (cV il (cV il (cV EK (pv 0) (pv 0)) (cV oa au (pv 0))) (cV oa au (pv 1))) au) au) au))
  (aJ (bT (cV oe (cV il (cV oa (pv 2) (pv 2)) au) au))),?_⟩
 exact{_,Z9,_,Z9,_,_,Z9,Z9,.of_bits hc hc,_,Z9,_,_,Z9,Z9,.inl {by decide,by decide},_,_,Z9,Z9,_,Z9,_,_,Z9,Z9,.inl {by decide,by decide},_,_,Z9,Z9,_,_,Z9,Z9,_,_,Z9,Z9,.inr {by decide,by decide},_,_,Z9,Z9,(by decide),{_,Z9,_,Z9,_,_,Z9,Z9,.inl (AS _),_,_,Z9,Z9,_,_,Z9,Z9,(by decide),q _}}
def dM(H:Hp)(p:ab):Prop:=∃x y:Int,H p=Z8 (.l [.int x,.int y])
theorem dM.same{H H':Hp}{p:ab}(a:dM H p)(b:cA H H'):dM H' p:=by
 obtain⟨x,y,e⟩:=a;exact{x,y,b _ _ e}
inductive zO(vs:List V)(H:Hp)(Q:VK)(_e:XK):Prop where
 |mk(p:ab)(n:Int)(_:vs=[.ref p,.int n])(_:dM H p)(_:0<n)(_:n<2^64)(_:∀(r:Int) (H':Hp),0<=r->r<n->dM H' p->But p H H'->Q (.int r) H'):zO vs H Q _e
def jM:Sp:=fun vs H Q Z=>zO vs H Q Z
theorem scD:bU ["_law_purse_here","_law_out_of","_law_drawn"] ["_law_purse_here","_law_out_of"] (aS eE):=fK
theorem jN(D:Df K mg "_law_draw" eE ["_law_purse_here","_law_out_of"] f fd):bO P w K mg base CX0 1 f fd ["_law_purse_here","_law_out_of"] jM:=by
 refine D.F.ok scD (fun vs H Q E h=>?_) (fun X A outer s H vs Q E W h=>?_)
 ·obtain⟨p,n,rfl,_⟩:=h;rfl
 obtain⟨p,n,rfl,⟨x,y,hp⟩,hn,Y,q⟩:=h;refine⟨_,ax (dW (cG iS (bJ bN (pv 0) au) au) (aJ (vn (bJ bN (pv 0) au) (yi (pv 0) au r9))) cD)
  (ax (pst 2 scD (cV oe (bJ bN (pv 0) au) (pv 1)))
  (ax (vn (cV sx (bJ bN (pv 0) au) (pv 1)) (yi (pv 0) au r9))
  (aJ (bT (pv 2))))),?_⟩
 dsimp only[cxA,cxB];refine{_,Z9,p,_,_,_,Z9,Z9,SqL.of hp,Z9,Z9,_,Z9,?_};refine si (fun c=>?_) (fun c=>?_)
 ·refine{_,Z9,p,_,_,_,Z9,Z9,SqL.of hp,Z9,_,Z9,p,_,_,_,Z9,Z9,hp,Z9,?_};have Z:upd H p (.l [.int y,.int y]) p=Z8 (.l [.int y,.int y]):=ai;refine{_,Z9,p,_,_,_,Z9,Z9,SqL.of Z,Z9,_,Z9,_,_,Z9,Z9,hn,?_};refine{_,Z9,p,_,_,_,Z9,Z9,SqL.of Z,Z9,_,Z9,_,_,Z9,Z9,⟨hn,Y⟩,_,Z9,p,_,_,_,Z9,Z9,Z,Z9,?_};refine{_,Z9,?_};exact q _ _ (oS _ (by lia)) (lR _ hn) {_,_,ai} ((But.upd p H _).trans (But.upd p _ _))
 ·refine{_,Z9,p,_,_,_,Z9,Z9,SqL.of hp,Z9,_,Z9,_,_,Z9,Z9,hn,?_};refine{_,Z9,p,_,_,_,Z9,Z9,SqL.of hp,Z9,_,Z9,_,_,Z9,Z9,⟨hn,Y⟩,_,Z9,p,_,_,_,Z9,Z9,hp,Z9,?_};refine{_,Z9,?_};exact q _ _ (oS _ (by lia)) (lR _ hn) {_,_,ai} (But.upd p H _)
inductive xk(K:ag)(vs:List V)(H:Hp)(Q:VK)(_e:XK):Prop where
 |mk(a:ab)(ns:List Int)(_:vs=[.ref a])(_:SqL K H a (ns.map V.int))(_:ns.length<=63)(_:(∀x∈ns,eW x<=1048576))(_:∀(p:ab) (H':Hp),H p=Z7->dM H' p->cA H H'->Q (.ref p) H'):xk K vs H Q _e
def zP(K:ag):Sp:=fun vs H Q Z=>xk K vs H Q Z
theorem scP:bU ["_law_script","_law_cells","_law_number","_law_k"] ["_law_script"] (aS lL):=fK
theorem EU{xs:List V}{lo hi:Option Int}{v:V}(h:v∈p9 xs lo hi):v∈xs:=zQ (zR h)
theorem Ir{xs:List V}(h:xs≠[])(z:Int):∃v,atI xs (z%(xs.length:Int))=Z8 v/\v∈xs:=by
 have X:=pQ.mpr h;have h0:=oS z (show (xs.length:Int)≠0 by lia);have h1:=lR z (show (0:Int)<(xs.length:Int) by lia);obtain⟨j,Y⟩:∃j:Nat,z%(xs.length:Int)=(j:Int):={(z%(xs.length:Int)).toNat,by lia};rw[Y]at h1 |-;have Z:j<xs.length:=by lia
 exact{xs[j],cI (aA Z),jd Z}
theorem Cm(D:Df K mg "_law_purse" lL ["_law_script"] f fd)(DM:Df K mg "_law_mixed" km ["_law_cell","_law_k"] fM fdM)(B:Bl mg):bO P w K mg base CX0 2 f fd ["_law_script"] (zP K):=by
 have GM:bO P w K mg base CX0 1 fM fdM ["_law_cell","_law_k"] zM:=Ck DM;refine D.F.ok scP (fun vs H Q E h=>?_) (fun bq A outer s H vs Q E hr h=>?_)
 ·obtain⟨a,U,rfl,_⟩:=h;rfl
 obtain⟨a,U,rfl,hS,M,O,q⟩:=h;refine⟨_,ax (pst 1 scP (cV sh (lX qb (pv 0) rC (lJ au)) (dv (bH au ao))))
  (ax (pst 2 scP au)
  (ax (e9 bB rfl (gG rfl B.range (bH au ao)) (pgn 3 scP)
   (aJ (pst 2 scP (cV il (cV oa (pv 2) au) (pcl GM hr DM (bH (bJ bN (pv 1) (cV oe (pv 3) (cK mJ (by rfl) B.len bV (bH (pv 1) ao)))) (bH (pv 3) ao)))))))
  (ax (dW (cG iS (cV oe (bJ bN (pv 1) au) au) au)
   (aJ (bT (dv (bH (cK (Av rfl) (by rfl) B.max boot_max (bH (cV sx (bJ bN (pv 1) au) au) (bH (cV jX (wO rQ au) (cV sx (bJ bN (pv 1) au) au)) ao))) (bH (pv 2) ao))))) cD)
  (aJ (bT (dv (bH (pv 2) (bH (pv 2) ao)))))))),?_⟩
 dsimp only[cxA,cxB];refine{_,Z9,_,Z9,a,_,Z9,hS,fun l hl=>{(by show 1<=aF;decide),fun m hm=>?_}};have d:l≠m:=aC (ai:upd H l (.l (p9 (U.map V.int) Z7 (Z8 63))) l=_) hm;have cl:(p9 (U.map V.int) Z7 (Z8 63)).length<=63:=dh (qV _ _ _) (by rw[ak];exact M);have t:(p9 (U.map V.int) Z7 (Z8 63)).length+[V.int 0].length<=aF:=by
  have z:64<=aF:=by decide
  rw[oO]
  lia
 refine{l,m,_,_,Z9,Z9,(by rw[aV d];exact ai),ai,t,fun c hc=>?_};generalize hcs:p9 (U.map V.int) Z7 (Z8 63)++[V.int 0]=W at hc |-;have sc:cA H (upd (upd (upd H l (.l (p9 (U.map V.int) Z7 (Z8 63)))) m (.l [.int 0])) c (.l W)):=(az hl _).trans ((az hm _).trans (az hc _));generalize hH:upd (upd (upd H l (.l (p9 (U.map V.int) Z7 (Z8 63)))) m (.l [.int 0])) c (.l W)=H1 at sc |-;have Y:H1 c=Z8 (.l W):=by rw[<- hH];exact ai
 have Z:W≠[]:=by rw[<- hcs];simp
 have X:∀v∈W,∃z:Int,v=.int z/\eW z<=1048576:=fun v hv=>by
  rw[<- hcs]at hv
  rcases cj.mp hv with z|z
  ·obtain⟨n,hn,rfl⟩:=bY.mp (EU z);exact{n,Z9,O n hn}
  ·rw[aH.mp z];exact{0,Z9,by decide}
 refine{150,Z9,by decide,by decide,kW (n:=150) (fun i σ H2=>∃(z:Int) (v:Option V),σ=[Z8 (.ref a),Z8 (.ref c),Z8 (.int z),v]/\H2=H1) {1,Z7,Z9,Z9} ?_ ?_}
 ·rintro i σ H2 hi ⟨z,v,rfl,rfl⟩;obtain⟨u,hu,g⟩:=Ir Z (0+(i:Int));obtain⟨y,rfl,hy⟩:=X u g;have L:(0:Int)<(W.length:Int):=by
   have:=pQ.mpr Z
   lia
  refine{_,Z9,_,_,Z9,Z9,.inr {by decide,by decide},_,Z9,_,Z9,_,Z9,c,_,Z9,.inl (SqL.of Y),_,_,Z9,Z9,L,c,_,_,_,Z9,Z9,SqL.of Y,hu,_,Z9,y,_,Z9,hy,fun r=>?_};exact{_,_,Z9,Z9,_,_,Z9,Z9}
 ·rintro σ H2 ⟨z,v,rfl,rfl⟩;obtain⟨I,J⟩:∃I,W[0]?=Z8 I:=by
   cases W with
   |nil=>exact Q7 rfl Z
   |cons I r=>exact⟨I,Z9⟩
  obtain⟨y,rfl,hy⟩:=X I (aK J);have a0:atI W 0=Z8 (.int y):=cI (j:=0) J;refine{_,Z9,c,_,_,_,Z9,Z9,SqL.of Y,a0,_,_,Z9,Z9,(by show (0:Int)<2;decide),Z9,_,Z9,?_};have two:F3 y 2:={by decide,by decide};refine si (fun _=>?_) (fun _=>?_)
  ·refine{_,Z9,c,_,_,_,Z9,Z9,SqL.of Y,a0,_,_,Z9,Z9,two,_,Z9,_,Z9,c,_,_,_,Z9,Z9,SqL.of Y,a0,_,_,Z9,Z9,two,_,_,Z9,Z9,_,_,Z9,_,Z9,lt2,fun p hp=>?_};exact q p _ (sc.free hp) {_,_,ai} (sc.trans (az hp _))
  ·refine{_,Z9,_,Z9,lt2,fun p hp=>?_};exact q p _ (sc.free hp) {_,_,ai} (sc.trans (az hp _))
end
def AU:V->Prop
 |.int _=>True
 |.str _=>True
 |_=>False
def Tree(H:Hp):Nat->V->Prop
 |0,v=>AU v
 |n+1,v=>AU v\/∃p xs,v=.ref p/\(H p=Z8 (.l xs)\/H p=Z8 (.t xs))/\xs.length<1000/\∀x∈xs,Tree H n x
def Alike(H H':Hp):Nat->V->V->Prop
 |0,v,Y=>Y=v
 |n+1,v,Y=>(AU v/\Y=v)\/(∃p Z xs ys,v=.ref p/\Y=.ref Z/\H p=Z8 (.l xs)/\H' Z=Z8 (.l ys)/\bM (Alike H H' n) xs ys) \/
   ∃p Z xs ys,v=.ref p/\Y=.ref Z/\H p=Z8 (.t xs)/\H' Z=Z8 (.t ys)/\bM (Alike H H' n) xs ys
theorem Alike.mono{H H1 H2:Hp}(s:cA H1 H2):∀{n:Nat} {v X:V},Alike H H1 n v X->Alike H H2 n v X
 |0,_,_,h=>h
 |n+1,v,X,h=>by
  rcases h with h|⟨p,Z,xs,ys,e1,Y,h1,h2,r⟩|⟨p,Z,xs,ys,e1,Y,h1,h2,r⟩
  ·exact .inl h
  ·exact .inr (.inl {p,Z,xs,ys,e1,Y,h1,s _ _ h2,_L.Paired.imp' (fun _ _ z=>Alike.mono s z) r})
  ·exact .inr (.inr {p,Z,xs,ys,e1,Y,h1,s _ _ h2,_L.Paired.imp' (fun _ _ z=>Alike.mono s z) r})
theorem Tree.same{H H1:Hp}(s:cA H H1):∀{n:Nat} {v:V},Tree H n v->Tree H1 n v
 |0,_,h=>h
 |n+1,v,h=>by
  rcases h with h|⟨p,xs,e,h1,h2,Z⟩
  ·exact .inl h
  ·exact .inr {p,xs,e,h1.imp (s _ _) (s _ _),h2,fun x hx=>Tree.same s (Z x hx)}
theorem Alike.from{H H0 H1:Hp}(s:cA H H0):∀{n:Nat} {v W:V},Tree H n v->Alike H0 H1 n v W->Alike H H1 n v W
 |0,_,_,_,h=>h
 |n+1,v,W,t,h=>by
  rcases t with t|⟨q,zs,e,t1,O,X⟩
  ·rcases h with h|⟨p,Z,xs,ys,e1,Y,h1,h2,r⟩|⟨p,Z,xs,ys,e1,Y,h1,h2,r⟩
   ·exact .inl h
   ·rw[e1]at t;exact t.elim
   ·rw[e1]at t;exact t.elim
  ·rcases h with h|⟨p,Z,xs,ys,e1,Y,h1,h2,r⟩|⟨p,Z,xs,ys,e1,Y,h1,h2,r⟩
   ·exact .inl h
   ·rw[e]at e1
    cases e1
    rcases t1 with t1|t1
    ·have z:=s _ _ t1;rw[h1]at z
     cases z;refine .inr (.inl {q,Z,zs,ys,e,Y,t1,h2,?_});clear h1 t1 O h2
     induction r with
     |nil=>exact .nil
     |cons a b U=>exact .cons (Alike.from s (X _ aU) a) (U fun x hx=>X x (bL _ hx))
    ·have z:=s _ _ t1;rw[h1]at z
     cases z
   ·rw[e]at e1
    cases e1
    rcases t1 with t1|t1
    ·have z:=s _ _ t1;rw[h1]at z
     cases z
    ·have z:=s _ _ t1;rw[h1]at z
     cases z;refine .inr (.inr {q,Z,zs,ys,e,Y,t1,h2,?_});clear h1 t1 O h2
     induction r with
     |nil=>exact .nil
     |cons a b U=>exact .cons (Alike.from s (X _ aU) a) (U fun x hx=>X x (bL _ hx))
theorem Co{K:ag}:gJ K (.type "int") (.type "list")=Z8 false:=by kernel_rfl
theorem Cp{K:ag}:gJ K (.type "str") (.type "list")=Z8 false:=by kernel_rfl
theorem Cq{K:ag}:gJ K (.type "int") (.type "tuple")=Z8 false:=by kernel_rfl
theorem Cr{K:ag}:gJ K (.type "str") (.type "tuple")=Z8 false:=by kernel_rfl
theorem Iu{K:ag}:gJ K (.type "list") (.type "list")=Z8 true:=by rfl
theorem Iv{K:ag}:gJ K (.type "tuple") (.type "list")=Z8 false:=by kernel_rfl
theorem Iw{K:ag}:gJ K (.type "tuple") (.type "tuple")=Z8 true:=by rfl
section
variable{P:aP}{w:bF}{K:ag}{mg:Str->Option ae}{base:cz}{f fC fI CM CS:ab}{fd fdC fdI:bS}
def qk(n:Nat):Sp:=fun vs H Q _=>∃v,vs=[v]/\Tree H n v/\∀(Z:V) (H':Hp),cA H H'->Alike H H' n v Z->Q Z H'
theorem scC:bU ["thing"] ["thing"] (aS me):=fK
theorem zS:(["part","thing"]:List Str).Nodup:=by decide +kernel
theorem uK{Z Y:Type}{R:Z->Y->Prop}{xs:List Z}{ys:List Y}{i:Nat}{x:Z}{y:Y}(r:bM R (xs.take i) ys)(hx:xs[i]?=Z8 x)(h:R x y):bM R (xs.take (i+1)) (ys++[y]):=by
 have e:xs.take (i+1)=xs.take i++[x]:=by rw[eJ,hx];rfl
 rw[e];exact hU r h
theorem xl{n:Nat}(D:Df K mg "copied" me ["thing"] f fd)(B:Bl mg)(G:bO P w K mg base CX0 (n+1) f fd ["thing"] (qk n)):bO P w K mg base CX0 (n+2) f fd ["thing"] (qk (n+1)):=by
 refine D.F.ok scC (fun vs H Q E h=>?_) (fun J A outer s H vs Q E O h=>?_)
 ·obtain⟨v,rfl,_⟩:=h;rfl
 obtain⟨v,rfl,Z,q⟩:=h;refine⟨_,ax (dW (mB (cK kj (by rfl) B.isi oG (bH (pv 0) (bH (pU (v:=.ty "list") (by rfl) B.list boot_list rfl) ao))))
   (aJ (bT (ij ["part"] (fq.closed (by decide +kernel) (by decide +kernel) rfl (by decide +kernel) (by intro n hn;rcases aH.mp hn with rfl;decide +kernel)) rfl (eM (pv 0)) (fun _ _ _ _=>eZ (i:=0) zS rfl (Or.inl rfl)) (fun _ _ _ _=>gP)
    (fun _ _ _ _=>pcl G O D (bH (pv 0) ao))))) cD)
  (ax (dW (mB (cK kj (by rfl) B.isi oG (bH (pv 0) (bH (pU (v:=.ty "tuple") (by rfl) B.tuple boot_tuple rfl) ao))))
   (aJ (bT (i6 tR (by rfl) B.tuple boot_tuple (bH (ij ["part"] (fq.closed (by decide +kernel) (by decide +kernel) rfl (by decide +kernel) (by intro n hn;rcases aH.mp hn with rfl;decide +kernel)) rfl (HS (pv 0)) (fun _ _ _ _=>eZ (i:=0) zS rfl (Or.inl rfl)) (fun _ _ _ _=>gP)
    (fun _ _ _ _=>pcl G O D (bH (pv 0) ao))) ao)))) cD)
  (aJ (bT (pv 0)))),?_⟩
 dsimp only[cxA,cxB];have big:1000<aF:=by decide
 rcases Z with Z|⟨p,xs,rfl,hp,I,hx⟩
 ·cases v with
  |int i=>
   refine{_,Z9,_,"list",_,false,Z9,.int i,Co,_,Z9,gm ?_};refine{_,Z9,_,"tuple",_,false,Z9,.int i,Cq,_,Z9,gm ?_};exact{_,Z9,q _ _ (cA.refl H) (.inl ⟨trivial,Z9⟩)}
  |str x=>
   refine{_,Z9,_,"list",_,false,Z9,.str x,Cp,_,Z9,gm ?_};refine{_,Z9,_,"tuple",_,false,Z9,.str x,Cr,_,Z9,gm ?_};exact{_,Z9,q _ _ (cA.refl H) (.inl ⟨trivial,Z9⟩)}
  |non=>exact Z.elim
  |bl b=>exact Z.elim
  |byt b=>exact Z.elim
  |flt b=>exact Z.elim
  |ref a=>exact Z.elim
  |ty a=>exact Z.elim
 ·rcases hp with hp|hp
  ·refine{_,Z9,_,"list",_,true,Z9,.l hp,Iu,_,Z9,iq ?_};refine{_,Z9,p,Z9,{_,SqL.of hp},lZ (K:=K) (a:=p) (xs:=xs) (fun i ys H1=>i<=xs.length/\ys.length=i/\cA H H1/\bM (Alike H H1 n) (xs.take i) ys) {aO _,Z9,cA.refl H,.nil} ?_ ?_ ?_}
   ·rintro i ys H1 hi ⟨_,h1,h2,_⟩;exact{SqL.of (h2 _ _ hp),by omega}
   ·rintro i x ys H1 hi ⟨h0,h1,h2,X⟩;have W:x∈xs:=aK hi;have lt:i<xs.length:=(ay.mp hi).1;refine{Z9,?_};unfold qe;refine iq ?_;refine{_,Z9,x,Z9,Tree.same h2 (hx x W),fun L H2 s2 U=>?_};exact{lt,by rw[aL,h1];rfl,h2.trans s2,uK (_L.Paired.imp' (fun _ _ z=>Alike.mono s2 z) X) hi (Alike.from h2 (hx x W) U)}
   ·rintro ys H1 ⟨_,h1,h2,X⟩ l Y;rw[eX]at X;refine q _ _ (h2.trans (az Y _)) (.inr (.inl {p,l,xs,ys,Z9,Z9,hp,ai,_L.Paired.imp' (fun _ _ z=>Alike.mono (az Y _) z) X}))
  ·refine{_,Z9,_,"list",_,false,Z9,.t hp,Iv,_,Z9,gm ?_};refine{_,Z9,_,"tuple",_,true,Z9,.t hp,Iw,_,Z9,iq ?_};refine{_,Z9,p,Z9,{_,SqT.of hp},B9 (K:=K) (a:=p) (xs:=xs) (Q:=fun v H1=>∃z ys,[v]=[V.ref z]/\((SqL K H1 z ys/\∀l,H1 l=Z7->Q (.ref l) (upd H1 l (.t ys)))\/(SqT K H1 z ys/\Q (.ref z) H1))) (fun i ys H1=>i<=xs.length/\ys.length=i/\cA H H1/\bM (Alike H H1 n) (xs.take i) ys) {aO _,Z9,cA.refl H,.nil} ?_ ?_ ?_}
   ·rintro i ys H1 hi ⟨_,h1,h2,_⟩;exact{SqT.of (h2 _ _ hp),by omega}
   ·rintro i x ys H1 hi ⟨h0,h1,h2,X⟩;have W:x∈xs:=aK hi;have lt:i<xs.length:=(ay.mp hi).1;refine{Z9,?_};unfold qe;refine iq ?_;refine{_,Z9,x,Z9,Tree.same h2 (hx x W),fun L H2 s2 U=>?_};exact{lt,by rw[aL,h1];rfl,h2.trans s2,uK (_L.Paired.imp' (fun _ _ z=>Alike.mono s2 z) X) hi (Alike.from h2 (hx x W) U)}
   ·rintro ys H1 ⟨_,h1,h2,X⟩ l Y;rw[eX]at X;refine{l,ys,Z9,.inl {SqL.of ai,fun t Z=>?_}};have M:cA H1 (upd (upd H1 l (.l ys)) t (.t ys)):=(az Y _).trans (az Z _);exact q _ _ (h2.trans M) (.inr (.inr {p,t,xs,ys,Z9,Z9,hp,ai,_L.Paired.imp' (fun _ _ z=>Alike.mono M z) X}))
theorem xm(D:Df K mg "copied" me ["thing"] f fd)(B:Bl mg):bO P w K mg base CX0 1 f fd ["thing"] (qk 0):=by
 refine D.F.ok scC (fun vs H Q E h=>?_) (fun Y A outer s H vs Q E X h=>?_)
 ·obtain⟨v,rfl,_⟩:=h;rfl
 obtain⟨v,rfl,Z,q⟩:=h;refine⟨_,ax (dW (mB (cK kj (by rfl) B.isi oG (bH (pv 0) (bH (pU (v:=.ty "list") (by rfl) B.list boot_list rfl) ao)))) ui cD)
  (ax (dW (mB (cK kj (by rfl) B.isi oG (bH (pv 0) (bH (pU (v:=.ty "tuple") (by rfl) B.tuple boot_tuple rfl) ao)))) ui cD)
  (aJ (bT (pv 0)))),?_⟩
 dsimp only[cxB]
 cases v with
 |int i=>
  exact{_,Z9,_,"list",_,false,Z9,.int i,Co,_,Z9,gm ({_,Z9,_,"tuple",_,false,Z9,.int i,Cq,_,Z9,gm ({_,Z9,q _ _ (cA.refl H) rfl})})}
 |str x=>
  exact{_,Z9,_,"list",_,false,Z9,.str x,Cp,_,Z9,gm ({_,Z9,_,"tuple",_,false,Z9,.str x,Cr,_,Z9,gm ({_,Z9,q _ _ (cA.refl H) rfl})})}
 |non=>exact Z.elim
 |bl b=>exact Z.elim
 |byt b=>exact Z.elim
 |flt b=>exact Z.elim
 |ref a=>exact Z.elim
 |ty a=>exact Z.elim
theorem uL(D:Df K mg "copied" me ["thing"] f fd)(B:Bl mg):∀n:Nat,bO P w K mg base CX0 (n+1) f fd ["thing"] (qk n)
 |0=>xm D B
 |n+1=>xl D B (uL D B n)
structure MdT(K:ag)(mg:Str->Option ae)(CM CS:ab):Prop where
 clM:Cls K CM
 clS:Cls K CS
 nM:eP K CM "machines"
 nB:eP K CS "boxes"
 nQ:eP K CS "queues"
 nD:eP K CS "drawn"
 nS:eP K CS "sent"
 mM:mg "Model"=Z8 (.ref CM)
 mS:mg "State"=Z8 (.ref CS)
inductive F9(CM:ab)(n:Nat)(vs:List V)(H:Hp)(Q:VK)(_e:XK):Prop where
 |mk(m dx:ab)(v:V)(_:vs=[.ref m,v])(_:H m=Z8 (.ins CM dx []))(_:Tree H n v)(_:∀(v':V) (H':Hp),cA H H'->Alike H H' n v v'->Q .non (upd H' m (.ins CM dx (aM "machines" v' [])))):F9 CM n vs H Q _e
def Iy(CM:ab)(n:Nat):Sp:=fun vs H Q Z=>F9 CM n vs H Q Z
theorem scMI:bU ["self","machines"] ["self","machines"] (aS mO):=fK
theorem Gj{n:Nat}(F:Fun K "__init__" "Model.__init__" mO f fd)(Y:Df K mg "copied" me ["thing"] fC fdC)(B:Bl mg)(T:MdT K mg CM CS):bO P w K mg base CX0 (n+2) f fd ["self","machines"] (Iy CM n):=by
 refine F.ok scMI (fun vs H Q E h=>?_) (fun M A outer s H vs Q E X h=>?_)
 ·obtain⟨m,dx,v,rfl,_⟩:=h;rfl
 obtain⟨m,dx,v,rfl,U,V,q⟩:=h;refine{_,aJ (gr (pv 0) (pcl (uL Y B n) X Y (bH (pv 1) ao)) rfl),?_};dsimp only[cxB];exact{_,Z9,v,Z9,V,fun O H' Z W=>{_,Z9,m,CM,dx,[],Z9,Z _ _ U,T.clM,T.nM,(by decide),q O H' Z W}}
def stFs(b q d e:V):List (Str×V):=aM "sent" e (aM "drawn" d (aM "queues" q (aM "boxes" b [])))
inductive Gk(CS:ab)(vs:List V)(H:Hp)(Q:VK)(_e:XK):Prop where
 |mk(m dx:ab)(b q d e:V)(_:vs=[.ref m,b,q,d,e])(_:H m=Z8 (.ins CS dx []))(_:∀H':Hp,H' m=Z8 (.ins CS dx (stFs b q d e))->But m H H'->Q .non H'):Gk CS vs H Q _e
def spSI(CS:ab):Sp:=fun vs H Q Z=>Gk CS vs H Q Z
theorem scSI:bU ["self","boxes","queues","drawn","sent"] ["self","boxes","queues","drawn","sent"] (aS kT):=fK
theorem jv(f:Str)(v:V)(fs:List (Str×V)):(aM f v fs).length<=fs.length+1:=by
 induction fs with
 |nil=>exact aB _
 |cons p r Z=>
  unfold aM
  split
  ·simp_all
  ·simp_all
theorem ok_SI(F:Fun K "__init__" "State.__init__" kT f fd)(T:MdT K mg CM CS):bO P w K mg base CX0 1 f fd ["self","boxes","queues","drawn","sent"] (spSI CS):=by
 refine F.ok scSI (fun vs H Q E h=>?_) (fun X A outer s H vs Q E W h=>?_)
 ·obtain⟨m,dx,b,q,d,e,rfl,_⟩:=h;rfl
 obtain⟨m,dx,b,q,d,e,rfl,Y,k⟩:=h;refine{_,ax (gr (pv 0) (pv 1) rfl) (ax (gr (pv 0) (pv 2) rfl) (ax (gr (pv 0) (pv 3) rfl) (aJ (gr (pv 0) (pv 4) rfl)))),?_};dsimp only[cxB];have Z:=jv "boxes" b [];have U:=jv "queues" q (aM "boxes" b []);have V:=jv "drawn" d (aM "queues" q (aM "boxes" b []));simp at Z;exact{_,Z9,_,Z9,m,CS,dx,[],Z9,Y,T.clS,T.nB,(by decide),_,Z9,_,Z9,m,CS,dx,_,Z9,ai,T.clS,T.nQ,(by lia),_,Z9,_,Z9,m,CS,dx,_,Z9,ai,T.clS,T.nD,(by lia),_,Z9,_,Z9,m,CS,dx,_,Z9,ai,T.clS,T.nS,(by lia),k _ ai (((But.upd m H _).trans (But.upd m _ _)).trans ((But.upd m _ _).trans (But.upd m _ _)))}
theorem EV:bU ["model","at","machine","queues","name"] ["model","at"] (aS jg):=fK
end
section
variable{κ:Type}[DecidableEq κ]
abbrev Cs(ps:List (κ×V))(m:List (κ×V)):List (κ×V):=ps.foldl (fun m p=>jS m p.1 p.2) m
theorem Ct{m:List (κ×V)}{k:κ}{v:V}{q:κ×V}(h:q∈jS m k v):q∈m\/q=(k,v):=by
 unfold jS at h
 split at h
 ·obtain⟨p,h1,h2⟩:=bY.mp h
  split at h2
  ·rename_i e
   right
   rw[<- h2,e]
  ·left
   rw[<- h2];exact h1
 ·rcases cj.mp h with z|z
  ·exact .inl z
  ·exact .inr (aH.mp z)
end
theorem mh{H H':Hp}{n:Nat}{a:ab}{xs:List V}{y:V}(ha:H a=Z8 (.l xs))(z:Alike H H' (n+1) (.ref a) y):∃(Y:ab) (ys:List V),y=.ref Y/\H' Y=Z8 (.l ys)/\bM (Alike H H' n) xs ys:=by
 rcases z with⟨z,_⟩|⟨p,X,Z,ys,e1,W,h1,h2,r⟩|⟨p,X,Z,ys,e1,W,h1,h2,r⟩
 ·exact z.elim
 ·simp_all
 ·simp_all
theorem qL{H H':Hp}{n:Nat}{a:ab}{xs:List V}{y:V}(ha:H a=Z8 (.t xs))(z:Alike H H' (n+1) (.ref a) y):∃(Y:ab) (ys:List V),y=.ref Y/\H' Y=Z8 (.t ys)/\bM (Alike H H' n) xs ys:=by
 rcases z with⟨z,_⟩|⟨p,X,Z,ys,e1,W,h1,h2,r⟩|⟨p,X,Z,ys,e1,W,h1,h2,r⟩
 ·exact z.elim
 ·grind
 ·simp_all
theorem fc{H H':Hp}{n:Nat}{v y:V}(hv:AU v)(z:Alike H H' n v y):y=v:=by
 cases n with
 |zero=>exact z
 |succ n=>
  rcases z with⟨_,z⟩|⟨p,Y,Z,ys,e1,X,h1,h2,r⟩|⟨p,Y,Z,ys,e1,X,h1,h2,r⟩
  ·exact z
  ·rw[e1]at hv;exact hv.elim
  ·rw[e1]at hv;exact hv.elim
theorem i7{H H':Hp}{n:Nat}{xs ys:List V}(r:bM (Alike H H' n) xs ys):(∀x∈xs,AU x)->ys=xs:=by
 induction r with
 |nil=>exact fun _=>rfl
 |cons a b Z=>
  intro h;rw[fc (h _ aU) a,Z fun x hx=>h x (bL _ hx)]
def fe(H:Hp)(ps:List (Str×Int))(vs:List V):Prop:=vH H (ps.map fun p=>(Sum.inr p.1,V.int p.2)) vs
theorem fe.same{H H':Hp}(s:cA H H'):∀{ps:List (Str×Int)} {vs:List V},fe H ps vs->fe H' ps vs
 | [],_,h=>by
  cases h;exact .nil
 |p::ps,_,h=>by
  cases h with
  |cons a b=>
   obtain⟨t,e,h⟩:=a;exact .cons {t,e,s _ _ h} (fe.same s b)
theorem fe.alike{H H':Hp}{n:Nat}:∀{ps:List (Str×Int)} {vs ys:List V},fe H ps vs->bM (Alike H H' (n+1)) vs ys->fe H' ps ys
 | [],_,_,h,r=>by
  cases h
  cases r;exact .nil
 |p::ps,_,_,h,r=>by
  cases h with
  |cons a b=>
   cases r with
   |cons Y X=>
    obtain⟨t,rfl,h⟩:=a;obtain⟨t',ys,rfl,h',Z⟩:=qL h Y;have e:=i7 Z (fun x hx=>by
     simp at hx
     rcases hx with rfl|rfl
     ·exact trivial
     ·exact trivial)
    rw[e]at h';exact .cons ⟨t',Z9,h'⟩ (fe.alike b X)
theorem fe.length{H:Hp}{ps:List (Str×Int)}{vs:List V}(h:fe H ps vs):ps.length=vs.length:=by
 have z:=bQ h;rw[ak]at z;exact z
theorem fe.tree{H:Hp}{n:Nat}:∀{ps:List (Str×Int)} {vs:List V},fe H ps vs->∀x∈vs,Tree H (n+1) x
 | [],_,h,x,hx=>by
  cases h
  cases hx
 |p::ps,_,h,x,hx=>by
  cases h with
  |cons a b=>
   rcases aD.mp hx with rfl|hx
   ·obtain⟨t,rfl,h⟩:=a;refine .inr {t,_,Z9,.inr h,(by show 2<1000;decide),fun y hy=>?_};simp at hy
    rcases hy with rfl|rfl
    ·cases n<;>first|exact trivial|exact .inl trivial
    ·cases n<;>first|exact trivial|exact .inl trivial
   ·exact fe.tree b x hx
theorem fe.snoc{H:Hp}{ps:List (Str×Int)}{vs:List V}(h:fe H ps vs){t:ab}{nm:Str}{z:Int}(Z:H t=Z8 (.t [.str nm,.int z])):fe H (ps++[(nm,z)]) (vs++[.ref t]):=by
 unfold fe;rw[cq];exact hU h ⟨t,Z9,Z⟩
section
variable{P:aP}{w:bF}{K:ag}{mg:Str->Option ae}{base:cz}{f fI CM CS:ab}{fd fdI:bS}
abbrev Iz(ps:List (Str×Int)):List (Key×V):=Cs (ps.map fun p=>((Sum.inr p.1:Key),V.int p.2)) []
abbrev quT(qs:List Str)(Z:List ab):List (Key×V):=Cs ((qs.zip Z).map fun p=>((Sum.inr p.1:Key),V.ref p.2)) []
structure New(H H':Hp)(CS st:ab)(ps:List (Str×Int))(qs:List Str)(dx bd qd:ab)(ls:List ab):Prop where
 hst:H' st=Z8 (.ins CS dx (stFs (.ref bd) (.ref qd) (.int 0) (.int 0)))
 hbd:H' bd=Z8 (.dK (Iz ps))
 hqd:H' qd=Z8 (.dK (quT qs ls))
 len:ls.length=qs.length
 nd:ls.Nodup
 li:∀l∈ls,H l=Z7/\H' l=Z8 (.l [])
 ost:H st=Z7
 obd:H bd=Z7
 oqd:H qd=Z7
 ne:qd≠bd
 same:cA H H'
inductive uM(CM CS:ab)(vs:List V)(H:Hp)(Q:VK)(_e:XK):Prop where
 |mk(m dx l t b q:ab)(fs:List (Str×V))(n0 x3 x4:V)(i:Nat)(ms vb:List V)(ps:List (Str×Int))(qs:List Str)(_:vs=[.ref m,.int (i:Int)])(_:H m=Z8 (.ins CM dx fs))(_:fs.lookup ("machines":Str)=Z8 (V.ref l))(_:H l=Z8 (.l ms))(_:ms[i]?=Z8 (.ref t))(_:H t=Z8 (.t [n0,.ref b,.ref q,x3,x4]))(_:H b=Z8 (.l vb))(_:fe H ps vb)(_:ps.length<=100)(_:H q=Z8 (.l (qs.map V.str)))(_:qs.length<=100)(_:∀(st dx bd qd:ab) (ls:List ab) (H':Hp),New H H' CS st ps qs dx bd qd ls->Q (.ref st) H'):uM CM CS vs H Q _e
def sF(CM CS:ab):Sp:=fun vs H Q Z=>uM CM CS vs H Q Z
theorem Cu{Z Y:Type}{xs:List Z}{ys:List Y}{i:Nat}{x:Z}{y:Y}(X:ys.length=i)(hx:xs[i]?=Z8 x):(xs.take (i+1)).zip (ys++[y])=(xs.take i).zip ys++[(x,y)]:=by
 have lt:=(ay.mp hx).1;have e:xs.take (i+1)=xs.take i++[x]:=by rw[eJ,hx];rfl
 rw[e,List.zip_append (by rw[dB,X];lia)];rfl
theorem uN(D:Df K mg "first_state" jg ["model","at"] f fd)(MS:Mk K CS fI)(FI:Fun K "__init__" "State.__init__" kT fI fdI)(bI:Binds K fdI ["self","boxes","queues","drawn","sent"] [])(B:Bl mg)(T:MdT K mg CM CS) :
  bO P w K mg base CX0 3 f fd ["model","at"] (sF CM CS):=by
 refine D.F.ok EV (fun vs H Q E h=>?_) (fun ce A outer s H vs Q E hr h=>?_)
 ·obtain⟨m,dx,l,t,b,q,fs,n0,x3,x4,i,ms,vb,ps,qs,rfl,_⟩:=h;rfl
 obtain⟨m,dx,l,t,b,q,fs,n0,x3,x4,i,ms,vb,ps,qs,rfl,hm,cr,hl,hi,ht,hb,cn,cl,hq,ci,k⟩:=h;refine⟨_,ax (pst 2 EV (bJ bN (rY (pv 0) rfl) (pv 1)))
  (ax (pst 3 EV qc)
  (ax (e9 bB rfl (eM (bJ dX (pv 2) au)) (pgn 4 EV) (aJ (oP (pd hr) (pv 3) (pv 4) (dv ao) rfl)))
  (aJ (bT (p8 MS (ok_SI FI T) hr (by rfl) T.mS bI .nil eV (bH (i6 (yC rfl) (by rfl) B.dict boot_dict (bH (bJ dX (pv 2) au) ao)) (bH (pv 3) (bH au (bH au ao))))))))),?_⟩
 dsimp only[cxB];refine{_,Z9,m,CM,dx,_,_,Z9,hm,T.clM,T.nM,cr,_,Z9,l,_,_,_,Z9,Z9,SqL.of hl,cI hi,?_};intro d hd;have s1:cA H (upd H d (.dK [])):=az hd _;have big:1000<aF:=by decide
 refine⟨_,Z9,t,_,_,_,Z9,Z9,SqT.of (s1 _ _ ht),(rfl),q,Z9,{_,SqL.of (s1 _ _ hq)},pX (xs:=qs.map V.str) (fun j σ G=>∃(v4:Option V) (Z:List ab),σ=[Z8 (.ref m),Z8 (.int (i:Int)),Z8 (.ref t),Z8 (.ref d),v4]/\j<=qs.length/\G d=Z8 (.dK (quT (qs.take j) Z))/\Z.length=j/\Z.Nodup/\(∀z∈Z,H z=Z7/\G z=Z8 (.l []))/\cA H G)
  {Z7,[],Z9,aO _,ai,Z9,pe,nofun,s1} ?_ ?_ ?_⟩
 ·rintro j σ G _ ⟨v4,Z,rfl,_,_,_,_,_,Y⟩;exact SqL.of (Y _ _ hq)
 ·intro j x σ G J qz;refine Z0 fun Gz gz=>?_;obtain⟨v4,Z,rfl,jl,X,I,nd,L,Y⟩:=qz;refine gz ?_;obtain⟨nm,O,rfl⟩:∃nm,qs[j]?=Z8 nm/\x=V.str nm:=by
   rw[bD]at J
   cases e:qs[j]? with
   |none=>rw[e]at J;cases J
   |some nm=>rw[e]at J;cases J;exact⟨nm,Z9,Z9⟩
  refine{aO _,fun z hz=>?_};have M:=aC X hz;have lt:(quT (qs.take j) Z).length<aF:=by
   have U:=xg ((((qs.take j).zip Z).map fun p=>((Sum.inr p.1:Key),V.ref p.2))) [];rw[ak,List.length_zip,dB]at U;simp only[cU]at U;exact dS U (by lia)
  refine{_,Z9,_,Z9,d,_,Z9,rj.k (k:=Sum.inr nm) ((aV M) ▸ X) lt,?_};have cp:z∉Z:=fun c=>by
   have U:=(L z c).2;rw[hz]at U
   cases U
  refine{_,Z++[z],Z9,((ay.mp O).1),?_,by rw[aL,I];rfl,vD nd cp,fun y hy=>?_,?_}
  ·show upd _ d _ d=_;rw[ai];unfold quT;rw[Cu I O,cq];unfold Cs;rw[List.foldl_append];rfl
  ·rcases cj.mp hy with c|c
   ·obtain⟨c1,W⟩:=L y c;refine{c1,?_};rw[aV (cQ W X (by intro e;cases e)),aV (aC W hz)];exact W
   ·rw[aH.mp c];refine{(Y.free hz),?_};rw[aV M.symm];exact ai
  ·intro c o hc;have W:=Y _ _ hc;rw[aV (aC hc hd),aV (aC W hz)];exact W
 ·rintro σ G ⟨v4,Z,rfl,jl,X,I,nd,L,Y⟩;rw[ak]at I X;rw[eX]at X;refine{_,Z9,t,_,_,_,Z9,Z9,SqT.of (Y _ _ ht),(rfl),b,vb,_,Z9,Y _ _ hb,fe.same Y cn,by rw[ak];lia,fun e he=>?_};have s2:cA G (upd G e (.dK (Iz ps))):=az he _;refine{_,Z9,?_};intro x r nx co ck;refine{x,r,_,_,_,_,Z9,ai,fun H' hx bt=>{Z9,k x r e d Z H' ?_}};have g:∀{c:ab} {o:HO},upd G e (.dK (Iz ps)) c=Z8 o->H' c=Z8 o:=fun {c o} hc=>by
   have cx:=aC hc nx;refine bt c o ?_ cx;rw[aV cx,aV (aC hc co)];exact hc
  exact{hx,g ai,g (s2 _ _ X),I,nd,fun z hz=>{(L z hz).1,g (s2 _ _ (L z hz).2)},Y.free (s2.free nx),Y.free he,hd,aC X he,fun c o hc=>g (s2 _ _ (Y _ _ hc))}
end
section
variable{κ:Type}[DecidableEq κ]
end
theorem Cv{Z zs:List Str}{lo hi:Option Int}(h:p9 (Z.map V.str) lo hi=zs.map V.str)(X:Z.Nodup):zs.Nodup:=by
 have Y:(p9 (Z.map V.str) lo hi).Nodup:=by
  exact ((Cw.mpr (oH (fun n e=>n (V.str.inj e)) X)).sublist (List.drop_sublist _ _)).sublist (BS _ _)
 rw[h]at Y;exact oH (fun n e=>n (by rw[e])) (Cw.mp Y)
theorem fe.tups{H H':Hp}(s:∀t xs,H t=Z8 (.t xs)->H' t=Z8 (.t xs)):∀{ps:List (Str×Int)} {vs:List V},fe H ps vs->fe H' ps vs
 | [],_,h=>by
  cases h;exact .nil
 |p::ps,_,h=>by
  cases h with
  |cons a b=>
   obtain⟨t,e,h⟩:=a;exact .cons {t,e,s _ _ h} (fe.tups s b)
def Cy:List Str:=["plus","less","times","part","rest","below","same"]
inductive Fm where
 |num(n:Int)
 |box(x:Str)
 |long(x:Str)
 |got(j:Bool)
 |now
 |two(k:Str)(f g:Fm)
def Fm.depth:Fm->Nat
 |.two _ f g=>max f.depth g.depth+1
 |_=>1
def Wo(a:Int):Prop:=-(10^15)<=a/\a<=10^15
inductive jU(bs qs:List Str)(H:Hp):V->Fm->Prop where
 |num{t:ab}{n:Int}:H t=Z8 (.t [.str "number",.int n])->Wo n->jU bs qs H (.ref t) (.num n)
 |box{t:ab}{x:Str}:H t=Z8 (.t [.str "box",.str x])->x∈bs->jU bs qs H (.ref t) (.box x)
 |long{t:ab}{x:Str}:H t=Z8 (.t [.str "long",.str x])->x∈qs->jU bs qs H (.ref t) (.long x)
 |got{t:ab}{j:Bool}:H t=Z8 (.t [.str "got",.int (if j then 1 else 0)])->jU bs qs H (.ref t) (.got j)
 |now{t:ab}:H t=Z8 (.t [.str "now"])->jU bs qs H (.ref t) .now
 |two{t:ab}{k:Str}{u v:V}{f g:Fm}:H t=Z8 (.t [.str k,u,v])->k∈Cy->jU bs qs H u f->jU bs qs H v g->jU bs qs H (.ref t) (.two k f g)
theorem jU.mono{bs qs:List Str}{H H':Hp}{v:V}{f:Fm}(h:jU bs qs H v f)(s:∀t xs,H t=Z8 (.t xs)->H' t=Z8 (.t xs)):jU bs qs H' v f:=by
 induction h with
 |num h1 h2=>exact .num (s _ _ h1) h2
 |box h1 h2=>exact .box (s _ _ h1) h2
 |long h1 h2=>exact .long (s _ _ h1) h2
 |got h1=>exact .got (s _ _ h1)
 |now h1=>exact .now (s _ _ h1)
 |two h1 h2 _ _ Z Y=>exact .two (s _ _ h1) h2 Z Y
theorem jU.same{bs qs:List Str}{H H':Hp}{v:V}{f:Fm}(h:jU bs qs H v f)(s:cA H H'):jU bs qs H' v f:=h.mono fun _ _ e=>s _ _ e
section
variable{P:aP}{w:bF}{K:ag}{mg:Str->Option ae}{base:cz}{f fD fT fL CN CG CM CS:ab}{fd fdD fdT fdL:bS}
theorem lS{c:Bool}{b:Bool}{p q:Prop}(h:c=b)(t:if b=true then p else q):if c=true then p else q:=by
 rw[h];exact t
end
mutual
inductive Dd where
 |put(x:Str)(f:Fm)
 |push(q:Str)(f:Fm)
 |pull(q x:Str)(o:Ds)
 |draw(x:Str)(f:Fm)
 |send(to:Int)(sg:Str)(sp:Fm)(rk:Int)(a b:Fm)
 |ife(f:Fm)(t e:Ds)
 |fin
inductive Ds where
 |nil
 |cons(d:Dd)(r:Ds)
end
structure Ev where
 t:Int
 r:Int
 fr:Int
 c:Int
 to:Int
 sg:Str
 a:Int
 b:Int
mutual
def Dd.deep:Dd->Nat
 |.pull _ _ o=>o.deep+1
 |.ife _ t e=>max t.deep e.deep+1
 |_=>0
def Ds.deep:Ds->Nat
 |.nil=>0
 |.cons d r=>max d.deep r.deep
end
def pf(H:Hp)(R:List V->Prop)(v:V):Prop:=∃l vs,v=.ref l/\H l=Z8 (.l vs)/\vs.length<1000/\R vs
def FmI(bs qs:List Str)(H:Hp)(v:V)(f:Fm):Prop:=jU bs qs H v f/\f.depth<=15
mutual
def fj(bs qs:List Str)(H:Hp):Dd->V->Prop
 |.put x f,v=>∃t u,v=.ref t/\H t=Z8 (.t [.str "put",.str x,u])/\x∈bs/\FmI bs qs H u f
 |.push q f,v=>∃t u,v=.ref t/\H t=Z8 (.t [.str "push",.str q,u])/\q∈qs/\FmI bs qs H u f
 |.pull q x o,v=>∃t u,v=.ref t/\H t=Z8 (.t [.str "pull",.str q,.str x,u])/\q∈qs/\x∈bs/\pf H (gN bs qs H o) u
 |.draw x f,v=>∃t u,v=.ref t/\H t=Z8 (.t [.str "draw",.str x,u])/\x∈bs/\FmI bs qs H u f
 |.send to Z sp Y a b,v=>∃t u u1 u2,v=.ref t/\H t=Z8 (.t [.str "send",.int to,.str Z,u,.int Y,u1,u2])/\FmI bs qs H u sp/\FmI bs qs H u1 a/\FmI bs qs H u2 b
 |.ife f x y,v=>∃t u u1 u2,v=.ref t/\H t=Z8 (.t [.str "if",u,u1,u2])/\FmI bs qs H u f/\pf H (gN bs qs H x) u1/\pf H (gN bs qs H y) u2
 |.fin,v=>∃t,v=.ref t/\H t=Z8 (.t [.str "end"])
def gN(bs qs:List Str)(H:Hp):Ds->List V->Prop
 |.nil,vs=>vs=[]
 |.cons d r,vs=>∃v Z,vs=v::Z/\fj bs qs H d v/\gN bs qs H r Z
end
theorem pf.same{H H':Hp}(s:cA H H'){R Z:List V->Prop}(f:∀vs,R vs->Z vs){v:V}(h:pf H R v):pf H' Z v:=by
 obtain⟨l,vs,e,h1,h2,Y⟩:=h;exact{l,vs,e,s _ _ h1,h2,f vs Y}
theorem FmI.same{bs qs:List Str}{H H':Hp}(s:cA H H'){v:V}{f:Fm}(h:FmI bs qs H v f):FmI bs qs H' v f:={h.1.same s,h.2}
mutual
theorem fj.same{bs qs:List Str}{H H':Hp}(s:cA H H'):∀(d:Dd) (v:V),fj bs qs H d v->fj bs qs H' d v
 |.put x f,v,h=>by
  obtain⟨t,u,e,h1,h2,Z⟩:=(by simpa only[fj] using h);simp only[fj];exact{t,u,e,s _ _ h1,h2,Z.same s}
 |.push q f,v,h=>by
  obtain⟨t,u,e,h1,h2,Z⟩:=(by simpa only[fj] using h);simp only[fj];exact{t,u,e,s _ _ h1,h2,Z.same s}
 |.pull q x o,v,h=>by
  obtain⟨t,u,e,h1,h2,Z,Y⟩:=(by simpa only[fj] using h);simp only[fj];exact{t,u,e,s _ _ h1,h2,Z,Y.same s (gN.same s o)}
 |.draw x f,v,h=>by
  obtain⟨t,u,e,h1,h2,Z⟩:=(by simpa only[fj] using h);simp only[fj];exact{t,u,e,s _ _ h1,h2,Z.same s}
 |.send to X sp W a b,v,h=>by
  obtain⟨t,u,u1,u2,e,h1,h2,Z,Y⟩:=(by simpa only[fj] using h);simp only[fj];exact{t,u,u1,u2,e,s _ _ h1,h2.same s,Z.same s,Y.same s}
 |.ife f x y,v,h=>by
  obtain⟨t,u,u1,u2,e,h1,h2,Z,Y⟩:=(by simpa only[fj] using h);simp only[fj];exact{t,u,u1,u2,e,s _ _ h1,h2.same s,Z.same s (gN.same s x),Y.same s (gN.same s y)}
 |.fin,v,h=>by
  obtain⟨t,e,h1⟩:=(by simpa only[fj] using h);simp only[fj];exact{t,e,s _ _ h1}
theorem gN.same{bs qs:List Str}{H H':Hp}(s:cA H H'):∀(d:Ds) (vs:List V),gN bs qs H d vs->gN bs qs H' d vs
 |.nil,vs,h=>by
  simpa only[gN] using h
 |.cons d r,vs,h=>by
  obtain⟨v,Z,e,h1,h2⟩:=(by simpa only[gN] using h);simp only[gN];exact{v,Z,e,fj.same s d v h1,gN.same s r Z h2}
end
def oJ(H:Hp)(v:V)(e:Ev):Prop:=∃t k,v=.ref t/\H t=Z8 (.t [.ref k,.int e.to,.str e.sg,.int e.a,.int e.b])/\H k=Z8 (.t [.int e.t,.int e.r,.int e.fr,.int e.c])
theorem oJ.same{H H':Hp}(s:cA H H'){v:V}{e:Ev}(h:oJ H v e):oJ H' v e:=by
 obtain⟨t,k,e1,h1,h2⟩:=h;exact{t,k,e1,s _ _ h1,s _ _ h2}
section
variable{CD CS:ab}{bs qs:List Str}{H0 G G':Hp}{L:Lay}{h:Ev}{ds:List Int}{w:Wk}
theorem Paired.mono{Z Y:Type}{R S:Z->Y->Prop}(f:∀a b,R a b->S a b){xs:List Z}{ys:List Y}(r:bM R xs ys):bM S xs ys:=_L.Paired.imp' f r
theorem kP{o o':HO}{a b:ab}(e:G a=Z8 o)(n:a≠b):upd G b o' a=Z8 o:=(aV n) ▸ e
theorem ef:1000<aF:=by decide
end
end _M
namespace _L
open PySem
end _L
namespace _M
open PySem _L
structure Mt(K:ag)(C:ab)(x qual:Str)(st:dI)(ps:List Str)(f:ab)(fd:bS):Prop where
 F:Fun K x qual st f fd
 b:Binds K fd ps []
 m:yp K C x f
section
variable{CD CS:ab}{bs qs:List Str}{H0 G G':Hp}{L:Lay}{h:Ev}{ds:List Int}{w:Wk}
end
section
variable{P:aP}{w:bF}{K:ag}{mg:Str->Option ae}{base:cz}{f fN fR fF fW fT fD fL fQ CD CS CM:ab}{fd fdN fdR fdF fdW fdT fdD fdL fdQ:bS}{cf:Flt->ab}{bs qs:List Str}
end
section
variable{P:aP}{w:bF}{K:ag}{mg:Str->Option ae}{base:cz}{f fN fR fF CD CS CM:ab}{fd fdN fdR fdF:bS}{cf:Flt->ab}{bs qs:List Str}
end
mutual
def Dd.size:Dd->Nat
 |.pull _ _ o=>o.size+1
 |.ife _ t e=>t.size+e.size+1
 |_=>1
def Ds.size:Ds->Nat
 |.nil=>0
 |.cons d r=>d.size+r.size
end
section
variable{P:aP}{w:bF}{K:ag}{mg:Str->Option ae}{base:cz}{f fR fF fP fD fU fW fS f1 fQ CD CS CM:ab}{fd fdR fdF fdP fdD fdU fdW fdS fd1 fdQ:bS}{cf:Flt->ab}{bs qs:List Str}
end
end _M
namespace _L
open PySem PySem.Spec PyProof.Rows
end _L
namespace _M
open PySem _L
section
variable{P:aP}{w:bF}{K:ag}{mg:Str->Option ae}{base:cz}{f fI CD CS CM:ab}{fd fdI:bS}
end
def EW(bs qs:List Str)(H:Hp)(v:V)(p:Str×Ds):Prop:=∃t u,v=.ref t/\H t=Z8 (.t [.str p.1,u])/\pf H (gN bs qs H p.2) u
theorem EW.same{bs qs:List Str}{H H':Hp}(s:cA H H'){v:V}{p:Str×Ds}(h:EW bs qs H v p):EW bs qs H' v p:=by
 obtain⟨t,u,e,h1,h2⟩:=h;exact{t,u,e,s _ _ h1,h2.same s (gN.same s p.2)}
section
variable{P:aP}{w:bF}{K:ag}{mg:Str->Option ae}{base:cz}{f fC fI CD CS CM:ab}{fd fdC fdI:bS}{bs qs:List Str}
theorem uO{Z Y:Type}{R:Z->Y->Prop}:∀{xs:List Z} {ys:List Y} {i:Nat} {x:Z},bM R xs ys->xs[i]?=Z8 x->∃y,ys[i]?=Z8 y/\R x y
 |_,_,i,x,.nil,h=>by simp at h
 |_,_,0,x,.cons a b,h=>by
  simp at h;subst h;exact{_,Z9,a}
 |_,_,i+1,x,.cons a b,h=>by
  obtain⟨y,h1,h2⟩:=uO b (by simpa using h);exact{y,by simpa using h1,h2}
end
structure yK(bs qs:List Str)(ds:List Int)(hs:List (Str×Ds))(H:Hp)(m:V):Prop where
 ex:∃(t bl ql dl hl:ab) (nm:V) (vb hv:List V),m=.ref t/\H t=Z8 (.t [nm,.ref bl,.ref ql,.ref dl,.ref hl])/\H bl=Z8 (.l vb)/\bM (fun v (x:Str)=>∃a n,v=.ref a/\H a=Z8 (.t [.str x,n])) vb bs/\H ql=Z8 (.l (qs.map V.str))/\H dl=Z8 (.l (ds.map V.int))/\H hl=Z8 (.l hv)/\bM (EW bs qs H) hv hs
theorem yK.same{bs qs:List Str}{ds:List Int}{hs:List (Str×Ds)}{H H':Hp}(s:cA H H'){m:V}(h:yK bs qs ds hs H m):yK bs qs ds hs H' m:=by
 obtain⟨t,bl,O,Y,L,nm,Z,hv,e,h1,h2,J,X,W,M,U⟩:=h;exact⟨t,bl,O,Y,L,nm,Z,hv,e,s _ _ h1,s _ _ h2,Paired.mono (fun v x z=>by
  obtain⟨a,n,e,y⟩:=z;exact{a,n,e,s _ _ y}) J,s _ _ X,s _ _ W,s _ _ M,Paired.mono (fun _ _ z=>z.same s) U⟩
theorem iA{H G:Hp}{a:ab}(s:cA H G)(n:H a=Z7)(o:HO):cA H (upd G a o):=fun b u e=>by
 rw[aV (aC e n)];exact s _ _ e
theorem none_of{H G:Hp}(s:cA H G){a:ab}(n:G a=Z7):H a=Z7:=by
 cases z:H a with
 |none=>rfl
 |some o=>
  rw[s _ _ z]at n
  cases n
section
variable{P:aP}{w:bF}{K:ag}{mg:Str->Option ae}{base:cz}{f CD CS CM:ab}{fd:bS}{bs qs:List Str}
end
section
variable{P:aP}{w:bF}{K:ag}{mg:Str->Option ae}{base:cz}{f fI fS fB fW fO CD CS CM:ab}{fd fdI fdS fdB fdW fdO:bS}{bs qs:List Str}{cf:Flt->ab}
end
theorem dO{t u:TS}{D:jW}{σ:St}{H:Hp}(h:t {D with nx:=u D} σ H):En t u D σ H:=h
theorem cB{t u:TS}{D:jW}{σ:St}{H:Hp}(h:∀R:St->Hp->Prop,(∀Z H',u D Z H'->R Z H')->t {D with nx:=R} σ H):En t u D σ H:=h _ fun _ _ z=>z
theorem iM{K:ag}{a:ab}{xs:List V}{g:TG}{tb:TS}{D:jW}{σ:St}{H:Hp}(Y:Nat->St->Hp->Prop)(h0:Y 0 σ H)(M:∀i σ H,i<=xs.length->Y i σ H->SqL K H a xs)
  (hs:∀(N:Nat->St->Hp->Prop) (B:St->Hp->Prop),(∀i σ H,Y i σ H->N i σ H)->∀i x σ H,xs[i]?=Z8 x->Y i σ H->g x σ H fun Z H2=>tb {D with nx:=N (i+1),ct:=N (i+1),bk:=B} Z H2) (O:∀σ H,Y xs.length σ H->D.nx σ H) :
  ∃W:Nat->Nat->St->Hp->Prop,(∃m,W 0 m σ H)/\∀i m σ H,W i m σ H ->
   ((Itl K a).stop i H/\D.nx σ H)\/((Itl K a).go i H/\∃N:St->Hp->Prop,(∀X H',N X H'->∃U,U<m/\W (i+1) U X H')/\∀x H',(Itl K a).yld i H x H'->g x σ H' fun Z H2=>tb {D with nx:=N,ct:=N,bk:=D.nx} Z H2):=pX Y h0 M (hs Y D.nx fun _ _ _ z=>z) O
theorem mT{lo:Int}{n:Nat}{g:TG}{tb:TS}{D:jW}{σ:St}{H:Hp}(Y:Nat->St->Hp->Prop)(h0:Y 0 σ H)
  (hs:∀(N:Nat->St->Hp->Prop) (B:St->Hp->Prop),(∀i σ H,Y i σ H->N i σ H)->∀i σ H,i<n->Y i σ H->g (.int (lo+i)) σ H fun Z H2=>tb {D with nx:=N (i+1),ct:=N (i+1),bk:=B} Z H2) (U:∀σ H,Y n σ H->D.nx σ H) :
  ∃W:Nat->Nat->St->Hp->Prop,(∃m,W 0 m σ H)/\∀i m σ H,W i m σ H ->
   ((Itr lo n).stop i H/\D.nx σ H)\/((Itr lo n).go i H/\∃N:St->Hp->Prop,(∀X H',N X H'->∃V,V<m/\W (i+1) V X H')/\∀x H',(Itr lo n).yld i H x H'->g x σ H' fun Z H2=>tb {D with nx:=N,ct:=N,bk:=D.nx} Z H2):=kW Y h0 (hs Y D.nx fun _ _ _ z=>z) U
theorem cS{te:TE}{g:TG}{D:jW}{σ:St}{H:Hp}(h:te σ H fun x H1=>g x σ H1 D.nx):BE te g D σ H:=h
theorem bK{i:Nat}{v:V}{σ:St}{H:Hp}{Q:St->Hp->Prop}(h:Q (σ.set i (Z8 v)) H):pW i v σ H Q:=h
theorem gk{i:Nat}{v:V}{σ:St}{H:Hp}{R u:St->Hp->Prop}(k:∀Z H',u Z H'->R Z H')(h:u (σ.set i (Z8 v)) H):pW i v σ H R:=k _ _ h
theorem tup_i{t:TA}{σ:St}{H:Hp}{Q:VK}(h:t σ H fun xs H1=>xs.length<=aF/\∀p,H1 p=Z7->Q (.ref p) (upd H1 p (.t xs))):HZ t σ H Q:=h
theorem qM{C:ab}{sp:Sp}{dvs:List V}{E:XK}{t:TA}{σ:St}{H:Hp}{Q:VK} (h:t σ H fun vs H1=>∀x dx,H1 x=Z7->H1 dx=Z7->dx≠x ->
  sp (.ref x::(vs++dvs)) (upd (upd H1 dx (.own x)) x (.ins C dx [])) (fun v H2=>v=.non/\Q (.ref x) H2) E):BR C sp dvs E t σ H Q:=h
section
variable{X:Cx}{e:cH}{ta:TE}{f:Str}{pos:Pos}
theorem cO(K:ag)(Z:X.K=K)(Y:PE X e ta)(hb:gW e f X.env (eY e X.env)=eY e X.env):PE X (.Attribute e f pos) (tFld K ta f):=by
 rw[<- Z];exact rY Y hb
theorem sI(K:ag)(Z:X.K=K):kN X (.type "list") (fun xs H Q=>∃p ys,xs=[.ref p]/\(SqL K H p ys\/SqT K H p ys)/\∀l,H l=Z7->Q (.ref l) (upd H l (.l ys))):=by
 rw[<- Z];exact vA
end
theorem zT{H:Hp}{n:Nat}{t:ab}{xs:List V}(Z:H t=Z8 (.t xs)\/H t=Z8 (.l xs))(T:Tree H n (.ref t)):∃m,n=m+1/\∀x∈xs,Tree H m x:=by
 cases n with
 |zero=>exact T.elim
 |succ m=>
  refine{m,Z9,?_}
  rcases T with T|⟨p,ys,e,h1,_,h2⟩
  ·exact T.elim
  ·grind
theorem jb{H H':Hp}{n:Nat}{t:ab}{xs:List V}{Y:V}(Z:H t=Z8 (.t xs))(T:Tree H n (.ref t))(X:Alike H H' n (.ref t) Y):∃m t' ys,Y=.ref t'/\H' t'=Z8 (.t ys)/\bM (Alike H H' m) xs ys/\∀x∈xs,Tree H m x:=by
 refine Z0 fun U W=>?_;obtain⟨m,rfl,h⟩:=zT (.inl Z) T;obtain⟨t',ys,e,h1,h2⟩:=qL Z X;exact W (⟨m,t',ys,e,h1,h2,h⟩)
theorem sJ{H H':Hp}{n:Nat}{t:ab}{xs:List V}{Y:V}(Z:H t=Z8 (.l xs))(T:Tree H n (.ref t))(X:Alike H H' n (.ref t) Y):∃m t' ys,Y=.ref t'/\H' t'=Z8 (.l ys)/\bM (Alike H H' m) xs ys/\∀x∈xs,Tree H m x:=by
 refine Z0 fun U W=>?_;obtain⟨m,rfl,h⟩:=zT (.inr Z) T;obtain⟨t',ys,e,h1,h2⟩:=mh Z X;exact W (⟨m,t',ys,e,h1,h2,h⟩)
theorem dG{R:V->V->Prop}{x:V}{xs ys:List V}(r:bM R (x::xs) ys):∃y Z,ys=y::Z/\R x y/\bM R xs Z:=by
 cases r with
 |cons a b=>exact{_,_,Z9,a,b}
theorem mi{R:V->V->Prop}{ys:List V}(r:bM R [] ys):ys=[]:=by
 cases r;rfl
theorem jU.alike{bs qs:List Str}{H H':Hp}{v:V}{F:Fm}(h:jU bs qs H v F):∀{n:Nat} {W:V},Tree H n v->Alike H H' n v W->jU bs qs H' W F:=by
 induction h with
 |num h1 h2=>
  intro n W T X;obtain⟨m,t',ys,rfl,Z,Y,_⟩:=jb h1 T X;rw[i7 Y (by intro x hx;simp at hx;rcases hx with rfl|rfl<;>exact trivial)]at Z;exact .num Z h2
 |box h1 h2=>
  intro n W T X;obtain⟨m,t',ys,rfl,Z,Y,_⟩:=jb h1 T X;rw[i7 Y (by intro x hx;simp at hx;rcases hx with rfl|rfl<;>exact trivial)]at Z;exact .box Z h2
 |long h1 h2=>
  intro n W T X;obtain⟨m,t',ys,rfl,Z,Y,_⟩:=jb h1 T X;rw[i7 Y (by intro x hx;simp at hx;rcases hx with rfl|rfl<;>exact trivial)]at Z;exact .long Z h2
 |got h1=>
  intro n W T X;obtain⟨m,t',ys,rfl,Z,Y,_⟩:=jb h1 T X;rw[i7 Y (by intro x hx;simp at hx;rcases hx with rfl|rfl<;>exact trivial)]at Z;exact .got Z
 |now h1=>
  intro n W T X;obtain⟨m,t',ys,rfl,Z,Y,_⟩:=jb h1 T X;rw[i7 Y (by intro x hx;rw[aH.mp hx];exact trivial)]at Z;exact .now Z
 |two h1 h2 _ _ L J=>
  intro n W T X;obtain⟨m,t',ys,rfl,Z,Y,O⟩:=jb h1 T X;obtain⟨I,U,rfl,M,Y⟩:=dG Y;obtain⟨D,U,rfl,a1,Y⟩:=dG Y;obtain⟨B,U,rfl,a2,Y⟩:=dG Y;obtain rfl:=mi Y;rw[(fc (v:=.str _) trivial M)]at Z;exact .two Z h2 (L (O _ (by simp)) a1) (J (O _ (by simp)) a2)
theorem FmI.alike{bs qs:List Str}{H H':Hp}{v Z:V}{F:Fm}{n:Nat}(h:FmI bs qs H v F)(T:Tree H n v)(Y:Alike H H' n v Z):FmI bs qs H' Z F:={h.1.alike T Y,h.2}
theorem pf.alike{H H':Hp}{R X:List V->Prop}{v Z:V}{n:Nat}(h:pf H R v)(T:Tree H n v)(W:Alike H H' n v Z)(k:∀m vs ys,R vs->bM (Alike H H' m) vs ys->(∀x∈vs,Tree H m x)->X ys):pf H' X Z:=by
 obtain⟨l,vs,rfl,h1,h2,M⟩:=h;obtain⟨m,t',ys,rfl,U,Y,O⟩:=sJ h1 T W;exact{t',ys,Z9,U,by rw[<- bQ Y];exact h2,k m vs ys M Y O}
mutual
theorem fj.alike{bs qs:List Str}{H H':Hp}:∀(d:Dd) (v J:V) (n:Nat),fj bs qs H d v->Tree H n v->Alike H H' n v J->fj bs qs H' d J
 |.put x f,v,J,n,h,T,U=>by
  obtain⟨t,u,rfl,h1,h2,M⟩:=(by simpa only[fj] using h);obtain⟨m,t',ys,rfl,X,Z,W⟩:=jb h1 T U;obtain⟨I,Y,rfl,O,Z⟩:=dG Z;obtain⟨D,Y,rfl,a1,Z⟩:=dG Z;obtain⟨L,Y,rfl,a2,Z⟩:=dG Z;obtain rfl:=mi Z;rw[fc (v:=.str _) trivial O,fc (v:=.str _) trivial a1]at X;simp only[fj];exact{t',L,Z9,X,h2,M.alike (W _ (by simp)) a2}
 |.push x f,v,J,n,h,T,U=>by
  obtain⟨t,u,rfl,h1,h2,M⟩:=(by simpa only[fj] using h);obtain⟨m,t',ys,rfl,X,Z,W⟩:=jb h1 T U;obtain⟨I,Y,rfl,O,Z⟩:=dG Z;obtain⟨D,Y,rfl,a1,Z⟩:=dG Z;obtain⟨L,Y,rfl,a2,Z⟩:=dG Z;obtain rfl:=mi Z;rw[fc (v:=.str _) trivial O,fc (v:=.str _) trivial a1]at X;simp only[fj];exact{t',L,Z9,X,h2,M.alike (W _ (by simp)) a2}
 |.pull q x o,v,J,n,h,T,U=>by
  obtain⟨t,u,rfl,h1,h2,M,z⟩:=(by simpa only[fj] using h);obtain⟨m,t',ys,rfl,X,Z,W⟩:=jb h1 T U;obtain⟨I,Y,rfl,O,Z⟩:=dG Z;obtain⟨D,Y,rfl,a1,Z⟩:=dG Z;obtain⟨L,Y,rfl,a2,Z⟩:=dG Z;obtain⟨B,Y,rfl,a3,Z⟩:=dG Z;obtain rfl:=mi Z;rw[fc (v:=.str _) trivial O,fc (v:=.str _) trivial a1,fc (v:=.str _) trivial a2]at X;simp only[fj];exact{t',B,Z9,X,h2,M,z.alike (W _ (by simp)) a3 fun m vs ys a b c=>gN.alike o vs ys m a b c}
 |.draw x f,v,J,n,h,T,U=>by
  obtain⟨t,u,rfl,h1,h2,M⟩:=(by simpa only[fj] using h);obtain⟨m,t',ys,rfl,X,Z,W⟩:=jb h1 T U;obtain⟨I,Y,rfl,O,Z⟩:=dG Z;obtain⟨D,Y,rfl,a1,Z⟩:=dG Z;obtain⟨L,Y,rfl,a2,Z⟩:=dG Z;obtain rfl:=mi Z;rw[fc (v:=.str _) trivial O,fc (v:=.str _) trivial a1]at X;simp only[fj];exact{t',L,Z9,X,h2,M.alike (W _ (by simp)) a2}
 |.send to sg sp rk a b,v,J,n,h,T,U=>by
  obtain⟨t,u,u1,u2,rfl,h1,h2,M,z⟩:=(by simpa only[fj] using h);obtain⟨m,t',ys,rfl,X,Z,W⟩:=jb h1 T U;obtain⟨I,Y,rfl,O,Z⟩:=dG Z;obtain⟨D,Y,rfl,a1,Z⟩:=dG Z;obtain⟨L,Y,rfl,a2,Z⟩:=dG Z;obtain⟨B,Y,rfl,a3,Z⟩:=dG Z;obtain⟨y4,Y,rfl,a4,Z⟩:=dG Z;obtain⟨r,Y,rfl,a5,Z⟩:=dG Z;obtain⟨g,Y,rfl,a6,Z⟩:=dG Z;obtain rfl:=mi Z;rw[fc (v:=.str _) trivial O,fc (v:=.int _) trivial a1,fc (v:=.str _) trivial a2,fc (v:=.int _) trivial a4]at X;simp only[fj];exact{t',B,r,g,Z9,X,h2.alike (W _ (by simp)) a3,M.alike (W _ (by simp)) a5,z.alike (W _ (by simp)) a6}
 |.ife f x y,v,J,n,h,T,U=>by
  obtain⟨t,u,u1,u2,rfl,h1,h2,M,z⟩:=(by simpa only[fj] using h);obtain⟨m,t',ys,rfl,X,Z,W⟩:=jb h1 T U;obtain⟨I,Y,rfl,O,Z⟩:=dG Z;obtain⟨D,Y,rfl,a1,Z⟩:=dG Z;obtain⟨L,Y,rfl,a2,Z⟩:=dG Z;obtain⟨B,Y,rfl,a3,Z⟩:=dG Z;obtain rfl:=mi Z;rw[fc (v:=.str _) trivial O]at X;simp only[fj];exact{t',D,L,B,Z9,X,h2.alike (W _ (by simp)) a1,M.alike (W _ (by simp)) a2 fun m vs ys a b c=>gN.alike x vs ys m a b c,z.alike (W _ (by simp)) a3 fun m vs ys a b c=>gN.alike y vs ys m a b c}
 |.fin,v,J,n,h,T,U=>by
  obtain⟨t,rfl,h1⟩:=(by simpa only[fj] using h);obtain⟨m,t',ys,rfl,X,Z,W⟩:=jb h1 T U;obtain⟨I,Y,rfl,O,Z⟩:=dG Z;obtain rfl:=mi Z;rw[fc (v:=.str _) trivial O]at X;simp only[fj];exact⟨t',Z9,X⟩
theorem gN.alike{bs qs:List Str}{H H':Hp}:∀(d:Ds) (vs ys:List V) (n:Nat),gN bs qs H d vs->bM (Alike H H' n) vs ys->(∀x∈vs,Tree H n x)->gN bs qs H' d ys
 |.nil,vs,ys,n,h,Z,T=>by
  have e:vs=[]:=by simpa only[gN] using h
  subst e;obtain rfl:=mi Z;simp only[gN]
 |.cons d r,vs,ys,n,h,Z,T=>by
  obtain⟨v,X,rfl,h1,h2⟩:=(by simpa only[gN] using h);obtain⟨y,Y,rfl,a,b⟩:=dG Z;simp only[gN];exact{y,Y,Z9,fj.alike d v y n h1 (T v aU) a,gN.alike r X Y n h2 b fun x hx=>T x (bL _ hx)}
end
theorem oU{Y:Type}{R W:V->Y->Prop}{S:V->V->Prop}{T:V->Prop}(f:∀v a X,R v a->S v X->T v->W X a):∀{xs ys:List V} {Z:List Y},bM R xs Z->bM S xs ys->(∀x∈xs,T x)->bM W ys Z:=by
 intro xs ys Z p
 induction p generalizing ys with
 |nil=>
  intro q _
  cases q;exact .nil
 |cons a b U=>
  intro q t
  cases q with
  |cons c d=>exact .cons (f _ _ _ a c (t _ aU)) (U d fun x hx=>t x (bL _ hx))
theorem yK.alike{bs qs:List Str}{ds:List Int}{hs:List (Str×Ds)}{H H':Hp}{v W:V}{n:Nat}(h:yK bs qs ds hs H v)(T:Tree H n v)(al:Alike H H' n v W):yK bs qs ds hs H' W:=by
 refine Z0 fun Gz B=>?_;obtain⟨t,bl,ql,dl,hl,nm,vb,hv,rfl,h1,h2,h3,h4,h5,h6,h7⟩:=h.ex;obtain⟨m,t',ys,rfl,g1,Z,U⟩:=jb h1 T al;obtain⟨y0,O,rfl,a0,Z⟩:=dG Z;obtain⟨y1,O,rfl,a1,Z⟩:=dG Z;obtain⟨y2,O,rfl,a2,Z⟩:=dG Z;obtain⟨y3,O,rfl,a3,Z⟩:=dG Z;obtain⟨y4,O,rfl,a4,Z⟩:=dG Z;obtain rfl:=mi Z;obtain⟨m1,b',I,rfl,c1,d1,t1⟩:=sJ h2 (U _ (by simp)) a1;obtain⟨m2,q',dn,rfl,g,d,t2⟩:=sJ h4 (U _ (by simp)) a2;obtain⟨m3,e',dp,rfl,f,d3,t3⟩:=sJ h5 (U _ (by simp)) a3;obtain⟨m4,f',D,rfl,c4,d4,t4⟩:=sJ h6 (U _ (by simp)) a4;refine B ?_;rw[i7 d (by intro x hx;obtain⟨z,_,rfl⟩:=bY.mp hx;exact trivial)]at g;rw[i7 d3 (by intro x hx;obtain⟨z,_,rfl⟩:=bY.mp hx;exact trivial)]at f;refine{t',b',q',e',f',y0,I,D,Z9,g1,c1,oU (fun v a W x y z=>?_) h3 d1 t1,g,f,c4,oU (fun v a W x y z=>?_) h7 d4 t4}
 ·refine Z0 fun Gz B=>?_;obtain⟨p,k,rfl,hp⟩:=x;obtain⟨m',L,ws,rfl,X,Y,_⟩:=jb hp z y;obtain⟨w0,wr,rfl,J,Y⟩:=dG Y;obtain⟨r,wr,rfl,q,Y⟩:=dG Y;refine B ?_;obtain rfl:=mi Y;rw[fc (v:=.str _) trivial J]at X;exact⟨L,r,Z9,X⟩
 ·obtain⟨p,u,rfl,hp,hu⟩:=x;obtain⟨m',L,ws,rfl,X,Y,M⟩:=jb hp z y;obtain⟨w0,wr,rfl,J,Y⟩:=dG Y;obtain⟨r,wr,rfl,q,Y⟩:=dG Y;obtain rfl:=mi Y;rw[fc (v:=.str _) trivial J]at X;exact{L,r,Z9,X,hu.alike (M _ (by simp)) q fun m vs ys a b c=>gN.alike _ vs ys m a b c}
def Cz(K:ag):List V->Hp->VK->Prop:=fun xs H Q=>∃p ys,xs=[.ref p]/\(SqL K H p ys\/SqT K H p ys)/\Q (.int ys.length) H
theorem dH{X:Cx}(K:ag)(Z:X.K=K):kN X (.builtin "len") (Cz K):=by
 rw[<- Z];exact mJ
theorem i8{X:Cx}(K:ag)(Z:X.K=K):IxR X (EC K):=by
 rw[<- Z];exact dX
theorem zU{X:Cx}{pos:Pos}{es:List cH}{k:Nat}{t:TGs}{n:Nat}(K:ag)(Y:X.K=K)(hc:X.calm=true)(h:PGs X es t)
  (hn:(kZ es X.env).length=n:=by rfl) (Z:(kZ es X.env).findIdx? (·.1)=Z7:=by rfl):PG X (.Tuple es k pos) (gTup K n t):=by
 rw[<- Y];exact n6 hc h hn Z
theorem IA:1<=aF:=by decide
theorem gF{te:TE}{D:jW}{σ:St}{H:Hp}(h:te σ H D.rt):HL te D σ H:=h
theorem yL{K:ag}{a:ab}{xs:List V}{n i:Nat}{g:TG}{tc:_L.TT}{te:TE}{σ:St}{H:Hp}{Q:VK}(hv:σ[i]?=Z8 (Z8 (.ref a)))(hx:SqL K H a xs)(Y:Nat->List V->Hp->Prop)(h0:Y 0 [] H)(U:∀i ys H,i<=xs.length->Y i ys H->SqL K H a xs/\ys.length<aF)
  (hs:∀i x t ys H,xs[i]?=Z8 x->Y i ys H->H t=Z7->g (.ref t) (aQ n Z7++σ) (upd H t (.t [.int i,x])) fun Z H2=>Z.drop n=σ/\tc Z H2 fun b X=>if b=true then te Z X fun y O=>Y (i+1) (ys++[y]) O else Y (i+1) ys X)
  (W:∀ys H,Y xs.length ys H->∀p,H p=Z7->Q (.ref p) (upd H p (.l ys))):m5 n (F6 K (ib (lV i) p5)) g tc te σ H Q:=
 {.ref a,hv,a,Z9,⟨xs,hx⟩,AQ Y h0 U hs W}
def mj(H:Hp)(v:V)(e:Ev):Prop:=∃t,v=.ref t/\H t=Z8 (.t [.int e.t,.int e.r,.int e.to,.str e.sg,.int e.a,.int e.b])
theorem mj.same{H H':Hp}(s:cA H H'){v:V}{e:Ev}(h:mj H v e):mj H' v e:=by
 obtain⟨t,e,h⟩:=h;exact{t,e,s _ _ h}
def atP(e:Ev)(i:Nat):Ev:={e with fr:=-1,c:=i}
section
variable{P:aP}{w:bF}{K:ag}{mg:Str->Option ae}{base:cz}{f fP CB:ab}{fd fdP:bS}
inductive CA(vs:List V)(H:Hp)(Q:VK)(_e:XK):Prop where
 |mk(sl:ab)(svs:List V)(es:List Ev)(_:vs=[.ref sl])(_:H sl=Z8 (.l svs))(_:bM (mj H) svs es)(_:es.length<1000)(_:∀(G:Hp) (l:ab) (ys:List V),cA H G->H l=Z7->G l=Z8 (.l ys)->ys.length=es.length->(∀i y e,ys[i]?=Z8 y->es[i]?=Z8 e->oJ G y (atP e i))->Q (.ref l) G):CA vs H Q _e
def Gm:Sp:=fun vs H Q Z=>CA vs H Q Z
theorem scPf:bU ["signs"] ["signs"] (aS gM):=fK
theorem ndPf:((["place","sign"]:List Str)++(["signs"]:List Str)).Nodup:=by decide +kernel
theorem IB(D:Df K mg "pending_at_first" gM ["signs"] f fd)(ME:mg "enumerate"=Z7):bO P w K mg base CX0 1 f fd ["signs"] Gm:=by
 refine D.F.ok scPf (fun vs H Q E h=>?_) (fun bt A outer s H vs Q E hr h=>?_)
 ·obtain⟨d,V,es,rfl,_⟩:=h;rfl
 obtain⟨d,V,es,rfl,W,ps,bu,k⟩:=h;refine⟨_,aJ (bT (ij ["place","sign"] (fq.open (NN:=["signs"]) (N:=["signs"]) (sc:=aS gM) rfl rfl (by decide +kernel) rfl (by decide +kernel) (by decide +kernel) rfl (by decide +kernel)) rfl (rJ (by rfl) ME (bH (pv 0) ao))
  (fun _ _ _ _=>zU (n:=2) K (by rfl) rfl (e7 (eZ (i:=0) ndPf rfl (Or.inl rfl)) (e7 (eZ (i:=1) ndPf rfl (Or.inl rfl)) kR))) (fun _ _ _ _=>gP)
  (fun _ _ _ _=>dR (bH (dR (bH (bJ (i8 K (by rfl)) (pv 1) au) (bH (bJ (i8 K (by rfl)) (pv 1) au) (bH (wO rQ au) (bH (pv 0) ao)))))
   (bH (bJ (i8 K (by rfl)) (pv 1) au) (bH (bJ (i8 K (by rfl)) (pv 1) au) (bH (bJ (i8 K (by rfl)) (pv 1) au) (bH (bJ (i8 K (by rfl)) (pv 1) au) ao)))))))),?_⟩
 dsimp only[cxA,cxB];have big:=ef;have bv:=bQ ps;refine gF ?_;refine yL (K:=K) (a:=d) (xs:=V) rfl (SqL.of W) (fun i ys G=>ys.length=i/\cA H G/\∀j y e,ys[j]?=Z8 y->es[j]?=Z8 e->oJ G y (atP e j)) {Z9,cA.refl _,fun j y e h=>by simp at h} ?_ ?_ ?_
 ·rintro i ys G hi ⟨h1,h2,_⟩;exact{SqL.of (h2 _ _ W),by lia}
 ·rintro i x t ys G hi ⟨h1,h2,B⟩ ht;obtain⟨e,M,Y,rfl,J⟩:=uO ps hi;have U:=az ht (.t [.int i,.ref Y]);have hq:=U _ _ (h2 _ _ J);refine{t,_,Z9,SqT.of ai,Z9,_,_,Z9,_,_,Z9,Z9,?_};refine{Z9,?_};unfold qe;refine iq ?_;refine{_,Z9,Y,_,_,_,Z9,Z9,SqT.of hq,Z9,_,Z9,Y,_,_,_,Z9,Z9,SqT.of hq,Z9,_,Z9,_,Z9,(by show 4<=aF;decide),fun q L=>?_};have sk:=az L (.t [.int e.t,.int e.r,.int (-1),.int i]);have Z:=sk _ _ hq;refine{_,Z9,Y,_,_,_,Z9,Z9,SqT.of Z,Z9,_,Z9,Y,_,_,_,Z9,Z9,SqT.of Z,Z9,_,Z9,Y,_,_,_,Z9,Z9,SqT.of Z,Z9,_,Z9,Y,_,_,_,Z9,Z9,SqT.of Z,Z9,(by show 5<=aF;decide),fun et I=>?_};have g:=az I (.t [.ref q,.int e.to,.str e.sg,.int e.a,.int e.b]);have z:=(U.trans sk).trans g;refine{by rw[aL,h1];rfl,h2.trans z,fun j y e' hy X=>?_}
  rcases rn j ys.length with lt|ge
  ·rw[dy lt]at hy;exact (B j y e' hy X).same z
  ·rw[df ge]at hy;have ej:j=i:=by
    by_cases c:j-ys.length=0
    ·lia
    ·rw[List.getElem?_cons,Q5 c]at hy;simp at hy
   subst ej;rw[h1,rp]at hy
   cases hy;rw[M]at X
   cases X;exact{et,q,Z9,ai,g _ _ ai}
 ·rintro ys G ⟨h1,h2,B⟩ l hl;have O:=az hl (.l ys);exact k _ l ys (h2.trans O) (none_of h2 hl) ai (by lia) fun i y e hy M=>(B i y e hy M).same O
end
theorem fj.ref{bs qs:List Str}{H:Hp}{d:Dd}{v:V}(h:fj bs qs H d v):∃t,v=.ref t:=by
 cases d<;>simp only[fj]at h
 ·obtain⟨t,_,e,_⟩:=h;exact⟨t,e⟩
 ·obtain⟨t,_,e,_⟩:=h;exact⟨t,e⟩
 ·obtain⟨t,_,e,_⟩:=h;exact⟨t,e⟩
 ·obtain⟨t,_,e,_⟩:=h;exact⟨t,e⟩
 ·obtain⟨t,_,_,_,e,_⟩:=h;exact⟨t,e⟩
 ·obtain⟨t,_,_,_,e,_⟩:=h;exact⟨t,e⟩
 ·obtain⟨t,e,_⟩:=h;exact⟨t,e⟩
theorem Tree.scal{H:Hp}{v:V}(h:AU v):∀n,Tree H n v
 |0=>h
 |_+1=>.inl h
theorem Tree.atup{H:Hp}{a:ab}{xs:List V}{n:Nat}(h:H a=Z8 (.t xs))(l:xs.length<1000)(k:∀x∈xs,Tree H n x):Tree H (n+1) (.ref a):=.inr {a,xs,Z9,.inr h,l,k}
theorem Tree.alst{H:Hp}{a:ab}{xs:List V}{n:Nat}(h:H a=Z8 (.l xs))(l:xs.length<1000)(k:∀x∈xs,Tree H n x):Tree H (n+1) (.ref a):=.inr {a,xs,Z9,.inl h,l,k}
theorem jU.tree{bs qs:List Str}{H:Hp}{v:V}{f:Fm}(h:jU bs qs H v f):∀n,f.depth<=n->Tree H n v:=by
 induction h with
 |num h1 _=>exact fun n hn=>match n,hn with
  |n+1,_=>Tree.atup h1 (by show 2<1000;decide) fun x hx=>by
   simp at hx
   rcases hx with rfl|rfl<;>exact Tree.scal (by exact trivial) _
  |0,hn=>Q7 hn (by unfold Fm.depth;decide)
 |box h1 _=>exact fun n hn=>match n,hn with
  |n+1,_=>Tree.atup h1 (by show 2<1000;decide) fun x hx=>by
   simp at hx
   rcases hx with rfl|rfl<;>exact Tree.scal (by exact trivial) _
  |0,hn=>Q7 hn (by unfold Fm.depth;decide)
 |long h1 _=>exact fun n hn=>match n,hn with
  |n+1,_=>Tree.atup h1 (by show 2<1000;decide) fun x hx=>by
   simp at hx
   rcases hx with rfl|rfl<;>exact Tree.scal (by exact trivial) _
  |0,hn=>Q7 hn (by unfold Fm.depth;decide)
 |got h1=>exact fun n hn=>match n,hn with
  |n+1,_=>Tree.atup h1 (by show 2<1000;decide) fun x hx=>by
   simp at hx
   rcases hx with rfl|rfl<;>exact Tree.scal (by exact trivial) _
  |0,hn=>Q7 hn (by unfold Fm.depth;decide)
 |now h1=>exact fun n hn=>match n,hn with
  |n+1,_=>Tree.atup h1 (by decide) fun x hx=>by
   simp at hx
   rcases hx with rfl
   exact Tree.scal (by exact trivial) _
  |0,hn=>Q7 hn (by unfold Fm.depth;decide)
 |two h1 _ _ _ Y Z=>exact fun n hn=>match n,hn with
  |n+1,hn=>Tree.atup h1 (by show 3<1000;decide) fun x hx=>by
   unfold Fm.depth at hn;simp at hx
   rcases hx with rfl|rfl|rfl
   ·exact Tree.scal (by exact trivial) _
   ·exact Y n (by lia)
   ·exact Z n (by lia)
  |0,hn=>Q7 hn (by unfold Fm.depth;lia)
mutual
theorem fj.tree{bs qs:List Str}{H:Hp}:∀(d:Dd) (v:V) (n:Nat),fj bs qs H d v->2*d.deep+16<=n->Tree H n v
 |_,_,0,_,hn=>Q7 hn (by omega)
 |.put x f,v,n+1,h,hn=>by
  obtain⟨t,u,rfl,h1,h2,Z⟩:=(by simpa only[fj] using h);refine Tree.atup h1 (by show 3<1000;decide) fun y hy=>?_;simp only[aD,aX,or_false]at hy
  rcases hy with rfl|rfl|rfl
  ·exact Tree.scal (by exact trivial) _
  ·exact Tree.scal (by exact trivial) _
  ·exact Z.1.tree n (by have:=Z.2;omega)
 |.push q f,v,n+1,h,hn=>by
  obtain⟨t,u,rfl,h1,h2,Z⟩:=(by simpa only[fj] using h);refine Tree.atup h1 (by show 3<1000;decide) fun y hy=>?_;simp only[aD,aX,or_false]at hy
  rcases hy with rfl|rfl|rfl
  ·exact Tree.scal (by exact trivial) _
  ·exact Tree.scal (by exact trivial) _
  ·exact Z.1.tree n (by have:=Z.2;omega)
 |.pull q x o,v,n+1,h,hn=>by
  obtain⟨t,u,rfl,h1,h2,Z,l,vs,rfl,Y,O,L⟩:=(by simpa only[fj] using h);unfold Dd.deep at hn;refine Tree.atup h1 (by show 4<1000;decide) fun y hy=>?_;simp only[aD,aX,or_false]at hy
  rcases hy with rfl|rfl|rfl|rfl
  ·exact Tree.scal (by exact trivial) _
  ·exact Tree.scal (by exact trivial) _
  ·exact Tree.scal (by exact trivial) _
  ·obtain⟨m,rfl⟩:∃m,n=m+1:={n-1,by omega};exact Tree.alst Y O (gN.tree o vs m L (by omega))
 |.draw x f,v,n+1,h,hn=>by
  obtain⟨t,u,rfl,h1,h2,Z⟩:=(by simpa only[fj] using h);refine Tree.atup h1 (by show 3<1000;decide) fun y hy=>?_;simp only[aD,aX,or_false]at hy
  rcases hy with rfl|rfl|rfl
  ·exact Tree.scal (by exact trivial) _
  ·exact Tree.scal (by exact trivial) _
  ·exact Z.1.tree n (by have:=Z.2;omega)
 |.send to B sp r a b,v,n+1,h,hn=>by
  obtain⟨t,u,u1,u2,rfl,h1,h2,Z,Y⟩:=(by simpa only[fj] using h);refine Tree.atup h1 (by show 7<1000;decide) fun y hy=>?_;simp only[aD,aX,or_false]at hy
  rcases hy with rfl|rfl|rfl|rfl|rfl|rfl|rfl
  ·exact Tree.scal (by exact trivial) _
  ·exact Tree.scal (by exact trivial) _
  ·exact Tree.scal (by exact trivial) _
  ·exact h2.1.tree n (by have:=h2.2;omega)
  ·exact Tree.scal (by exact trivial) _
  ·exact Z.1.tree n (by have:=Z.2;omega)
  ·exact Y.1.tree n (by have:=Y.2;omega)
 |.ife f x y,v,n+1,h,hn=>by
  obtain⟨t,u,u1,u2,rfl,h1,h2,⟨l,vs,rfl,U,I,W⟩,g,X,rfl,M,D,J⟩:=(by simpa only[fj] using h);unfold Dd.deep at hn;refine Tree.atup h1 (by show 4<1000;decide) fun z hz=>?_;simp only[aD,aX,or_false]at hz;obtain⟨m,rfl⟩:∃m,n=m+1:={n-1,by omega}
  rcases hz with rfl|rfl|rfl|rfl
  ·exact Tree.scal (by exact trivial) _
  ·exact h2.1.tree _ (by have:=h2.2;omega)
  ·exact Tree.alst U I (gN.tree x vs m W (by omega))
  ·exact Tree.alst M D (gN.tree y X m J (by omega))
 |.fin,v,n+1,h,hn=>by
  obtain⟨t,rfl,h1⟩:=(by simpa only[fj] using h);refine Tree.atup h1 (by show 1<1000;decide) fun y hy=>?_;simp only[aD,aX,or_false]at hy;rw[hy];exact Tree.scal (by exact trivial) _
theorem gN.tree{bs qs:List Str}{H:Hp}:∀(d:Ds) (vs:List V) (n:Nat),gN bs qs H d vs->2*d.deep+16<=n->∀x∈vs,Tree H n x
 |.nil,vs,n,h,hn=>by
  have e:vs=[]:=by simpa only[gN] using h
  subst e;intro x hx
  cases hx
 |.cons d r,vs,n,h,hn=>by
  obtain⟨v,Z,rfl,h1,h2⟩:=(by simpa only[gN] using h);unfold Ds.deep at hn;intro x hx
  rcases aD.mp hx with rfl|hx
  ·exact fj.tree d _ n h1 (by omega)
  ·exact gN.tree r Z n h2 (by omega) x hx
end
section
variable{X:Cx}{es:List cH}{te:TE}{t:TA}
theorem jO{Z:List cH}{k:Nat}{p:Pos}{env:Env}:cL (.Tuple Z k p::es) env=(false,eY (.Tuple Z k p) env)::cL es env:=by rfl
theorem j3{Z:List cH}{k:Nat}{p:Pos}(ha:PE X (.Tuple Z k p) te)(Y:PA X es t):PA X (.Tuple Z k p::es) (ib te t):=bH ha Y (by rfl)
theorem yM{Z:List cH}{p:Pos}(ha:PE X (.List Z p) te)(Y:PA X es t):PA X (.List Z p::es) (ib te t):=bH ha Y (by rfl)
theorem cR{c:Const}{k:Nat}{p:Pos}(ha:PE X (.Constant c k p) te)(Z:PA X es t):PA X (.Constant c k p::es) (ib te t):=bH ha Z (by rfl)
theorem aT{x:Str}{p:Pos}(ha:PE X (.Name x p) te)(Z:PA X es t):PA X (.Name x p::es) (ib te t):=bH ha Z (by rfl)
theorem ie{g:cH}{Z:List cH}{ks:List x9}{p:Pos}(ha:PE X (.Call g Z ks p) te)(Y:PA X es t):PA X (.Call g Z ks p::es) (ib te t):=bH ha Y (by rfl)
theorem jA{a b:cH}{p:Pos}(ha:PE X (.Subscript a b p) te)(Z:PA X es t):PA X (.Subscript a b p::es) (ib te t):=bH ha Z (by rfl)
theorem mU{a b:cH}{o:Eo}{p:Pos}(ha:PE X (.BinOp a o b p) te)(Z:PA X es t):PA X (.BinOp a o b p::es) (ib te t):=bH ha Z (by rfl)
end
theorem genH{T P:Hp->Prop}{G:Hp}(h:P G)(k:∀G',P G'->T G'):T G:=k G h
theorem ic{t:_L.TT}{a b:TS}{D:jW}{σ:St}{H:Hp}(h:t σ H fun c H1=>if c=true then a D σ H1 else b D σ H1):HM t a b D σ H:=h
theorem qN{D:jW}{σ:St}{H:Hp}(h:D.nx σ H):FO D σ H:=h
def Det(t:_L.TT)(σ:St)(H:Hp)(b:Bool):Prop:=∀Q:Bool->Hp->Prop,Q b H->t σ H Q
theorem Det.and{tA tB:_L.TT}{σ:St}{H:Hp}{x y:Bool}(a:Det tA σ H x)(b:x=true->Det tB σ H y):Det (tAnd tA tB) σ H (x&&y):=fun Q q=>a _ (by
 cases x with
 |true=>exact iq (b rfl Q q)
 |false=>exact gm q)
theorem Det.or{tA tB:_L.TT}{σ:St}{H:Hp}{x y:Bool}(a:Det tA σ H x)(b:x=false->Det tB σ H y):Det (tOr tA tB) σ H (x||y):=fun Q q=>a _ (by
 cases x with
 |true=>exact iq q
 |false=>exact gm (b rfl Q q))
theorem mV{t:_L.TT}{a b:TS}{D:jW}{σ:St}{H:Hp}{c:Bool}(h:Det t σ H c)(Z:c=true->a D σ H)(Y:c=false->b D σ H):HM t a b D σ H:=h _ (by
 cases c with
 |true=>exact iq (Z rfl)
 |false=>exact gm (Y rfl))
theorem pE{i:Nat}{w k:Int}{σ:St}{H:Hp}(hv:σ[i]?=Z8 (Z8 (.int w))):Det (um (tOp rEq (lV i) (tC (.int k)))) σ H (decide (w=k)):=fun Q q=>⟨_,hv,Z9,_,Z9,by
 rw[show decide (V.int w=V.int k)=decide (w=k) from by
  by_cases c:w=k
  ·simp_all
  ·rw[Q4 c,Q4 (fun z=>c (by cases z;rfl))]]
 exact q⟩
theorem yO{i:Nat}{w k:Int}{σ:St}{H:Hp}(hv:σ[i]?=Z8 (Z8 (.int w))):Det (um (tOp (rI0 fun i j=>.bl (decide (i<j))) (lV i) (tC (.int k)))) σ H (decide (w<k)):=fun Q q=>{_,hv,_,_,Z9,Z9,_,Z9,q}
theorem IC{i:Nat}{w k:Int}{σ:St}{H:Hp}(hv:σ[i]?=Z8 (Z8 (.int w))):Det (um (tOp (rI0 fun i j=>.bl (decide (j<i))) (lV i) (tC (.int k)))) σ H (decide (k<w)):=fun Q q=>{_,hv,_,_,Z9,Z9,_,Z9,q}
theorem rK{K:ag}{i:Nat}{a:ab}{xs:List V}{k:Int}{σ:St}{H:Hp}(hv:σ[i]?=Z8 (Z8 (.ref a)))(hx:H a=Z8 (.l xs)):Det (um (tOp (rI0 fun i j=>.bl (decide (j<i))) (tCB (Cz K) (ib (lV i) p5)) (tC (.int k)))) σ H (decide (k<xs.length)):=fun Q q=>{_,hv,a,xs,Z9,.inl (SqL.of hx),_,_,Z9,Z9,_,Z9,q}
theorem CF{K:ag}{i:Nat}{a:ab}{xs:List V}{k:Int}{σ:St}{H:Hp}(hv:σ[i]?=Z8 (Z8 (.ref a)))(hx:H a=Z8 (.l xs)):Det (um (tOp rEq (tCB (Cz K) (ib (lV i) p5)) (tC (.int k)))) σ H (decide ((xs.length:Int)=k)):=fun Q q=>⟨_,hv,a,xs,Z9,.inl (SqL.of hx),Z9,_,Z9,by
 rw[show decide (V.int (xs.length:Int)=V.int k)=decide ((xs.length:Int)=k) from by
  by_cases c:(xs.length:Int)=k
  ·rw[Q3 c,Q3 (by rw[c])]
  ·rw[Q4 c,Q4 (fun z=>c (by injection z))]]
 exact q⟩
def xn(o:HO):Prop:=(∃xs,o=.t xs)\/∃xs,o=.l xs/\∀(i:Int) (r:List V),xs≠.int i::r
def eG(H H':Hp):Prop:=∀a o,H a=Z8 o->xn o->H' a=Z8 o
theorem eG.same{H H':Hp}(s:cA H H'):eG H H':=fun a o e _=>s _ _ e
theorem eG.trans{H H1 H2:Hp}(a:eG H H1)(b:eG H1 H2):eG H H2:=fun c o e n=>b _ _ (a _ _ e n) n
def Kp(own:List ab)(H G:Hp):Prop:=∀b o,H b=Z8 o->b∉own->G b=Z8 o
theorem Kp.refl(own:List ab)(H:Hp):Kp own H H:=fun _ _ e _=>e
theorem Kp.trans{own:List ab}{H G G':Hp}(a:Kp own H G)(b:Kp own G G'):Kp own H G':=fun c o e n=>b c o (a c o e n) n
theorem Kp.same{own:List ab}{H G:Hp}(s:cA H G):Kp own H G:=fun c o e _=>s _ _ e
theorem Kp.but{own:List ab}{H G:Hp}{p:ab}(s:But p H G)(m:p∈own):Kp own H G:=fun c o e n=>s _ _ e fun z=>n (z ▸ m)
theorem Kp.upd{own:List ab}{H:Hp}{a:ab}{o:HO}(m:a∈own):Kp own H (upd H a o):=fun c u e n=>by
 rw[aV fun z=>n (by rw[z];exact m)];exact e
theorem Kp.keepI{own:List ab}{H G:Hp}(k:Kp own H G)(h:∀a∈own,∃(i:Int) (r:List V),H a=Z8 (.l (.int i::r))):eG H G:=fun a o e n=>k a o e fun m=>by
 obtain⟨i,r,q⟩:=h a m;rw[q]at e;injection e with e;subst e
 rcases n with⟨xs,n⟩|⟨xs,n,y⟩
 ·cases n
 ·grind
theorem eG.but{H H':Hp}{p:ab}(Z:dM H p)(b:But p H H'):eG H H':=Kp.keepI (own:=[p]) (Kp.but b aU) fun a m=>by
 obtain⟨x,y,h⟩:=Z;rw[aH.mp m];exact{x,_,h}
theorem pG(xs:List V):xn (.t xs):=.inl ⟨xs,Z9⟩
theorem vL(Z:List Str):xn (.l (Z.map V.str)):=.inr ⟨_,Z9,fun i r z=>by
 cases Z with
 |nil=>cases z
 |cons x xs=>cases z⟩
theorem gN.ni{bs qs:List Str}{H:Hp}{d:Ds}{vs:List V}(h:gN bs qs H d vs):xn (.l vs):=.inr ⟨vs,Z9,fun i r z=>by
 subst z
 cases d with
 |nil=>
  cases h
 |cons d r=>
  obtain⟨v,Z,e,h1,_⟩:=(by simpa only[gN] using h);injection e with e;subst e;obtain⟨t,e⟩:=h1.ref
  cases e⟩
mutual
def Dd.toOk(m:Int):Dd->Prop
 |.send to _ _ _ _ _=>0<=to/\to<m
 |.pull _ _ o=>o.toOk m
 |.ife _ t e=>t.toOk m/\e.toOk m
 |_=>True
def Ds.toOk(m:Int):Ds->Prop
 |.nil=>True
 |.cons d r=>d.toOk m/\r.toOk m
end
theorem gR{H:Hp}{p Z:ab}{bs:List Str}(Y:dM H p)(hb:H Z=Z8 (.l (bs.map V.str))):Z≠p:=by
 obtain⟨x,y,e⟩:=Y;refine cQ hb e fun z=>?_
 cases bs with
 |nil=>cases z
 |cons b r=>cases z
theorem lE{bs:List Str}{r:Int}(h0:0<=r)(h1:r<bs.length):∃x,atI (bs.map V.str) r=Z8 (.str x)/\x∈bs:=by
 obtain⟨j,rfl⟩:∃j:Nat,r=(j:Int):={r.toNat,by lia};have lt:j<bs.length:=by lia
 exact{bs[j],cI (by rw[bD,aA lt];rfl),jd lt}
theorem jU.but{bs qs:List Str}{H H':Hp}{p:ab}{v:V}{f:Fm}(Z:dM H p)(b:But p H H')(h:jU bs qs H v f):jU bs qs H' v f:=h.mono fun t xs e=>eG.but Z b _ _ e (pG xs)
section
variable{P:aP}{w:bF}{K:ag}{mg:Str->Option ae}{base:cz}{f fD fL fR fF:ab}{fd fdD fdL fdR fdF:bS}{bs qs:List Str}
seal PS PSs PE PA PT PW PI PG PGs PC
abbrev nLe:List Str:=["_law_purse_here","_law_boxes","_law_queues","_law_way"]
theorem scLe:bU nLe ["_law_purse_here","_law_boxes","_law_queues"] (aS iZ):=fK
inductive Gn(bs qs:List Str)(vs:List V)(H:Hp)(Q:VK)(_e:XK):Prop where
 |mk(p lb lq:ab)(_:vs=[.ref p,.ref lb,.ref lq])(_:dM H p)(_:H lb=Z8 (.l (bs.map V.str)))(_:H lq=Z8 (.l (qs.map V.str)))(_:bs.length<=9)(_:qs.length<=9)(_:∀(v:V) (F:Fm) (H':Hp),jU bs qs H' v F->F.depth<=1->dM H' p->But p H H'->Q v H'):Gn bs qs vs H Q _e
def EX(bs qs:List Str):Sp:=fun vs H Q Z=>Gn bs qs vs H Q Z
theorem Gp(D:Df K mg "_law_leaf" iZ ["_law_purse_here","_law_boxes","_law_queues"] f fd)(J:Df K mg "_law_draw" eE ["_law_purse_here","_law_out_of"] fD fdD)(B:Bl mg):bO P w K mg base CX0 2 f fd ["_law_purse_here","_law_boxes","_law_queues"] (EX bs qs):=by
 have z:bO P w K mg base CX0 1 fD fdD ["_law_purse_here","_law_out_of"] jM:=jN J;refine D.F.ok scLe (fun vs H Q E h=>?_) (fun bI A outer s H vs Q E y h=>?_)
 ·obtain⟨p,lb,lq,rfl,_⟩:=h;rfl
 obtain⟨p,lb,lq,rfl,pu,hb,hq,cb,bP,k⟩:=h;refine⟨_,ax (pst 3 scLe (pcl z y J (aT (pv 0) (cR au ao))))
  (ax (dW ((lQ (cG iS (pv 3) au) (j8 (cG o7 (cK (dH K (by rfl)) (by rfl) B.len bV (aT (pv 1) ao)) au))).pt) (aJ (bT (dR (cR eO (jA (bJ bN (pv 1) (pcl z y J (aT (pv 0) (ie (cK (dH K (by rfl)) (by rfl) B.len bV (aT (pv 1) ao)) ao)))) ao))))) cD)
  (ax (dW ((lQ (cG iS (pv 3) au) (j8 (cG o7 (cK (dH K (by rfl)) (by rfl) B.len bV (aT (pv 2) ao)) au))).pt) (aJ (bT (dR (cR eO (jA (bJ bN (pv 2) (pcl z y J (aT (pv 0) (ie (cK (dH K (by rfl)) (by rfl) B.len bV (aT (pv 2) ao)) ao)))) ao))))) cD)
  (ax (dW (cG iS (pv 3) au) (aJ (bT (dR (cR eO (ie (pcl z y J (aT (pv 0) (cR au ao))) ao))))) cD)
  (ax (dW (cG iS (pv 3) au) (aJ (bT (dR (cR eO ao)))) cD)
  (ax (dW (cG iS (pcl z y J (aT (pv 0) (cR au ao))) au) (aJ (bT (dR (cR eO (mU (cV jX (pcl z y J (aT (pv 0) (mU (cV il (cV oa au (cV pA au au)) au) ao))) (cV pA au au)) ao))))) cD)
  (aJ (bT (dR (cR eO (mU (cV jX (pcl z y J (aT (pv 0) (cR au ao))) au) ao)))))))))),?_⟩
 dsimp only[cxA,cxB];have big:=ef;have g:BL 10 15:={by decide,by decide,by decide};have d:(10:Int)^(15:Int).toNat=1000000000000000:=by decide
 have ca:(10:Int)^15=1000000000000000:=by decide
 refine dO (cS ?_);refine{_,Z9,p,6,Z9,pu,by decide,by decide,fun bR G w0 w1 X L=>?_};refine bK ?_;dsimp only;have O:=L _ _ hb (gR pu hb);have M:=L _ _ hq (gR pu hq);have ni:=gR X O;have fin:∀{U:Hp} {xs:List V} {F:Fm},But p H U->dM U p->(∀t,upd U t (.t xs) t=Z8 (.t xs)->U t=Z7->jU bs qs (upd U t (.t xs)) (.ref t) F)->F.depth<=1->xs.length<=2->xs.length<=aF/\∀t,U t=Z7->Q (.ref t) (upd U t (.t xs)):=fun {U xs F} W Z hF hd hl=>{by omega,fun t ht=>k _ F _ (hF t ai ht) hd (Z.same (az ht _)) (W.same (az ht _))};refine dO ?_;refine mV (Det.and (pE rfl) fun _=>rK (K:=K) rfl O) (fun c=>?_) (fun _=>?_)
 ·have c2:=(iE _ _ ▸ c).2;have q:0<bs.length:=by
   have:=Q0 c2;rw[ak]at this;omega
  refine{_,Z9,_,Z9,_,Z9,lb,_,Z9,.inl (SqL.of O),p,_,Z9,X,by rw[ak];omega,by rw[ak];omega,fun r U r0 Y Z W=>?_};rw[ak]at Y;obtain⟨x,hx,mx⟩:=lE r0 Y;refine{lb,_,_,_,Z9,Z9,SqL.of (W _ _ O ni),hx,?_};exact fin (F:=.box x) (L.trans W) Z (fun t h _=>.box h mx) (by show 1<=1;decide) (by show 2<=2;decide)
 refine dO ?_;refine mV (Det.and (pE rfl) fun _=>rK (K:=K) rfl M) (fun c=>?_) (fun _=>?_)
 ·have c2:=(iE _ _ ▸ c).2;have q:0<qs.length:=by
   have:=Q0 c2;rw[ak]at this;omega
  refine{_,Z9,_,Z9,_,Z9,lq,_,Z9,.inl (SqL.of M),p,_,Z9,X,by rw[ak];omega,by rw[ak];omega,fun r U r0 Y Z W=>?_};rw[ak]at Y;obtain⟨x,hx,mx⟩:=lE r0 Y;refine{lq,_,_,_,Z9,Z9,SqL.of (W _ _ M (gR X M)),hx,?_};exact fin (F:=.long x) (L.trans W) Z (fun t h _=>.long h mx) (by show 1<=1;decide) (by show 2<=2;decide)
 refine dO ?_;refine mV (pE rfl) (fun _=>?_) (fun _=>?_)
 ·refine{_,Z9,p,2,Z9,X,by decide,by decide,fun r U r0 Y Z W=>?_};have er:r=if (decide (r=1))=true then 1 else 0:=by
   by_cases c:r=1
   ·rw[Q3 c,Q6 rfl];exact c
   ·rw[Q4 c,Q5 (by decide)];omega
  exact fin (F:=.got (decide (r=1))) (L.trans W) Z (fun t h _=>.got (by rw[h,<- er])) (by show 1<=1;decide) (by show 2<=2;decide)
 refine dO ?_;refine mV (pE rfl) (fun _=>?_) (fun _=>?_)
 ·exact fin (F:=.now) L X (fun t h _=>.now h) (by decide) (by show 1<=2;decide)
 refine dO ?_;refine{_,Z9,p,9,Z9,X,by decide,by decide,fun r U r0 Y Z W=>{Z9,_,Z9,?_}};refine si (fun _=>?_) (fun _=>?_)
 ·refine{_,Z9,_,_,Z9,Z9,g,_,_,Z9,Z9,.inl {by decide,by decide},_,_,Z9,Z9,?_};rw[d];refine{p,_,Z9,Z,by decide,by decide,fun r2 G2 cc cd I b2=>{_,_,Z9,Z9,g,_,_,Z9,Z9,?_}};rw[d];exact fin (F:=.num (r2-1000000000000000)) ((L.trans W).trans b2) I (fun t h _=>.num h (by unfold Wo;omega)) (by show 1<=1;decide) (by show 2<=2;decide)
 ·refine{_,Z9,p,7,Z9,Z,by decide,by decide,fun r2 G2 cc cd I b2=>{_,_,Z9,Z9,?_}};exact fin (F:=.num (r2-2)) ((L.trans W).trans b2) I (fun t h _=>.num h (by unfold Wo;omega)) (by show 1<=1;decide) (by show 2<=2;decide)
abbrev nFo:List Str:=["_law_purse_here","_law_boxes","_law_queues","_law_deep","_law_word","_law_one"]
abbrev pFo:List Str:=["_law_purse_here","_law_boxes","_law_queues","_law_deep"]
theorem ID:bU nFo pFo (aS hX):=fK
inductive Gq(bs qs:List Str)(n:Nat)(vs:List V)(H:Hp)(Q:VK)(_e:XK):Prop where
 |mk(p lb lq:ab)(d:Nat)(_:vs=[.ref p,.ref lb,.ref lq,.int d])(_:d<n)(_:dM H p)(_:H lb=Z8 (.l (bs.map V.str)))(_:H lq=Z8 (.l (qs.map V.str)))(_:bs.length<=9)(_:qs.length<=9)(_:∀(v:V) (F:Fm) (H':Hp),jU bs qs H' v F->F.depth<=d+1->dM H' p->But p H H'->Q v H'):Gq bs qs n vs H Q _e
def CI(bs qs:List Str)(n:Nat):Sp:=fun vs H Q Z=>Gq bs qs n vs H Q Z
def vM:List Str:=["plus","less","times","part","rest","below","same"]
theorem CJ{r:Int}(h0:0<=r)(h1:r<7):∃x,atI (vM.map V.str) r=Z8 (.str x)/\x∈Cy:=by
 obtain⟨x,hx,m⟩:=lE (bs:=vM) h0 h1;refine{x,hx,?_};have:∀y∈vM,y∈Cy:=by decide +kernel
 exact this x m
theorem EY{n:Nat}(D:Df K mg "_law_formula" hX pFo f fd)(DL:Df K mg "_law_leaf" iZ ["_law_purse_here","_law_boxes","_law_queues"] fL fdL)(g:Df K mg "_law_draw" eE ["_law_purse_here","_law_out_of"] fD fdD)(B:Bl mg)(GR:bO P w K mg base CX0 (n+3) f fd pFo (CI bs qs n)) :
  bO P w K mg base CX0 (n+4) f fd pFo (CI bs qs (n+1)):=by
 have GD:bO P w K mg base CX0 1 fD fdD ["_law_purse_here","_law_out_of"] jM:=jN g;have GL:bO P w K mg base CX0 2 fL fdL ["_law_purse_here","_law_boxes","_law_queues"] (EX bs qs):=Gp DL g B;refine D.F.ok ID (fun vs H Q E h=>?_) (fun cl A outer s H vs Q E hr h=>?_)
 ·obtain⟨p,L,I,d,rfl,_⟩:=h;rfl
 obtain⟨p,L,I,d,rfl,dn,Y,hb,hq,O,J,k⟩:=h;have r1:dC 1 _:=hr.mono (by omega);have r2:dC 2 _:=hr.mono (by omega);refine⟨_,ax (dW ((pV (cG iS (pv 3) au) (px (cG o7 (pcl GD r1 g (aT (pv 0) (cR au ao))) au))).pt) (aJ (bT (pcl GL r2 DL (aT (pv 0) (aT (pv 1) (aT (pv 2) ao)))))) cD)
  (ax (pst 4 ID (bJ bN (dv (cR eO (cR eO (cR eO (cR eO (cR eO (cR eO (cR eO ao)))))))) (pcl GD r1 g (aT (pv 0) (cR au ao)))))
  (ax (pst 5 ID (pcl GR hr D (aT (pv 0) (aT (pv 1) (aT (pv 2) (mU (cV jX (pv 3) au) ao))))))
  (aJ (bT (dR (aT (pv 4) (aT (pv 5) (ie (pcl GR hr D (aT (pv 0) (aT (pv 1) (aT (pv 2) (mU (cV jX (pv 3) au) ao))))) ao)))))))),?_⟩
 dsimp only[cxA,cxB];have big:=ef;have U:∀{G:Hp},dM G p->But p H G->EX bs qs [.ref p,.ref L,.ref I] G Q E0:=fun {G} Z W=>{p,L,I,Z9,Z,W _ _ hb (gR Y hb),W _ _ hq (gR Y hq),O,J,fun v F H' hF hd db b'=>k v F H' hF (by omega) db (W.trans b')};refine dO (ic ?_);refine{_,Z9,Z9,_,Z9,?_};refine si (fun c=>?_) (fun c=>?_)
 ·exact iq {_,Z9,_,Z9,_,Z9,U Y (But.refl _ _)}
 have d0:¬d=0:=fun z=>c (by rw[z];rfl);refine{_,Z9,p,3,Z9,Y,by decide,by decide,fun r G r0 cn Z W=>{_,_,Z9,Z9,_,Z9,?_}};refine si (fun _=>?_) (fun _=>?_)
 ·exact{_,Z9,_,Z9,_,Z9,U Z W}
 have cp:=W _ _ hb (gR Y hb);have co:=W _ _ hq (gR Y hq);refine qN ?_;dsimp only;refine dO (cS ?_);refine{by show 7<=aF;omega,fun l hl=>?_};have sl:=az hl (.l (vM.map V.str));refine{_,Z9,p,7,Z9,Z.same sl,by decide,by decide,fun r2 G2 cx cr dc b2=>?_};obtain⟨x,hx,mx⟩:=CJ cx cr;have y:But p H G2:=(W.same sl).trans b2;refine{l,_,_,_,Z9,Z9,SqL.of (b2 _ _ ai (gR (Z.same sl) ai)),hx,?_};refine bK ?_;dsimp only;refine dO (cS ?_);have em:(d:Int)-1=((d-1:Nat):Int):=by omega
 refine{_,Z9,_,Z9,_,Z9,_,Z9,_,_,Z9,Z9,p,L,I,d-1,(by show [V.ref p,V.ref L,V.ref I,V.int ((d:Int)-1)]=_;rw[em]),by omega,dc,y _ _ hb (gR Y hb),y _ _ hq (gR Y hq),O,J,fun v1 F1 G3 da d1 q b3=>?_};refine bK ?_;dsimp only;have M:=y.trans b3;refine gF (tup_i ?_);refine{_,Z9,_,Z9,_,Z9,_,Z9,_,Z9,_,Z9,_,_,Z9,Z9,p,L,I,d-1,(by show [V.ref p,V.ref L,V.ref I,V.int ((d:Int)-1)]=_;rw[em]),by omega,q,M _ _ hb (gR Y hb),M _ _ hq (gR Y hq),O,J,fun v2 F2 G4 cs d2 cu b4=>{by show 3<=aF;omega,fun t ht=>?_}};have X:=az ht (.t [.str x,v1,v2]);exact k _ (.two x F1 F2) _ (.two ai mx ((da.but q b4).same X) (cs.same X)) (by show max F1.depth F2.depth+1<=d+1;omega) (cu.same X) ((M.trans b4).same X)
theorem CK(D:Df K mg "_law_formula" hX pFo f fd)(Y:Df K mg "_law_leaf" iZ ["_law_purse_here","_law_boxes","_law_queues"] fL fdL)(Z:Df K mg "_law_draw" eE ["_law_purse_here","_law_out_of"] fD fdD)(B:Bl mg):∀n:Nat,bO P w K mg base CX0 (n+3) f fd pFo (CI bs qs n)
 |0=>⟨fun vs H Q E h=>by
   obtain⟨p,X,W,d,_,h,_⟩:=h;omega,fun A outer s H args us vs Q E _ _ _ _ h=>by
   obtain⟨p,X,W,d,_,h,_⟩:=h;omega⟩
 |n+1=>EY D Y Z B (CK D Y Z B n)
end
def Tk(H H':Hp):Prop:=∀(t:ab) (xs:List V),H t=Z8 (.t xs)->H' t=Z8 (.t xs)
def Nk(H H' H2:Hp):Prop:=∀(l:ab) (xs:List V),H l=Z7->xn (.l xs)->H' l=Z8 (.l xs)->H2 l=Z8 (.l xs)
def OwD(bs qs:List Str)(H H':Hp)(d:Dd)(v:V):Prop:=∀H2,Tk H' H2->Nk H H' H2->fj bs qs H2 d v
def OwS(bs qs:List Str)(H H':Hp)(d:Ds)(vs:List V):Prop:=∀H2,Tk H' H2->Nk H H' H2->gN bs qs H2 d vs
theorem Tk.refl(H:Hp):Tk H H:=fun _ _ e=>e
theorem Nk.refl(H H':Hp):Nk H H' H':=fun _ _ _ _ e=>e
theorem OwS.now{bs qs:List Str}{H H':Hp}{d:Ds}{v:List V}(h:OwS bs qs H H' d v):gN bs qs H' d v:=h H' (Tk.refl _) (Nk.refl _ _)
theorem eG.tk{H H':Hp}(k:eG H H'):Tk H H':=fun t xs e=>k _ _ e (pG xs)
theorem eG.nk{H H1 H' H2:Hp}(k:eG H' H1)(n:Nk H H1 H2):Nk H H' H2:=fun l xs h i e=>n l xs h i (k _ _ e i)
theorem OwS.keepI{bs qs:List Str}{H H' H1:Hp}{d:Ds}{v:List V}(h:OwS bs qs H H' d v)(k:eG H' H1):OwS bs qs H H1 d v:=fun H2 t n=>h H2 (fun a xs e=>t a xs (k.tk a xs e)) (k.nk n)
def Dm(H G:Hp):Prop:=∀a,G a=Z7->H a=Z7
theorem Dm.same{H G:Hp}(s:cA H G):Dm H G:=fun a n=>none_of s n
theorem Dm.trans{H G G':Hp}(a:Dm H G)(b:Dm G G'):Dm H G':=fun x n=>a x (b x n)
theorem OwD.base{bs qs:List Str}{H H0 H':Hp}{d:Dd}{v:V}(h:OwD bs qs H H' d v)(s:Dm H0 H):OwD bs qs H0 H' d v:=fun H2 t n=>h H2 t fun l xs Z i e=>n l xs (s l Z) i e
theorem OwS.base{bs qs:List Str}{H H0 H':Hp}{d:Ds}{v:List V}(h:OwS bs qs H H' d v)(s:Dm H0 H):OwS bs qs H0 H' d v:=fun H2 t n=>h H2 t fun l xs Z i e=>n l xs (s l Z) i e
theorem OwD.old{bs qs:List Str}{H H':Hp}{d:Dd}{v:V}{a:ab}{o:HO}(h:OwD bs qs H H' d v)(X:H a≠Z7)(Y:∀xs,H' a≠Z8 (.t xs)):OwD bs qs H (upd H' a o) d v:=fun H2 t n=>h H2 (fun b xs e=>t b xs (by rw[aV (fun z=>Y xs (by rw[<- z];exact e))];exact e)) fun l xs Z i e=>n l xs Z i (by rw[aV (fun z=>X (by rw[<- z];exact Z))];exact e)
theorem OwS.old{bs qs:List Str}{H H':Hp}{d:Ds}{v:List V}{a:ab}{o:HO}(h:OwS bs qs H H' d v)(X:H a≠Z7)(Y:∀xs,H' a≠Z8 (.t xs)):OwS bs qs H (upd H' a o) d v:=fun H2 t n=>h H2 (fun b xs e=>t b xs (by rw[aV (fun z=>Y xs (by rw[<- z];exact e))];exact e)) fun l xs Z i e=>n l xs Z i (by rw[aV (fun z=>X (by rw[<- z];exact Z))];exact e)
theorem FmI.tk{bs qs:List Str}{H H2:Hp}{v:V}{F:Fm}(h:FmI bs qs H v F)(t:Tk H H2):FmI bs qs H2 v F:={h.1.mono t,h.2}
section
variable{bs qs:List Str}{H H':Hp}{t:ab}{u u1 u2:V}{F F1 F2:Fm}{x q:Str}
theorem IE(h:H' t=Z8 (.t [.str "put",.str x,u]))(m:x∈bs)(f:FmI bs qs H' u F):OwD bs qs H H' (.put x F) (.ref t):=fun H2 k _=>by simp only[fj];exact{t,u,Z9,k _ _ h,m,f.tk k}
theorem EZ(h:H' t=Z8 (.t [.str "push",.str q,u]))(m:q∈qs)(f:FmI bs qs H' u F):OwD bs qs H H' (.push q F) (.ref t):=fun H2 k _=>by simp only[fj];exact{t,u,Z9,k _ _ h,m,f.tk k}
theorem E1(h:H' t=Z8 (.t [.str "draw",.str x,u]))(m:x∈bs)(f:FmI bs qs H' u F):OwD bs qs H H' (.draw x F) (.ref t):=fun H2 k _=>by simp only[fj];exact{t,u,Z9,k _ _ h,m,f.tk k}
theorem IF(h:H' t=Z8 (.t [.str "end"])):OwD bs qs H H' .fin (.ref t):=fun H2 k _=>by simp only[fj];exact{t,Z9,k _ _ h}
theorem E2{to Y:Int}{Z:Str}(h:H' t=Z8 (.t [.str "send",.int to,.str Z,u,.int Y,u1,u2]))(f:FmI bs qs H' u F)(f1:FmI bs qs H' u1 F1)(X:FmI bs qs H' u2 F2):OwD bs qs H H' (.send to Z F Y F1 F2) (.ref t):=fun H2 k _=>by simp only[fj];exact{t,u,u1,u2,Z9,k _ _ h,f.tk k,f1.tk k,X.tk k}
theorem E3{l:ab}{xs:List V}{d:Ds}(h:H' t=Z8 (.t [.str "pull",.str q,.str x,.ref l]))(Z:q∈qs)(Y:x∈bs)(X:H l=Z7)(e:H' l=Z8 (.l xs))(z:xs.length<1000)(D:OwS bs qs H H' d xs):OwD bs qs H H' (.pull q x d) (.ref t):=fun H2 k n=>by
 exact{t,.ref l,Z9,k _ _ h,Z,Y,l,xs,Z9,n l xs X D.now.ni e,z,D H2 k n}
theorem IG{l Z:ab}{xs ys:List V}{d d':Ds}(h:H' t=Z8 (.t [.str "if",u,.ref l,.ref Z]))(f:FmI bs qs H' u F)(U:H l=Z7)(e:H' l=Z8 (.l xs))(z:xs.length<1000)(D:OwS bs qs H H' d xs)(Y:H Z=Z7)(O:H' Z=Z8 (.l ys))(W:ys.length<1000)(X:OwS bs qs H H' d' ys):OwD bs qs H H' (.ife F d d') (.ref t):=fun H2 k n=>by
 exact{t,u,.ref l,.ref Z,Z9,k _ _ h,f.tk k,{l,xs,Z9,n l xs U D.now.ni e,z,D H2 k n},Z,ys,Z9,n Z ys Y X.now.ni O,W,X H2 k n}
theorem E4:OwS bs qs H H' .nil []:=fun _ _ _=>by simp only[gN]
end
theorem CL{X:Cx}{st:dI}{t:TS}(t':TS)(h:PS X st t)(k:∀D σ H,t' D σ H->t D σ H):PS X st t':=fun pins s σ H D I q=>h pins s σ H D I (k D σ H q)
theorem AV{n:Int}(h:-1000000<=n/\n<=1000000):Wo n:=by
 unfold Wo
 lia
structure Nms(H:Hp)(lb lq ls:ab)(bs qs sgs:List Str):Prop where
 hb:H lb=Z8 (.l (bs.map V.str))
 hq:H lq=Z8 (.l (qs.map V.str))
 hs:H ls=Z8 (.l (sgs.map V.str))
 lb9:bs.length<=9
 lq9:qs.length<=9
 ls9:sgs.length<=9
 ne:0<sgs.length
theorem Nms.keepI{H H':Hp}{Z Y X:ab}{bs qs sgs:List Str}(k:eG H H')(h:Nms H Z Y X bs qs sgs):Nms H' Z Y X bs qs sgs:=
 {k _ _ h.hb (vL _),k _ _ h.hq (vL _),k _ _ h.hs (vL _),h.lb9,h.lq9,h.ls9,h.ne}
def spanT(bs qs:List Str):TS:=fun D σ H=>∃(p W X:ab) (Y:V) (Z:Fm),σ[0]?=Z8 (Z8 (.ref p))/\σ[1]?=Z8 (Z8 (.ref W))/\σ[2]?=Z8 (Z8 (.ref X))/\σ[5]?=Z8 (Z8 Y)/\dM H p/\H W=Z8 (.l (bs.map V.str))/\H X=Z8 (.l (qs.map V.str))/\bs.length<=9/\qs.length<=9/\jU bs qs H Y Z/\Z.depth<=2 /\
 ∀(v:V) (F:Fm) (H':Hp),jU bs qs H' v F->F.depth<=2->dM H' p->But p H H'->D.nx (σ.set 5 (Z8 v)) H'
theorem AW{Z:Type}{xs:List Z}{i:Nat}{x:Z}(h:xs[i]?=Z8 x):xs.set i x=xs:=by
 obtain⟨lt,e⟩:=ay.mp h;rw[<- e];exact List.set_getElem_self lt
def endT:TS:=fun D σ H=>∃(p:ab) (w:Int),σ[0]?=Z8 (Z8 (.ref p))/\σ[7]?=Z8 (Z8 (.int w))/\dM H p/\(∀(H':Hp) (t:ab),dM H' p->But p H H'->H' t=Z7->D.rt (.ref t) (upd H' t (.t [.str "end"])))/\∀H',dM H' p->But p H H'->D.nx σ H'
section
variable{P:aP}{w:bF}{K:ag}{mg:Str->Option ae}{base:cz}{f fD fL fF fS fE f1:ab}{fd fdD fdL fdF fdS fdE fd1:bS}{bs qs sgs:List Str}
seal PS PSs PE PA PT PW PI PG PGs PC
abbrev nSnd:List Str:=["_law_purse_here","_law_boxes","_law_queues","_law_signs_here","_law_many","_law_span","_law_rank","_law_one","_law_other"]
abbrev AX:List Str:=["_law_purse_here","_law_boxes","_law_queues","_law_signs_here","_law_many"]
theorem uP:bU nSnd AX (aS lB):=fK
inductive CO(bs qs sgs:List Str)(vs:List V)(H:Hp)(Q:VK)(_e:XK):Prop where
 |mk(p lb lq ls:ab)(m:Int)(_:vs=[.ref p,.ref lb,.ref lq,.ref ls,.int m])(_:dM H p)(_:Nms H lb lq ls bs qs sgs)(_:0<m)(_:m<1000)(_:∀(v:V) (d:Dd) (H':Hp),OwD bs qs H H' d v->d.toOk m->d.deep=0->d.size=1->dM H' p->But p H H'->Q v H'):CO bs qs sgs vs H Q _e
def Gr(bs qs sgs:List Str):Sp:=fun vs H Q Z=>CO bs qs sgs vs H Q Z
theorem IH(D:Df K mg "_law_send" lB AX f fd)(DF:Df K mg "_law_formula" hX pFo fF fdF)(DL:Df K mg "_law_leaf" iZ ["_law_purse_here","_law_boxes","_law_queues"] fL fdL)(O:Df K mg "_law_draw" eE ["_law_purse_here","_law_out_of"] fD fdD)(B:Bl mg):bO P w K mg base CX0 6 f fd AX (Gr bs qs sgs):=by
 have I:bO P w K mg base CX0 1 fD fdD ["_law_purse_here","_law_out_of"] jM:=jN O;have GL:bO P w K mg base CX0 2 fL fdL ["_law_purse_here","_law_boxes","_law_queues"] (EX bs qs):=Gp DL O B;have GF:bO P w K mg base CX0 5 fF fdF pFo (CI bs qs 2):=CK DF DL O B 2;refine D.F.ok uP (fun vs H Q E h=>?_) (fun ej A outer s H vs Q E rF h=>?_)
 ·obtain⟨p,d,g,ls,m,rfl,_⟩:=h;rfl
 obtain⟨p,d,g,ls,m,rfl,Z,N,m0,m1,k⟩:=h;have r1:dC 1 _:=rF.mono (by omega);have r2:dC 2 _:=rF.mono (by omega);refine⟨_,ax (pst 5 uP (dR (cR eO (mU (cV il au (pcl I r1 O (aT (pv 0) (cR au ao)))) ao))))
  (ax (CL (spanT bs qs) (dW (cG iS (pcl I r1 O (aT (pv 0) (cR au ao))) au) (aJ (pst 5 uP (pcl GF rF DF (aT (pv 0) (aT (pv 1) (aT (pv 2) (cR au ao))))))) cD) (fun D σ H q=>by
   obtain⟨p,d,g,v0,F0,h0,h1,h2,h5,Z,hb,hq,fa,et,hF,dF,k⟩:=q;refine{_,h0,p,8,Z9,Z,by decide,by decide,fun r G r0 L W M=>{Z9,_,Z9,?_}};refine si (fun _=>?_) (fun _=>?_)
   ·exact{_,h0,_,h1,_,h2,p,d,g,1,Z9,by decide,W,M _ _ hb (gR Z hb),M _ _ hq (gR Z hq),fa,et,fun v F H' ez ev eH b'=>k v F H' ez ev eH (M.trans b')}
   ·have z:=k v0 F0 G (hF.but Z M) dF W M;rw[AW h5]at z;exact z))
  (ax (pst 6 uP (bJ bN (dv (cR au (cR au (ie (pcl I r1 O (aT (pv 0) (cR au ao))) ao)))) (pcl I r1 O (aT (pv 0) (cR au ao)))))
  (ax (pst 7 uP (pcl GF rF DF (aT (pv 0) (aT (pv 1) (aT (pv 2) (cR au ao))))))
  (ax (pst 8 uP (pcl GL r2 DL (aT (pv 0) (aT (pv 1) (aT (pv 2) ao)))))
  (aJ (bT (dR (cR eO (ie (pcl I r1 O (aT (pv 0) (aT (pv 4) ao))) (jA (bJ bN (pv 3) (pcl I r1 O (aT (pv 0) (ie (cK (dH K (by rfl)) (by rfl) B.len bV (aT (pv 3) ao)) ao)))) (aT (pv 5) (aT (pv 6) (aT (pv 7) (aT (pv 8) ao)))))))))))))),?_⟩
 dsimp only[cxA,cxB];have big:=ef;refine dO (cS ?_);refine{_,Z9,p,4,Z9,Z,by decide,by decide,fun x G x0 x1 W M=>{_,_,Z9,Z9,lt2,fun t ht=>?_}};have J:=az ht (.t [.str "number",.int (1+x)]);refine bK ?_;dsimp only;have kG:=(eG.but Z M).trans (eG.same J);have NG:=N.keepI kG;refine dO ?_;refine{p,d,g,.ref t,.num (1+x),Z9,Z9,Z9,Z9,W.same J,NG.hb,NG.hq,N.lb9,N.lq9,.num ai (AV {by omega,by omega}),by show 1<=2;decide,fun v5 F5 G1 eq d5 gn b1=>?_};dsimp only;have ga:But p H G1:=(M.same J).trans b1;have N1:=N.keepI (eG.but Z ga);refine dO (cS ?_);refine{_,Z9,p,10,Z9,gn,by decide,by decide,fun y G2 y0 y1 gg b2=>{by show 3<=aF;omega,fun l hl=>?_}};have sl:=az hl (.l [.int 0,.int 1,.int y]);have fv:l≠p:=by
  obtain⟨a,b,e⟩:=gg;exact (aC e hl).symm
 refine{_,Z9,p,3,Z9,gg.same sl,by decide,by decide,fun z G3 z0 z1 gl b3=>?_};obtain⟨rk,ew⟩:∃rk:Int,atI [V.int 0,.int 1,.int y] z=Z8 (.int rk):=by
  obtain⟨j,rfl⟩:∃j:Nat,z=(j:Int):={z.toNat,by omega}
  match j,z1 with
  |0,_=>exact{0,Z9}
  |1,_=>exact{1,Z9}
  |2,_=>exact⟨y,Z9⟩
  |j+3,h=>exact Q7 h (by omega)
 refine{l,_,_,_,Z9,Z9,SqL.of (b3 _ _ ai fv),ew,?_};refine bK ?_;dsimp only;have gf:But p H G3:=((ga.trans b2).same sl).trans b3;have em:But p G1 G3:=(b2.same sl).trans b3;have N3:=N.keepI (eG.but Z gf);refine dO (cS ?_);refine{_,Z9,_,Z9,_,Z9,p,d,g,1,Z9,by decide,gl,N3.hb,N3.hq,N.lb9,N.lq9,fun v7 F7 G4 fw d7 ge b4=>?_};refine bK ?_;dsimp only;have fz:=gf.trans b4;have N4:=N.keepI (eG.but Z fz);refine dO (cS ?_);refine{_,Z9,_,Z9,_,Z9,p,d,g,Z9,ge,N4.hb,N4.hq,N.lb9,N.lq9,fun v8 F8 G5 eo d8 Y b5=>?_};refine bK ?_;dsimp only;have gh:=fz.trans b5;have N5:=N.keepI (eG.but Z gh);refine{_,Z9,_,Z9,p,m,Z9,Y,m0,by omega,fun to G6 en el gd b6=>?_};have N6:=N5.keepI (eG.but Y b6);refine{_,Z9,_,Z9,_,Z9,ls,_,Z9,.inl (SqL.of N6.hs),p,_,Z9,gd,by rw[ak];have:=N.ne;omega,by rw[ak];have:=N.ls9;omega,fun r G7 r0 L ek b7=>?_};rw[ak]at L;obtain⟨sg,ey,_⟩:=lE r0 L;have N7:=N6.keepI (eG.but gd b7);refine{ls,_,_,_,Z9,Z9,SqL.of N7.hs,ey,_,Z9,_,Z9,_,Z9,_,Z9,by show 7<=aF;omega,fun tt er=>?_};have X:=az er (.t [.str "send",.int to,.str sg,v5,.int rk,v7,v8]);have U:But p G5 G7:=b6.trans b7;have f5:=(((eq.but gn em).but gl (b4.trans b5)).but Y U).same X;have f7:=((fw.but ge b5).but Y U).same X;have f8:=(eo.but Y U).same X;refine k _ (.send to sg F5 rk F7 F8) _ ?_ ⟨en,el⟩ rfl rfl (ek.same X) ((gh.trans U).same X);exact E2 ai {f5,by omega} {f7,by omega} {f8,by omega}
def ddz:Nat->Nat
 |0=>1
 |n+1=>1+6*ddz n
abbrev pDe:List Str:=["_law_purse_here","_law_boxes","_law_queues","_law_signs_here","_law_many","_law_left","_law_deep"]
abbrev nDe:List Str:=["_law_purse_here","_law_boxes","_law_queues","_law_signs_here","_law_many","_law_left","_law_deep","_law_way","_law_ones","_law_others","_law_queue","_law_box"]
abbrev nDs:List Str:=["_law_purse_here","_law_boxes","_law_queues","_law_signs_here","_law_many","_law_left","_law_deep","_law_deeds_here","_law_k"]
theorem sM:bU nDe pDe (aS lC):=fK
theorem CQ:bU nDs pDe (aS jF):=fK
structure Lf(H:Hp)(p lf:ab):Prop where
 pu:dM H p
 hl:∃k:Int,H lf=Z8 (.l [.int k])
theorem Lf.int{H:Hp}{p Z:ab}(h:Lf H p Z):∀a∈[p,Z],∃(i:Int) (r:List V),H a=Z8 (.l (.int i::r)):=fun a m=>by
 obtain⟨x,y,e⟩:=h.pu;obtain⟨z,Y⟩:=h.hl
 rcases aD.mp m with rfl|m
 ·exact{x,_,e}
 ·rw[aH.mp m];exact{z,_,Y}
theorem Lf.ne{H:Hp}{p Z:ab}(h:Lf H p Z):Z≠p:=by
 obtain⟨x,y,e⟩:=h.pu;obtain⟨z,Y⟩:=h.hl;exact cQ Y e (by intro q;cases q)
theorem Lf.but{H H':Hp}{p Z:ab}(h:Lf H p Z)(b:But p H H')(X:dM H' p):Lf H' p Z:=by
 obtain⟨z,Y⟩:=h.hl;exact{X,z,b _ _ Y h.ne}
theorem Lf.same{H H':Hp}{p Z:ab}(h:Lf H p Z)(s:cA H H'):Lf H' p Z:=by
 obtain⟨z,Y⟩:=h.hl;exact{h.pu.same s,z,s _ _ Y}
inductive Gs(bs qs sgs:List Str)(n:Nat)(vs:List V)(H:Hp)(Q:VK)(_e:XK):Prop where
 |mk(p lb lq ls lf:ab)(m:Int)(d:Nat)(_:vs=[.ref p,.ref lb,.ref lq,.ref ls,.int m,.ref lf,.int d])(_:d<n)(_:Lf H p lf)(_:Nms H lb lq ls bs qs sgs)(_:0<m)(_:m<1000)(_:∀(v:V) (dd:Dd) (H':Hp),OwD bs qs H H' dd v->dd.toOk m->dd.deep<=d->dd.size<=ddz d->Lf H' p lf->Kp [p,lf] H H'->Q v H'):Gs bs qs sgs n vs H Q _e
def spDe(bs qs sgs:List Str)(n:Nat):Sp:=fun vs H Q Z=>Gs bs qs sgs n vs H Q Z
inductive Gu(bs qs sgs:List Str)(n:Nat)(vs:List V)(H:Hp)(Q:VK)(_e:XK):Prop where
 |mk(p lb lq ls lf:ab)(m:Int)(d:Nat)(_:vs=[.ref p,.ref lb,.ref lq,.ref ls,.int m,.ref lf,.int d])(_:d<n)(_:Lf H p lf)(_:Nms H lb lq ls bs qs sgs)(_:0<m)(_:m<1000)(_:∀(l:ab) (xs:List V) (ds:Ds) (H':Hp),H l=Z7->H' l=Z8 (.l xs)->xs.length<1000->OwS bs qs H H' ds xs->ds.toOk m->ds.deep<=d->ds.size<=3*ddz d->Lf H' p lf->Kp [p,lf] H H'->Q (.ref l) H'):Gu bs qs sgs n vs H Q _e
def CT(bs qs sgs:List Str)(n:Nat):Sp:=fun vs H Q Z=>Gu bs qs sgs n vs H Q Z
def qm:Ds->Dd->Ds
 |.nil,d=>.cons d .nil
 |.cons a r,d=>.cons a (qm r d)
theorem zV{bs qs:List Str}{H:Hp}{d:Dd}{v:V}(Z:fj bs qs H d v):∀(ds:Ds) (xs:List V),gN bs qs H ds xs->gN bs qs H (qm ds d) (xs++[v])
 |.nil,xs,h=>by
  have e:xs=[]:=by simpa only[gN] using h
  subst e;exact{v,[],Z9,Z,Z9}
 |.cons a r,xs,h=>by
  obtain⟨u,Y,rfl,h1,h2⟩:=(by simpa only[gN] using h);exact{u,Y++[v],Z9,h1,zV Z r Y h2}
theorem zW{m:Int}{d:Dd}(Z:d.toOk m):∀ds:Ds,ds.toOk m->(qm ds d).toOk m
 |.nil,_=>⟨Z,trivial⟩
 |.cons a r,h=>{h.1,zW Z r h.2}
theorem uQ(d:Dd):∀ds:Ds,(qm ds d).deep=max ds.deep d.deep
 |.nil=>by
  show max d.deep 0=max 0 d.deep;exact Nat.max_comm _ _
 |.cons a r=>by
  show max a.deep (qm r d).deep=max (max a.deep r.deep) d.deep;rw[uQ d r];exact (Nat.max_assoc _ _ _).symm
theorem uR(d:Dd):∀ds:Ds,(qm ds d).size=ds.size+d.size
 |.nil=>by
  show d.size+0=0+d.size;omega
 |.cons a r=>by
  show a.size+(qm r d).size=a.size+r.size+d.size;rw[uR d r];omega
end
theorem CU{bs qs:List Str}{H H':Hp}{ds:Ds}{xs:List V}{d:Dd}{v:V}(a:OwS bs qs H H' ds xs)(b:OwD bs qs H H' d v):OwS bs qs H H' (qm ds d) (xs++[v]):=fun H2 k n=>zV (b H2 k n) ds xs (a H2 k n)
theorem E5:∀n,1<=ddz n
 |0=>aB _
 |n+1=>by
  show 1<=1+6*ddz n;omega
theorem Kp.dm{own:List ab}{H G:Hp}(k:Kp own H G)(h:∀a∈own,∃o,G a=Z8 o):Dm H G:=fun a n=>by
 cases e:H a with
 |none=>rfl
 |some o=>
  by_cases m:a∈own
  ·obtain⟨u,q⟩:=h a m;rw[q]at n
   cases n
  ·rw[k a o e m]at n
   cases n
theorem Lf.there{H:Hp}{p Z:ab}(h:Lf H p Z):∀a∈[p,Z],∃o,H a=Z8 o:=fun a m=>by
 obtain⟨i,r,e⟩:=h.int a m;exact{_,e}
section
variable{P:aP}{w:bF}{K:ag}{mg:Str->Option ae}{base:cz}{f fD fL fF fS fE f1:ab}{fd fdD fdL fdF fdS fdE fd1:bS}{bs qs sgs:List Str}
seal PS PSs PE PA PT PW PI PG PGs PC
theorem E6{n kk:Nat}(hk:7<=kk)(D:Df K mg "_law_deed" lC pDe f fd)(DS:Df K mg "_law_deeds" jF pDe fS fdS)(GS:bO P w K mg base CX0 kk fS fdS pDe (CT bs qs sgs n))(DE:Df K mg "_law_send" lB AX fE fdE)(DF:Df K mg "_law_formula" hX pFo fF fdF)(DL:Df K mg "_law_leaf" iZ ["_law_purse_here","_law_boxes","_law_queues"] fL fdL)(DD:Df K mg "_law_draw" eE ["_law_purse_here","_law_out_of"] fD fdD)(B:Bl mg) :
  bO P w K mg base CX0 (kk+1) f fd pDe (spDe bs qs sgs (n+1)):=by
 have GD:bO P w K mg base CX0 1 fD fdD ["_law_purse_here","_law_out_of"] jM:=jN DD;have GF:bO P w K mg base CX0 7 fF fdF pFo (CI bs qs 4):=CK DF DL DD B 4;have GE:bO P w K mg base CX0 6 fE fdE AX (Gr bs qs sgs):=IH DE DF DL DD B;refine D.F.ok sM (fun vs H Q E h=>?_) (fun ew A outer s H vs Q E hr h=>?_)
 ·obtain⟨p,O,I,ls,y,m,d,rfl,_⟩:=h;rfl
 obtain⟨p,O,I,ls,y,m,d,rfl,dn,L,N,m0,m1,k⟩:=h;have r1:dC 1 _:=hr.mono (by omega);have rF:dC 7 _:=hr.mono hk;have rE:dC 6 _:=hr.mono (by omega);refine⟨_,ax (pst 7 sM (pcl GD r1 DD (aT (pv 0) (cR au ao))))
  (ax (dW ((lQ (cG uk (pv 7) au) (j8 (cG o7 (pv 6) au))).pt) (ax (pst 8 sM (pcl GS hr DS (aT (pv 0) (aT (pv 1) (aT (pv 2) (aT (pv 3) (aT (pv 4) (aT (pv 5) (mU (cV jX (pv 6) au) ao)))))))))
  (ax (pst 9 sM (pcl GS hr DS (aT (pv 0) (aT (pv 1) (aT (pv 2) (aT (pv 3) (aT (pv 4) (aT (pv 5) (mU (cV jX (pv 6) au) ao)))))))))
  (aJ (bT (dR (cR eO (ie (pcl GF rF DF (aT (pv 0) (aT (pv 1) (aT (pv 2) (cR au ao))))) (aT (pv 8) (aT (pv 9) ao))))))))) cD)
  (ax (CL endT (dW ((lQ (cG iS (pv 7) au) (j8 (cG iS (pcl GD r1 DD (aT (pv 0) (cR au ao))) au))).pt) (aJ (bT (dR (cR eO ao)))) cD) (fun D σ H q=>by
   obtain⟨p,w,h0,h7,pu,k1,k2⟩:=q;refine{_,h7,Z9,_,Z9,?_};refine si (fun _=>?_) (fun _=>?_)
   ·exact{_,h0,p,6,Z9,pu,by decide,by decide,fun r G r0 gt g bG=>{Z9,_,Z9,si (fun _=>{IA,fun t ht=>k1 G t g bG ht}) (fun _=>k2 G g bG)}}
   ·exact gm (k2 H pu (But.refl _ _))))
  (ax (dW ((lQ (cG uk (pv 7) au) (j8 (cG o7 (cK (dH K (by rfl)) (by rfl) B.len bV (aT (pv 2) ao)) au))).pt) (ax (pst 10 sM (bJ bN (pv 2) (pcl GD r1 DD (aT (pv 0) (ie (cK (dH K (by rfl)) (by rfl) B.len bV (aT (pv 2) ao)) ao)))))
  (ax (dW ((pV (cG iS (pv 7) au) (pV (cG iS (cK (dH K (by rfl)) (by rfl) B.len bV (aT (pv 1) ao)) au) (px (cG iS (pv 6) au)))).pt) (aJ (bT (dR (cR eO (aT (pv 10) (ie (pcl GF rF DF (aT (pv 0) (aT (pv 1) (aT (pv 2) (cR au ao))))) ao)))))) cD)
  (ax (pst 11 sM (bJ bN (pv 1) (pcl GD r1 DD (aT (pv 0) (ie (cK (dH K (by rfl)) (by rfl) B.len bV (aT (pv 1) ao)) ao)))))
  (aJ (bT (dR (cR eO (aT (pv 10) (aT (pv 11) (ie (pcl GS hr DS (aT (pv 0) (aT (pv 1) (aT (pv 2) (aT (pv 3) (aT (pv 4) (aT (pv 5) (mU (cV jX (pv 6) au) ao)))))))) ao)))))))))) cD)
  (ax (dW ((lQ (cG uk (pv 7) au) (j8 (cG o7 (cK (dH K (by rfl)) (by rfl) B.len bV (aT (pv 1) ao)) au))).pt) (ax (pst 11 sM (bJ bN (pv 1) (pcl GD r1 DD (aT (pv 0) (ie (cK (dH K (by rfl)) (by rfl) B.len bV (aT (pv 1) ao)) ao)))))
  (ax (dW (cG iS (pv 7) au) (aJ (bT (dR (cR eO (aT (pv 11) (ie (pcl GF rF DF (aT (pv 0) (aT (pv 1) (aT (pv 2) (cR au ao))))) ao)))))) cD)
  (aJ (bT (dR (cR eO (aT (pv 11) (ie (pcl GF rF DF (aT (pv 0) (aT (pv 1) (aT (pv 2) (cR au ao))))) ao)))))))) cD)
  (aJ (bT (pcl GE rE DE (aT (pv 0) (aT (pv 1) (aT (pv 2) (aT (pv 3) (aT (pv 4) ao)))))))))))),?_⟩
 dsimp only[cxA,cxB];have big:=ef;have mp:p∈[p,y]:=aU;have dz:=E5 d;refine dO (cS ?_);refine{_,Z9,p,13,Z9,L.pu,by decide,by decide,fun eH G w0 w1 g bG=>?_};refine bK ?_;dsimp only;have LG:=L.but bG g;have kG:Kp [p,y] H G:=Kp.but bG mp;have NG:=N.keepI (eG.but L.pu bG);have gp:Dm H G:=kG.dm LG.there;refine dO ?_;refine mV (Det.and (yO rfl) fun _=>IC rfl) (fun c=>?_) (fun _=>?_)
 ·have c2:=Q0 (iE _ _ ▸ c).2;obtain⟨d',rfl⟩:∃d',d=d'+1:={d-1,by omega};have em:((d'+1:Nat):Int)-1=(d':Int):=by omega
  refine dO (cS ?_);refine{_,Z9,_,Z9,_,Z9,_,Z9,_,Z9,_,Z9,_,Z9,_,_,Z9,Z9,p,O,I,ls,y,m,d',(by show [V.ref p,V.ref O,V.ref I,V.ref ls,V.int m,V.ref y,V.int (((d'+1:Nat):Int)-1)]=_;rw[em]),by omega,LG,NG,m0,m1,fun l1 fv M G1 gg h1 gq O1 t1 ga ez L1 k1=>?_};refine bK ?_;dsimp only;have N1:=NG.keepI (k1.keepI LG.int);have gn:Dm G G1:=k1.dm L1.there;refine dO (cS ?_);refine{_,Z9,_,Z9,_,Z9,_,Z9,_,Z9,_,Z9,_,Z9,_,_,Z9,Z9,p,O,I,ls,y,m,d',(by show [V.ref p,V.ref O,V.ref I,V.ref ls,V.int m,V.ref y,V.int (((d'+1:Nat):Int)-1)]=_;rw[em]),by omega,L1,N1,m0,m1,fun l2 et gh G2 fz h2 ge O2 t2 ev ey W k2=>?_};refine bK ?_;dsimp only;have gl:=k2.keepI L1.int;have J:=N1.keepI gl;refine{_,Z9,_,Z9,_,Z9,p,O,I,2,Z9,by decide,W.pu,J.hb,J.hq,N.lb9,N.lq9,fun vf F G3 hF dF X U=>{_,Z9,_,Z9,by show 4<=aF;omega,fun t ht=>?_}};have Z:=az ht (.t [.str "if",vf,.ref l1,.ref l2]);have k3:=(eG.but W.pu U).trans (eG.same Z);refine k _ (.ife F M gh) _ (IG ai {hF.same Z,by omega} (gp l1 gg) (k3 _ _ (gl _ _ h1 O1.now.ni) O1.now.ni) gq ((O1.base gp).keepI (gl.trans k3)) (gp l2 (gn l2 fz)) (k3 _ _ h2 O2.now.ni) ge ((O2.base (gp.trans gn)).keepI k3)) ⟨t1,t2⟩ ?_ ?_ ((W.but U X).same Z) (((kG.trans k1).trans k2).trans ((Kp.but U mp).trans (Kp.same Z)))
  ·show max M.deep gh.deep+1<=d'+1;omega
  ·show M.size+gh.size+1<=1+6*ddz d';omega
 refine qN ?_;dsimp only;refine dO ?_;refine{p,eH,Z9,Z9,g,fun H' t fw b' ht=>?_,fun G1 z b1=>?_}
 ·have Z:=az ht (.t [.str "end"]);exact k _ .fin _ (IF ai) trivial (aO _) dz ((LG.but b' fw).same Z) ((kG.trans (Kp.but b' mp)).trans (Kp.same Z))
 dsimp only;have L1:=LG.but b1 z;have k1:Kp [p,y] H G1:=kG.trans (Kp.but b1 mp);have N1:=NG.keepI (eG.but g b1);have gn:Dm H G1:=k1.dm L1.there;refine dO ?_;refine mV (Det.and (yO rfl) fun _=>rK (K:=K) rfl N1.hq) (fun c=>?_) (fun _=>?_)
 ·have c2:=Q0 (iE _ _ ▸ c).2;rw[ak]at c2;have:=N.lq9;refine dO (cS ?_);refine{_,Z9,_,Z9,_,Z9,I,_,Z9,.inl (SqL.of N1.hq),p,_,Z9,z,by rw[ak];omega,by rw[ak];omega,fun r G2 r0 gt Y b2=>?_};rw[ak]at gt;obtain⟨q,hq,mq⟩:=lE r0 gt;have J:=N1.keepI (eG.but z b2);have W:=L1.but b2 Y;have k2:Kp [p,y] H G2:=k1.trans (Kp.but b2 mp);refine{I,_,_,_,Z9,Z9,SqL.of J.hq,hq,?_};refine bK ?_;dsimp only;refine dO ?_;refine mV (Det.or (pE rfl) fun _=>Det.or (CF (K:=K) rfl J.hb) fun _=>pE rfl) (fun _=>?_) (fun c=>?_)
  ·refine{_,Z9,_,Z9,_,Z9,_,Z9,p,O,I,1,Z9,by decide,Y,J.hb,J.hq,N.lb9,N.lq9,fun vf F G3 hF dF X U=>{by show 3<=aF;omega,fun t ht=>?_}};have Z:=az ht (.t [.str "push",.str q,vf]);exact k _ (.push q F) _ (EZ ai mq {hF.same Z,by omega}) trivial (aO _) dz ((W.but U X).same Z) ((k2.trans (Kp.but U mp)).trans (Kp.same Z))
  refine qN ?_;dsimp only;rw[zX,zX]at c;have cb:=of_decide_eq_false c.2.1;have cd:=of_decide_eq_false c.2.2;rw[ak]at cb;have:=N.lb9;obtain⟨d',rfl⟩:∃d',d=d'+1:={d-1,by omega};have em:((d'+1:Nat):Int)-1=(d':Int):=by omega
  refine dO (cS ?_);refine{_,Z9,_,Z9,_,Z9,O,_,Z9,.inl (SqL.of J.hb),p,_,Z9,Y,by rw[ak];omega,by rw[ak];omega,fun r2 G3 fa gf X U=>?_};rw[ak]at gf;obtain⟨x,hx,mx⟩:=lE fa gf;have N3:=J.keepI (eG.but Y U);have L3:=W.but U X;have k3:Kp [p,y] H G3:=k2.trans (Kp.but U mp);have gd:Dm H G3:=k3.dm L3.there;refine{O,_,_,_,Z9,Z9,SqL.of N3.hb,hx,?_};refine bK ?_;dsimp only;refine{_,Z9,_,Z9,_,Z9,_,Z9,_,Z9,_,Z9,_,Z9,_,Z9,_,Z9,_,_,Z9,Z9,p,O,I,ls,y,m,d',(by show [V.ref p,V.ref O,V.ref I,V.ref ls,V.int m,V.ref y,V.int (((d'+1:Nat):Int)-1)]=_;rw[em]),by omega,L3,N3,m0,m1,fun l1 fv M G4 gg h1 gq O1 t1 ga ez L4 k4=>{by show 4<=aF;omega,fun t ht=>?_}};have Z:=az ht (.t [.str "pull",.str q,.str x,.ref l1]);refine k _ (.pull q x M) _ (E3 ai mq mx (gd l1 gg) (Z _ _ h1) gq ((O1.base gd).keepI (eG.same Z))) t1 ?_ ?_ (L4.same Z) ((k3.trans k4).trans (Kp.same Z))
  ·show M.deep+1<=d'+1;omega
  ·show M.size+1<=1+6*ddz d';omega
 refine qN ?_;dsimp only;refine dO ?_;refine mV (Det.and (yO rfl) fun _=>rK (K:=K) rfl N1.hb) (fun c=>?_) (fun _=>?_)
 ·have c2:=Q0 (iE _ _ ▸ c).2;rw[ak]at c2;have:=N.lb9;refine dO (cS ?_);refine{_,Z9,_,Z9,_,Z9,O,_,Z9,.inl (SqL.of N1.hb),p,_,Z9,z,by rw[ak];omega,by rw[ak];omega,fun r G2 r0 gt Y b2=>?_};rw[ak]at gt;obtain⟨x,hx,mx⟩:=lE r0 gt;have J:=N1.keepI (eG.but z b2);have W:=L1.but b2 Y;have k2:Kp [p,y] H G2:=k1.trans (Kp.but b2 mp);refine{O,_,_,_,Z9,Z9,SqL.of J.hb,hx,?_};refine bK ?_;dsimp only;refine dO ?_;refine mV (pE rfl) (fun _=>?_) (fun _=>?_)
  ·refine{_,Z9,_,Z9,_,Z9,_,Z9,p,O,I,1,Z9,by decide,Y,J.hb,J.hq,N.lb9,N.lq9,fun vf F G3 hF dF X U=>{by show 3<=aF;omega,fun t ht=>?_}};have Z:=az ht (.t [.str "draw",.str x,vf]);exact k _ (.draw x F) _ (E1 ai mx {hF.same Z,by omega}) trivial (aO _) dz ((W.but U X).same Z) ((k2.trans (Kp.but U mp)).trans (Kp.same Z))
  refine qN ?_;dsimp only;refine{_,Z9,_,Z9,_,Z9,_,Z9,p,O,I,3,Z9,by decide,Y,J.hb,J.hq,N.lb9,N.lq9,fun vf F G3 hF dF X U=>{by show 3<=aF;omega,fun t ht=>?_}};have Z:=az ht (.t [.str "put",.str x,vf]);exact k _ (.put x F) _ (IE ai mx {hF.same Z,by omega}) trivial (aO _) dz ((W.but U X).same Z) ((k2.trans (Kp.but U mp)).trans (Kp.same Z))
 refine qN ?_;dsimp only;refine{_,Z9,_,Z9,_,Z9,_,Z9,_,Z9,p,O,I,ls,m,Z9,z,N1,m0,m1,fun v dd G2 hO to dp sz Y b2=>?_};exact k _ dd _ (hO.base gn) to (by omega) (by omega) (L1.but b2 Y) (k1.trans (Kp.but b2 mp))
theorem E7{n kk:Nat}(hk:1<=kk)(D:Df K mg "_law_deeds" jF pDe f fd)(D1:Df K mg "_law_deed" lC pDe f1 fd1)(G1:bO P w K mg base CX0 kk f1 fd1 pDe (spDe bs qs sgs n))(DD:Df K mg "_law_draw" eE ["_law_purse_here","_law_out_of"] fD fdD)(B:Bl mg) :
  bO P w K mg base CX0 (kk+1) f fd pDe (CT bs qs sgs n):=by
 have GD:bO P w K mg base CX0 1 fD fdD ["_law_purse_here","_law_out_of"] jM:=jN DD;refine D.F.ok CQ (fun vs H Q E h=>?_) (fun cu A outer s H vs Q E hr h=>?_)
 ·obtain⟨p,lb,lq,ls,Z,m,d,rfl,_⟩:=h;rfl
 obtain⟨p,lb,lq,ls,Z,m,d,rfl,dn,L,N,m0,m1,k⟩:=h;have r1:dC 1 _:=hr.mono hk;refine⟨_,ax (pst 7 CQ (dv ao))
  (ax (e9 bB rfl (gG (by rfl) B.range (ie (pcl GD r1 DD (aT (pv 0) (cR au ao))) ao)) (pgn 8 CQ) (aJ (dW (cG o7 (bJ bN (pv 5) au) au) (ax (vn (cV jX (bJ bN (pv 5) au) au) (yi (pv 5) au r9))
  (aJ (eL (kh bE bZ cg fZ (pv 7) (ie (pcl G1 hr D1 (aT (pv 0) (aT (pv 1) (aT (pv 2) (aT (pv 3) (aT (pv 4) (aT (pv 5) (aT (pv 6) ao)))))))) ao))))) cD)))
  (aJ (bT (pv 7)))),?_⟩
 dsimp only[cxA,cxB];have big:=ef;have mp:p∈[p,Z]:=aU;have ml:Z∈[p,Z]:=bL _ aU;refine dO (cS ?_);refine{aO _,fun W I=>?_};have s0:=az I (.l []);refine bK ?_;dsimp only;have n0:W∉[p,Z]:=fun z=>by
  obtain⟨i,r,e⟩:=L.int W z;rw[I]at e
  cases e
 refine dO ?_;refine{_,Z9,p,4,Z9,L.pu.same s0,by decide,by decide,fun r G r0 cx di bG=>{r,Z9,by omega,by omega,?_}};have LG:=(L.same s0).but bG di;have kG:Kp [p,Z] H G:=(Kp.same s0).trans (Kp.but bG mp);have du:G W=Z8 (.l []):=bG _ _ ai (fun z=>n0 (by rw[z];exact mp));refine kW (n:=r.toNat) (fun i σ G'=>∃(xs:List V) (ds:Ds) (v8:Option V),σ=[Z8 (.ref p),Z8 (.ref lb),Z8 (.ref lq),Z8 (.ref ls),Z8 (.int m),Z8 (.ref Z),Z8 (.int d),Z8 (.ref W),v8]/\G' W=Z8 (.l xs)/\xs.length<=i/\i<=3/\OwS bs qs (upd H W (.l [])) G' ds xs/\ds.toOk m/\ds.deep<=d/\ds.size<=i*ddz d/\Lf G' p Z/\Kp [p,Z] H G')
  {[],.nil,_,Z9,du,aB _,by decide,E4,trivial,aO _,aO _,LG,kG} ?_ ?_
 ·rintro i σ X hi ⟨xs,ds,v8,rfl,g,dg,i3,O,to,dp,sz,L1,k1⟩;obtain⟨J,hc⟩:=L1.hl;have dq:ds.size<=(i+1)*ddz d:=dh sz (AY _ (gO _));refine ic ?_;refine{_,Z9,Z,_,_,_,Z9,Z9,SqL.of hc,Z9,_,_,Z9,Z9,_,Z9,?_};refine si (fun _=>?_) (fun _=>?_)
  ·refine dO (cS ?_);refine{_,Z9,Z,_,_,_,Z9,Z9,SqL.of hc,Z9,_,_,Z9,Z9,_,Z9,Z,[.int J],0,0,Z9,Z9,hc,Z9,?_};have de:upd X Z (.l ([V.int J].set 0 (.int (J-1)))) Z=Z8 (.l [.int (J-1)]):=ai;have U:Kp [p,Z] X (upd X Z (.l ([V.int J].set 0 (.int (J-1))))):=Kp.upd ml;have M:Lf (upd X Z (.l ([V.int J].set 0 (.int (J-1))))) p Z:=by
    obtain⟨x,y,e⟩:=L1.pu;exact{{x,y,kP e L1.ne.symm},_,de}
   have dL:=U.keepI L1.int;have N2:=(N.keepI (k1.keepI L.int)).keepI dL;have Y:=U _ _ g n0;have O2:=O.keepI dL;revert M dL N2 Y O2 U;generalize upd X Z (.l ([V.int J].set 0 (.int (J-1))))=G2;intro U M dL N2 Y O2;refine{_,Z9,.inl {Z9,_,SqL.of Y},_,Z9,_,Z9,_,Z9,_,Z9,_,Z9,_,Z9,_,Z9,p,lb,lq,ls,Z,m,d,Z9,dn,M,N2,m0,m1,fun v dd G3 hO t da db L3 dz=>?_};have dF:=dz _ _ Y n0;refine{W,xs,v,Z9,Z9,dF,by omega,?_};have dr:=dz.keepI M.int;have ol:G2 W≠Z7:=by
    rw[Y];intro z
    cases z
   have dw:∀ys,G3 W≠Z8 (.t ys):=fun ys z=>by
    rw[dF]at z
    cases z
   have dc:upd H W (.l []) W≠Z7:=by
    rw[ai];intro z
    cases z
   have dl:Dm (upd H W (.l [])) G2:=fun a na=>by
    by_cases ca:a=W
    ·rw[ca,Y]at na
     cases na
    ·rw[aV ca];exact (k1.trans U).dm M.there a na
   refine{xs++[v],qm ds dd,_,Z9,ai,by rw[aL];show xs.length+1<=i+1;omega,by omega,CU ((O2.keepI dr).old dc dw) ((hO.old ol dw).base dl),zW t ds to,by rw[uQ];omega,?_,?_,?_}
   ·rw[uR,Nat.succ_mul];omega
   ·obtain⟨x,y,e⟩:=L3.pu;obtain⟨z,e'⟩:=L3.hl;exact{{x,y,kP e (fun q=>n0 (by rw[<- q];exact mp))},z,kP e' (fun q=>n0 (by rw[<- q];exact ml))}
   ·exact fun b o e nb=>kP (((k1.trans U).trans dz) b o e nb) (aC e I)
  ·exact{xs,ds,_,Z9,g,by omega,by omega,O,to,dp,dq,L1,k1}
 ·rintro σ X ⟨xs,ds,v8,rfl,g,dg,i3,O,to,dp,sz,L1,k1⟩;refine{_,Z9,k W xs ds X I g (by omega) (O.base (Dm.same s0)) to dp (dh sz (AY _ i3)) L1 k1}
theorem Gv(D:Df K mg "_law_deeds" jF pDe f fd)(Z:Df K mg "_law_deed" lC pDe f1 fd1)(W:Df K mg "_law_send" lB AX fE fdE)(X:Df K mg "_law_formula" hX pFo fF fdF)(V:Df K mg "_law_leaf" iZ ["_law_purse_here","_law_boxes","_law_queues"] fL fdL)(Y:Df K mg "_law_draw" eE ["_law_purse_here","_law_out_of"] fD fdD)(B:Bl mg) :
  ∀n:Nat,bO P w K mg base CX0 (7+2*n) f fd pDe (CT bs qs sgs n)
 |0=>⟨fun vs H Q E h=>by
   obtain⟨p,U,O,L,M,m,d,_,h,_⟩:=h;omega,fun A outer s H args us vs Q E _ _ _ _ h=>by
   obtain⟨p,U,O,L,M,m,d,_,h,_⟩:=h;omega⟩
 |n+1=>E7 (kk:=7+2*n+1) (by omega) D Z (E6 (by omega) Z D (Gv D Z W X V Y B n) W X V Y B) Y B
end
end _M
namespace _L
open PySem PySem.Spec PyProof.Rows
section
variable{X:Cx}
def rSlS:V->Option Int->Option Int->Hp->VK->Prop:=fun x lo hi H Q=>∃y,x=.str y/\y.length<=aF/\Q (.str (pS y lo hi)) H
theorem II:SlR X rSlS:=by
 intro pins s σ H x v M O lo hi Z Q I W hs U Y h;obtain⟨y,rfl,hy,q⟩:=h;obtain⟨t,rfl⟩:=W;have fin:∀(l u:Option (Int×Tok)),pS y (l.map (·.1)) (u.map (·.1))=pS y lo hi->s.heap.IsSlice Z l u Z7->∃T id,yx (.type T) "__getitem__"=pure (Z8 (.builtin id))/\s.TypeIs (.str y t) T/\aN (aW X.prog X.w) X.A (tP (.str y t) (.ref Z)) (EP X pins σ Q) X.xe s:=fun l u e h=>by
  exact{"str",_,F.slot_str_getitem.lookup,Ib _ _ _,wpAny_getItem_str_slice (u:=u) (st:=Z7) h rfl (post_val_or_str {dh (Txt.slice_le y (l.map (·.1)) (u.map (·.1))) hy,fun t' k=>{.str (pS y lo hi),H,I.tok _,{t',by rw[<- e];rfl},q}})}
 cases U with
 |none=>cases Y with
  |none=>exact fin Z7 Z7 rfl hs
  |int j u=>exact fin Z7 (Z8 (j,u)) rfl hs
 |int i u=>cases Y with
  |none=>exact fin (Z8 (i,u)) Z7 rfl hs
  |int j V=>exact fin (Z8 (i,u)) (Z8 (j,V)) rfl hs
end
end _L
namespace _M
open PySem _L
def abc:Str:="abcdefghijklmnopqrstuvwxyz"
theorem E8:abc.cps.toList.length=26:=by decide +kernel
theorem uS:abc.length<=aF:=by decide +kernel
theorem IJ:abc.cps.toList.Nodup:=by decide +kernel
theorem IK{z:Int}(h0:0<=z)(h1:z<26):∃c,abc.cps.toList[z.toNat]?=Z8 c/\atI abc.cps.toList z=Z8 c:=by
 obtain⟨j,rfl⟩:∃j:Nat,z=(j:Int):={z.toNat,by lia};have l:j<abc.cps.toList.length:=by rw[E8];lia
 exact{abc.cps.toList[j],by rw[dE];exact aA l,cI (aA l)}
def mW:List Int:=[1,3,5,25,7,11]
def placeOf(b st:Int)(i:Nat):Int:=(b+st*(0+(i:Int)))%26
theorem qp(b st:Int)(i:Nat):0<=placeOf b st i/\placeOf b st i<26:={oS _ (by decide),lR _ (by decide)}
theorem CV{b st:Int}(hs:st∈mW){i j:Nat}(hi:i<9)(Z:j<9)(h:placeOf b st i=placeOf b st j):i=j:=by
 unfold placeOf at h;unfold mW at hs;simp at hs
 rcases hs with rfl|rfl|rfl|rfl|rfl|rfl<;>omega
def GN(b st:Int)(Z:List Str):Prop:=∀i s,Z[i]?=Z8 s->∃c,abc.cps.toList[(placeOf b st i).toNat]?=Z8 c/\s.cps.toList[0]?=Z8 c
theorem E9{i j:Nat} {c} (hi:abc.cps.toList[i]?=Z8 c) (Z:abc.cps.toList[j]?=Z8 c):i=j:=(mm ((ay.mp hi).1) IJ).mp (hi.trans Z.symm)
theorem GN.nodup{b st:Int}(hs:st∈mW){Y:List Str}(h:GN b st Y)(J:Y.length<=9):Y.Nodup:=by
 refine jm.mpr fun i j V X W e=>?_;obtain⟨c,a1,a2⟩:=h i _ (aA V);obtain⟨d,U,Z⟩:=h j _ (aA X);rw[<- e,a2]at Z;injection Z with Z;subst Z;have z:=E9 a1 U;obtain⟨O,p2⟩:=qp b st i;obtain⟨L,M⟩:=qp b st j;have w:placeOf b st i=placeOf b st j:=by lia
 have:=CV hs (by lia) (by lia) w
 lia
theorem GN.snoc{b st:Int}{Z:List Str}{s:Str} {c} (h:GN b st Z) (h2:abc.cps.toList[(placeOf b st Z.length).toNat]?=Z8 c) (X:s.cps.toList[0]?=Z8 c):GN b st (Z++[s]):=by
 intro i x e
 by_cases hi:i<Z.length
 ·rw[dy hi]at e;exact h i x e
 ·rw[df (by lia)]at e;have z:i-Z.length=0:=by grind
  have Y:i=Z.length:=by lia
  rw[z]at e;simp at e;subst e;rw[Y];exact⟨c,h2,X⟩
theorem vN{x y:Str} {c} (h:x.cps.toList[0]?=Z8 c):(x++y).cps.toList[0]?=Z8 c:=by
 show (x.cps++y.cps).toList[0]?=Z8 c;rw[Array.toList_append,dy (ay.mp h).1];exact h
theorem CW{r:Int}(h0:0<=r)(h1:r<6):∃st,atI (mW.map V.int) r=Z8 (.int st)/\st∈mW:=by
 obtain⟨j,rfl⟩:∃j:Nat,r=(j:Int):={r.toNat,by lia};have lt:j<mW.length:=by
  show j<6
  lia
 exact{mW[j],cI (by rw[bD,aA lt];rfl),jd lt}
section
variable{P:aP}{w:bF}{K:ag}{mg:Str->Option ae}{base:cz}{f fD:ab}{fd fdD:bS}
seal PS PSs PE PA PT PW PI PG PGs PC
inductive xo(vs:List V)(H:Hp)(Q:VK)(_e:XK):Prop where
 |mk(p:ab)(n:Int)(_:vs=[.ref p,.int n])(_:dM H p)(_:0<=n)(_:n<=9)(_:∀(l:ab) (ss:List Str) (H':Hp),H l=Z7->H' l=Z8 (.l (ss.map V.str))->(ss.length:Int)=n->ss.Nodup->dM H' p->But p H H'->Q (.ref l) H'):xo vs H Q _e
def vO:Sp:=fun vs H Q Z=>xo vs H Q Z
abbrev nN:List Str:=["_law_purse_here","_law_many","_law_letters","_law_base","_law_step","_law_names_here","_law_k","_law_tail"]
theorem scN:bU nN ["_law_purse_here","_law_many"] (aS kr):=fK
theorem xp(D:Df K mg "_law_names" kr ["_law_purse_here","_law_many"] f fd)(z:Df K mg "_law_draw" eE ["_law_purse_here","_law_out_of"] fD fdD)(B:Bl mg):bO P w K mg base CX0 2 f fd ["_law_purse_here","_law_many"] vO:=by
 have g:bO P w K mg base CX0 1 fD fdD ["_law_purse_here","_law_out_of"] jM:=jN z;refine D.F.ok scN (fun vs H Q E h=>?_) (fun ca A outer s H vs Q E r1 h=>?_)
 ·obtain⟨p,n,rfl,_⟩:=h;rfl
 obtain⟨p,n,rfl,hp,cc,cd,q⟩:=h;refine⟨_,ax (pst 2 scN eO)
  (ax (pst 3 scN (pcl g r1 z (aT (pv 0) (cR au ao))))
  (ax (pst 4 scN (bJ bN (dv (cR au (cR au (cR au (cR au (cR au (cR au ao))))))) (pcl g r1 z (aT (pv 0) (cR au ao)))))
  (ax (pst 5 scN (dv ao))
  (ax (e9 bB rfl (gG (by rfl) B.range (aT (pv 1) ao)) (pgn 6 scN) (ax (pst 7 scN (lX II (pv 2) rC (lJ (pcl g r1 z (aT (pv 0) (cR au ao))))))
  (aJ (eL (kh bE bZ cg fZ (pv 5) (mU (cV yn (bJ Ia (pv 2) (cV oe (cV il (pv 3) (cV oa (pv 4) (pv 6))) au)) (pv 7)) ao))))))
  (aJ (bT (pv 5))))))),?_⟩
 have big:=ef;refine dO (cS ?_);refine bK ?_;dsimp only;refine dO (cS ?_);refine{_,Z9,p,26,Z9,hp,by decide,by decide,fun first H1 f0 f1 O b1=>?_};refine bK ?_;dsimp only;refine dO (cS ?_);refine{by show 6<=aF;omega,fun ls U=>?_};have sl:=az U (.l (mW.map V.int));refine{_,Z9,p,6,Z9,O.same sl,by decide,by decide,fun r2 H2 co ck L b2=>?_};obtain⟨st,cl,Z⟩:=CW co ck;have cs:ls≠p:=by
  obtain⟨x,y,e⟩:=O;exact (aC e U).symm
 have ce:0<st/\st<100:=by
  unfold mW at Z;simp only[aD,aX,or_false]at Z
  rcases Z with rfl|rfl|rfl|rfl|rfl|rfl<;>decide
 refine{ls,_,_,_,Z9,Z9,SqL.of (b2 _ _ ai cs),cl,?_};refine bK ?_;dsimp only;have J:But p H H2:=(b1.same sl).trans b2;refine dO (cS ?_);refine{aO _,fun l t=>?_};have s3:=az t (.l []);have nl:l≠p:=by
  obtain⟨x,y,e⟩:=L;exact (aC e t).symm
 have W:H l=Z7:=by
  cases e:H l with
  |none=>rfl
  |some o=>
   rw[J l o e nl]at t
   cases t
 refine bK ?_;dsimp only;refine dO ?_;refine⟨_,Z9,n,Z9,by omega,by omega,kW (n:=n.toNat) (fun i σ G=>∃(X:List Str) (v6 v7:Option V),σ=[Z8 (.ref p),Z8 (.int n),Z8 (.str abc),Z8 (.int first),Z8 (.int st),Z8 (.ref l),v6,v7]/\i<=n.toNat/\G l=Z8 (.l (X.map V.str))/\X.length=i/\GN first st X/\dM G p/\But p H G)
  {[],Z7,Z7,Z9,aO _,ai,Z9,fun i s e=>by simp at e,L.same s3,J.same s3} ?_ ?_⟩
 ·rintro i σ G hi ⟨X,v6,v7,rfl,cn,hG,Y,gn,pu,d⟩;obtain⟨c,c1,c2⟩:=IK (qp first st i).1 (qp first st i).2;refine dO (cS ?_);refine{_,Z9,_,Z9,p,6,Z9,pu,by decide,by decide,fun r G1 r0 cb cr M=>{r,Z9,abc,Z9,uS,?_}};refine bK ?_;dsimp only;have I:=M _ _ hG nl;have ci:(pS abc Z7 (Z8 r)).length<=26:=dh (Txt.slice_le abc Z7 (Z8 r)) (by decide +kernel);refine{_,Z9,.inl {Z9,_,SqL.of I},_,Z9,_,Z9,_,Z9,_,Z9,_,_,Z9,Z9,.inl {by omega,by omega},_,_,Z9,Z9,_,_,Z9,Z9,(by show (0:Int)<26;decide),abc,_,c,Z9,Z9,uS,c2,_,Z9,_,_,Z9,Z9,?_,l,_,_,Z9,Z9,I,(by rw[ak];omega),?_}
  ·show 1+(pS abc Z7 (Z8 r)).length<=aF;omega
  ·obtain⟨x,y,cp⟩:=cr;refine{X++[_],_,_,Z9,hi,by rw[cq];exact ai,by rw[aL,Y];rfl,gn.snoc (c:=c) (by rw[Y];exact c1) (vN rfl),{x,y,kP cp nl.symm},?_};exact fun b o hb nb=>kP (M _ _ (d b o hb nb) nb) (aC hb W)
 ·rintro σ G ⟨X,v6,v7,rfl,cn,hG,Y,gn,pu,d⟩;exact{_,Z9,q l X G W hG (by omega) (gn.nodup Z (by omega)) pu d}
end
def CY:List Int->TA
 | []=>p5
 |k::r=>ib (tC (.int k)) (CY r)
theorem zY:∀(ks:List Int) {σ:St} {H:Hp} {Q:List V->Hp->Prop},Q (ks.map V.int) H->CY ks σ H Q
 | [],_,_,_,h=>h
 |_::r,_,_,_,h=>zY r h
theorem dr2{K:ag}{ks:List Int}{c:Int}{p:ab}(hc:c=ks.length)(hk:∀k∈ks,0<k/\k<100)(h0:0<ks.length)(d:ks.length<100){σ:St}{H:Hp}{Q:VK}(hv:σ[0]?=Z8 (Z8 (.ref p)))(J:dM H p)
  (k:∀(r:Int) (G:Hp),0<=r->r<100->dM G p->But p H G->Q (.int r) G):wQ jM [] E0 (ib (lV 0) (ib (tOp (rIxL K) (tLst (CY ks)) (wQ jM [] E0 (ib (lV 0) (ib (tC (.int c)) p5)))) p5)) σ H Q:=by
 have big:=ef;refine{_,hv,zY ks {by rw[ak];lia,fun l Z=>?_}};have M:=az Z (.l (ks.map V.int));have W:l≠p:=by
  obtain⟨x,y,e⟩:=J;exact (aC e Z).symm
 refine{_,hv,p,c,Z9,J.same M,by lia,by lia,fun r B g f U L=>?_};obtain⟨j,rfl⟩:∃j:Nat,r=(j:Int):={r.toNat,by lia};have lt:j<ks.length:=by lia
 have hb:=hk _ (jd lt);refine{l,_,_,_,Z9,Z9,SqL.of (L _ _ ai W),(cI (by rw[bD,aA lt];rfl)),p,ks[j],Z9,U,hb.1,by lia,fun q z O D X t=>?_};have Y:But p H B:=fun b o e I=>L _ _ (M _ _ e) I;exact k q z O (by lia) X (Y.trans t)
theorem sN(Z:List Str)(lo hi:Option Int):∃zs:List Str,p9 (Z.map V.str) lo hi=zs.map V.str/\zs.length<=Z.length:=by
 refine{(Z.drop (_H.sIx (Z.map V.str).length 0 lo)).take (_H.sIx (Z.map V.str).length (Z.map V.str).length hi-_H.sIx (Z.map V.str).length 0 lo),?_,?_}
 ·unfold p9;rw[<- IL,<- IM]
 ·rw[dB,kB]
  lia
def HsO(bs qs:List Str)(H H':Hp)(v:V)(q:Str×Ds):Prop:=∃t l xs,v=.ref t/\H' t=Z8 (.t [.str q.1,.ref l])/\H l=Z7/\H' l=Z8 (.l xs)/\xs.length<1000/\OwS bs qs H H' q.2 xs
theorem HsO.keepI{bs qs:List Str}{H H' H1:Hp}{v:V}{q:Str×Ds}(k:eG H' H1)(h:HsO bs qs H H' v q):HsO bs qs H H1 v q:=by
 obtain⟨t,l,xs,e,h1,h2,X,Y,Z⟩:=h;exact{t,l,xs,e,k _ _ h1 (pG _),h2,k _ _ X Z.now.ni,Y,Z.keepI k}
theorem HsO.old{bs qs:List Str}{H H':Hp}{v:V}{q:Str×Ds}{a:ab}{o:HO}(h:HsO bs qs H H' v q)(Y:H a≠Z7)(Z:∀xs,H' a≠Z8 (.t xs)):HsO bs qs H (upd H' a o) v q:=by
 obtain⟨t,l,xs,e,h1,h2,U,X,W⟩:=h;exact{t,l,xs,e,kP h1 (fun z=>Z _ (z ▸ h1)),h2,kP U (fun z=>Y (z ▸ h2)),X,W.old Y Z}
theorem HsO.base{bs qs:List Str}{H H0 H':Hp}{v:V}{q:Str×Ds}(h:HsO bs qs H H' v q)(s:Dm H0 H):HsO bs qs H0 H' v q:=by
 obtain⟨t,l,xs,e,h1,h2,Y,Z,X⟩:=h;exact{t,l,xs,e,h1,s l h2,Y,Z,X.base s}
structure Mch(m:Int)(H H':Hp)(t:ab)(nm:Str)(bs qs:List Str)(ds:List Int)(hs:List (Str×Ds))(ps:List (Str×Int)):Prop where
 ex:∃(bl ql dl hl:ab) (vb hv:List V),H' t=Z8 (.t [.str nm,.ref bl,.ref ql,.ref dl,.ref hl])/\H' bl=Z8 (.l vb)/\fe H' ps vb/\H' ql=Z8 (.l (qs.map V.str))/\H' dl=Z8 (.l (ds.map V.int))/\H' hl=Z8 (.l hv)/\bM (HsO bs qs H H') hv hs/\H bl=Z7/\H ql=Z7/\H dl=Z7/\H hl=Z7
 kb:ps.map (·.1)=bs
 nb:bs.Nodup
 nq:qs.Nodup
 lb:bs.length<=9
 lq:qs.length<=9
 ld:ds.length<=100
 lh:hs.length<=9
 wb:∀q∈ps,-4<=q.2/\q.2<=4
 hk:∀q∈hs,q.2.toOk m/\q.2.deep<=4/\q.2.size<=3*ddz 4
section
variable{P:aP}{w:bF}{K:ag}{mg:Str->Option ae}{base:cz}{f fD fN fS:ab}{fd fdD fdN fdS:bS}{sgs:List Str}
seal PS PSs PE PA PT PW PI PG PGs PC
abbrev nMa:List Str:=["_law_purse_here","_law_name","_law_signs_here","_law_many","_law_names_here","_law_boxes","_law_queues","_law_firsts","_law_draws","_law_k","_law_hears","_law_sign"]
abbrev pMa:List Str:=["_law_purse_here","_law_name","_law_signs_here","_law_many"]
theorem vP:bU nMa pMa (aS jj):=fK
theorem ndMa:((["_law_box"]:List Str)++nMa).Nodup:=by decide +kernel
inductive Gw(sgs:List Str)(vs:List V)(H:Hp)(Q:VK)(_e:XK):Prop where
 |mk(p ls:ab)(nm:Str)(m:Int)(_:vs=[.ref p,.str nm,.ref ls,.int m])(_:dM H p)(_:H ls=Z8 (.l (sgs.map V.str)))(_:0<sgs.length)(_:sgs.length<=9)(_:0<m)(_:m<1000)(_:∀(t:ab) (H':Hp) (bs qs:List Str) (ds:List Int) (hs:List (Str×Ds)) (ps:List (Str×Int)),Mch m H H' t nm bs qs ds hs ps->dM H' p->But p H H'->Q (.ref t) H'):Gw sgs vs H Q _e
def IP(sgs:List Str):Sp:=fun vs H Q Z=>Gw sgs vs H Q Z
theorem AZ{K:ag}{a:ab}{xs:List V}{n i:Nat}{g:TG}{tc:_L.TT}{te:TE}{σ:St}{H:Hp}{Q:VK}(hv:σ[i]?=Z8 (Z8 (.ref a)))(hx:SqL K H a xs)(Y:Nat->List V->Hp->Prop)(h0:Y 0 [] H)(U:∀i ys H,i<=xs.length->Y i ys H->SqL K H a xs/\ys.length<aF)
  (hs:∀i x ys H,xs[i]?=Z8 x->Y i ys H->g x (aQ n Z7++σ) H fun Z H2=>Z.drop n=σ/\tc Z H2 fun b X=>if b=true then te Z X fun y O=>Y (i+1) (ys++[y]) O else Y (i+1) ys X)
  (W:∀ys H,Y xs.length ys H->∀p,H p=Z7->Q (.ref p) (upd H p (.l ys))):m5 n (wN K (lV i)) g tc te σ H Q:=
 {.ref a,hv,a,Z9,⟨xs,hx⟩,lZ Y h0 U hs W}
theorem yP{Z:List Str}{i:Nat}{x:V}(h:(Z.map V.str)[i]?=Z8 x):∃nm,Z[i]?=Z8 nm/\x=V.str nm/\i<Z.length/\Z.take (i+1)=Z.take i++[nm]:=by
 rw[bD]at h
 cases e:Z[i]? with
 |none=>
  rw[e]at h
  cases h
 |some nm=>
  rw[e]at h;injection h with h;subst h;exact{nm,Z9,Z9,(ay.mp e).1,by rw[eJ,e];rfl}
theorem ok_ma(D:Df K mg "_law_machine" jj pMa f fd)(DN:Df K mg "_law_names" kr ["_law_purse_here","_law_many"] fN fdN)(DS:Df K mg "_law_deeds" jF pDe fS fdS)(GS:∀bs qs,bO P w K mg base CX0 17 fS fdS pDe (CT bs qs sgs 5))(DD:Df K mg "_law_draw" eE ["_law_purse_here","_law_out_of"] fD fdD)(B:Bl mg) :
  bO P w K mg base CX0 18 f fd pMa (IP sgs):=by
 have GD:bO P w K mg base CX0 1 fD fdD ["_law_purse_here","_law_out_of"] jM:=jN DD;have GN:bO P w K mg base CX0 2 fN fdN ["_law_purse_here","_law_many"] vO:=xp DN DD B;have GS:bO P w K mg base CX0 17 fS fdS pDe (fun vs H Q E=>∃bs qs,CT bs qs sgs 5 vs H Q E):=⟨fun vs H Q E h=>by
  obtain⟨bs,qs,p,lb,I,ls,lf,m,d,rfl,_⟩:=h;rfl,fun A outer s H ar us vs Q E hr he hb hv h=>by
  obtain⟨bs,qs,h⟩:=h;exact (GS bs qs).run A outer s H ar us vs Q E hr he hb hv h⟩
 refine D.F.ok vP (fun vs H Q E h=>?_) (fun ho A outer s H vs Q E hr h=>?_)
 ·obtain⟨p,ls,nm,m,rfl,_⟩:=h;rfl
 obtain⟨p,ls,nm,m,rfl,pu,lc,hE,js,m0,m1,k⟩:=h;have r1:dC 1 _:=hr.mono (by decide);have r2:dC 2 _:=hr.mono (by decide);refine⟨_,ax (pst 4 vP (pcl GN r2 DN (aT (pv 0) (cR au ao))))
  (ax (pst 5 vP (lX qb (pv 4) rC (lJ (pcl GD r1 DD (aT (pv 0) (jA (bJ bN (dv (cR au (cR au (cR au ao)))) (pcl GD r1 DD (aT (pv 0) (cR au ao)))) ao))))))
  (ax (pst 6 vP (lX qb (pv 4) (lJ au) (lJ (cV il au (pcl GD r1 DD (aT (pv 0) (jA (bJ bN (dv (cR au (cR au ao))) (pcl GD r1 DD (aT (pv 0) (cR au ao)))) ao)))))))
  (ax (rG (i:=7) ["_law_box"] (fq.open (NN:=nMa) (N:=nMa) (sc:=aS jj) rfl rfl (by decide +kernel) rfl (by decide +kernel) (by decide +kernel) rfl (by decide +kernel)) rfl vP.nd rfl (Or.inl rfl) (eM (pv 5)) (fun _ _ _ _=>eZ (i:=0) ndMa rfl (Or.inl rfl)) (fun _ _ _ _=>gP) (fun _ _ _ _=>dR (aT (pv 0) (mU (cV jX (pcl GD r1 DD (aT (pv 1) (cR au ao))) au) ao))))
  (ax (pst 8 vP (dv ao))
  (ax (e9 bB rfl (gG (by rfl) B.range (ie (pcl GD r1 DD (aT (pv 0) (jA (bJ bN (dv (cR au (cR au (cR au ao)))) (pcl GD r1 DD (aT (pv 0) (cR au ao)))) ao))) ao)) (pgn 9 vP) (aJ (eL (kh bE bZ cg fZ (pv 8) (jA (bJ bN (dv (ie (pcl GD r1 DD (aT (pv 0) (cR au ao))) (ie (pcl GD r1 DD (aT (pv 0) (mU (cV il (cV pA au au) au) ao))) ao))) (pcl GD r1 DD (aT (pv 0) (cR au ao)))) ao)))))
  (ax (pst 10 vP (dv ao))
  (ax (e9 bB rfl (eM (lX qb (pv 2) rC (lJ (pcl GD r1 DD (aT (pv 0) (mU (cV il (cK (dH K (by rfl)) (by rfl) B.len bV (aT (pv 2) ao)) au) ao)))))) (pgn 11 vP) (aJ (eL (kh bE bZ cg fZ (pv 10) (j3 (dR (aT (pv 11) (ie (pcl GS hr DS (aT (pv 0) (aT (pv 5) (aT (pv 6) (aT (pv 2) (aT (pv 3) (yM (dv (cR au ao)) (cR au ao)))))))) ao))) ao) (hs:=jO)))))
  (aJ (bT (dR (aT (pv 1) (aT (pv 7) (aT (pv 6) (aT (pv 8) (aT (pv 10) ao))))))))))))))),?_⟩
 dsimp only[cxA,cxB];have big:=ef;have Y:∀{G:Hp} {a:ab},dM G p->G a=Z7->a≠p:=fun {G a} h n=>by
  obtain⟨x,y,e⟩:=h;exact (aC e n).symm
 refine dO (cS ?_);refine{_,Z9,p,9,Z9,pu,by decide,by decide,fun ln ss G1 hM ly hg lx kt b1=>?_};refine bK ?_;dsimp only;have mu:=Y pu hM;refine dO (cS ?_);refine{_,Z9,dr2 (K:=K) (ks:=[4,4,7]) (p:=p) rfl (by decide) (by decide) (by decide) rfl kt fun ra G2 gS hc lu b2=>{ra,Z9,ln,_,Z9,SqL.of (b2 _ _ ly mu),fun lb mL=>?_}};obtain⟨bs,la,gw⟩:=sN ss Z7 (Z8 ra);have kb:bs.Nodup:=Cv la lx;rw[la];have s2:=az mL (.l (bs.map V.str));have g:=Y lu mL;refine bK ?_;dsimp only;refine dO (cS ?_);refine{_,Z9,6,Z9,dr2 (K:=K) (ks:=[2,4]) (p:=p) rfl (by decide) (by decide) (by decide) rfl (lu.same s2) fun rb G3 hf hu mb b3=>{_,_,Z9,Z9,_,Z9,ln,_,Z9,SqL.of (b3 _ _ (s2 _ _ (b2 _ _ ly mu)) mu),fun I mH=>?_}};obtain⟨qs,lp,gv⟩:=sN ss (Z8 6) (Z8 (6+rb));have kn:qs.Nodup:=Cv lp lx;rw[lp];have s3:=az mH (.l (qs.map V.str));have nt:=Y mb mH;refine bK ?_;dsimp only;have W:=s3 _ _ (b3 _ _ (ai:upd G2 lb (.l (bs.map V.str)) lb=_) g);have nD:=(ai:upd G3 I (.l (qs.map V.str)) I=_);have nw:But p H (upd G3 I (.l (qs.map V.str))):=((((b1.trans b2).same s2).trans b3).same s3);have nE:=mb.same s3;have gq:H lb=Z7:=by
  cases e:H lb with
  |none=>rfl
  |some o=>
   rw[(b1.trans b2) lb o e g]at mL
   cases mL
 have hR:H I=Z7:=by
  cases e:H I with
  |none=>rfl
  |some o=>
   rw[(((b1.trans b2).same s2).trans b3) I o e nt]at mH
   cases mH
 revert W nD nw nE;clear s3;generalize upd G3 I (.l (qs.map V.str))=G4;intro W nD nw nE;have ns:ls≠p:=gR pu lc;have mD:=nw _ _ lc ns;refine dO (cS ?_);refine AZ (K:=K) (a:=lb) (xs:=bs.map V.str) rfl (SqL.of W) (fun i ys G=>ys.length=i/\dM G p/\But p G4 G/\∃ps:List (Str×Int),ps.map (·.1)=bs.take i/\(∀q∈ps,-4<=q.2/\q.2<=4)/\fe G ps ys) {Z9,nE,But.refl _ _,[],Z9,(fun q hq=>by cases hq),.nil} ?_ ?_ ?_
 ·rintro i ys G hi ⟨h1,h2,h3,_⟩;rw[ak]at hi;exact{SqL.of (h3 _ _ W g),by omega}
 ·rintro i x ys G hi ⟨h1,h2,h3,ps,h5,h6,h7⟩;obtain⟨y,hy,rfl,lt,tk⟩:=yP hi;refine{Z9,?_};unfold qe;refine iq ?_;refine{_,Z9,_,Z9,p,9,Z9,h2,by decide,by decide,fun r G' r0 gt jl b'=>{_,_,Z9,Z9,lt2,fun t ht=>?_}};have Z:=az ht (.t [.str y,.int (r-4)]);refine{by rw[aL,h1];rfl,jl.same Z,(h3.trans b').same Z,ps++[(y,r-4)],?_,fun q hq=>?_,?_}
  ·rw[cq,h5,tk];rfl
  ·rcases cj.mp hq with z|z
   ·exact h6 q z
   ·rw[aH.mp z];exact{by show -4<=r-4;omega,by show r-4<=4;omega}
  ·exact fe.snoc (fe.tups (fun a xs e=>Z _ _ ((eG.but h2 b') _ _ e (pG xs))) h7) ai
 rintro vb G5 ⟨h1,mq,b5,ps,h5,h6,bx⟩ bl nj;rw[ak,eX]at h5;have s5:=az nj (.l vb);have mM:=Y mq nj;refine bK ?_;dsimp only;have nq:But p G4 (upd G5 bl (.l vb)):=b5.same s5;refine genH (P:=fun G=>dM G p/\But p H G/\G bl=Z8 (.l vb)/\fe G ps vb/\G lb=Z8 (.l (bs.map V.str))/\G I=Z8 (.l (qs.map V.str))/\G ls=Z8 (.l (sgs.map V.str))) {mq.same s5,nw.trans nq,ai,fe.same s5 bx,nq _ _ W g,nq _ _ nD nt,nq _ _ mD ns} fun G6 hB=>?_;obtain⟨mo,lv,lg,hC,lr,lP,le⟩:=hB;have ko:H bl=Z7:=by
  cases e:H bl with
  |none=>rfl
  |some o=>
   rw[(nw.trans b5) bl o e mM]at nj
   cases nj
 clear nq s5 nj mq b5 mD W nD nw nE bx;refine dO (cS ?_);refine{aO _,fun dl nr=>?_};have s6:=az nr (.l []);have nu:=Y mo nr;have hY:H dl=Z7:=by
  cases e:H dl with
  |none=>rfl
  |some o=>
   rw[lv dl o e nu]at nr
   cases nr
 refine bK ?_;dsimp only;refine dO ?_;have kq:BL 10 15:={by decide,by decide,by decide};refine dr2 (K:=K) (ks:=[4,4,21]) (p:=p) rfl (by decide) (by decide) (by decide) rfl (mo.same s6) fun rc G7 gz hm hA b7=>⟨rc,Z9,by omega,by omega,kW (n:=rc.toNat) (fun i σ G=>∃(ds:List Int) (v9:Option V),σ=[Z8 (.ref p),Z8 (.str nm),Z8 (.ref ls),Z8 (.int m),Z8 (.ref ln),Z8 (.ref lb),Z8 (.ref I),Z8 (.ref bl),Z8 (.ref dl),v9,Z7,Z7]/\G dl=Z8 (.l (ds.map V.int))/\ds.length=i/\i<=rc.toNat/\dM G p/\Kp [p,dl] G6 G)
  {[],_,Z9,b7 _ _ ai nu,Z9,aO _,hA,fun b o e nb=>b7 _ _ (s6 _ _ e) (fun z=>nb (by rw[z];exact aU))} ?_ ?_⟩
 ·rintro i σ G hi ⟨ds,v9,rfl,hd,ld,li,nA,kG⟩;refine{_,Z9,.inl {Z9,_,SqL.of hd},_,Z9,p,10,Z9,nA,by decide,by decide,fun a1 Ga a10 a11 ku ba=>{_,Z9,_,_,Z9,Z9,kq,_,_,Z9,Z9,p,_,Z9,ku,by decide,by decide,fun a2 Gb a20 a21 kF bb=>{lt2,fun l2 mN=>?_}}};have lm:=az mN (.l [.int a1,.int a2]);have im:=Y kF mN;refine{_,Z9,p,2,Z9,kF.same lm,by decide,by decide,fun a3 Gc a30 a31 hL bc=>?_};obtain⟨av,hI⟩:∃av:Int,atI [V.int a1,.int a2] a3=Z8 (.int av):=by
   obtain⟨j,rfl⟩:∃j:Nat,a3=(j:Int):={a3.toNat,by omega}
   match j,a31 with
   |0,_=>exact⟨a1,Z9⟩
   |1,_=>exact⟨a2,Z9⟩
   |j+2,h=>exact Q7 h (by omega)
  have kv:But p G Gc:=((ba.trans bb).same lm).trans bc;refine{l2,_,_,_,Z9,Z9,SqL.of (bc _ _ ai im),hI,dl,_,_,Z9,Z9,kv _ _ hd nu,by rw[ak];omega,?_};refine{ds++[av],_,Z9,by rw[cq];exact ai,by rw[aL,ld];rfl,by omega,?_,fun b o e nb=>?_}
  ·obtain⟨x,y,e⟩:=hL;exact{x,y,kP e nu.symm}
  ·exact kP (kv _ _ (kG b o e nb) (fun z=>nb (by rw[z];exact aU))) (fun z=>nb (by rw[z];exact bL _ aU))
 rintro σ G8 ⟨ds,v9,rfl,ky,ld,li,ml,k8⟩;dsimp only;have U:∀{a:ab} {o:HO},G6 a=Z8 o->a≠p->G8 a=Z8 o:=fun {a o} e n=>k8 a o e (fun z=>by
  rcases aD.mp z with z|z
  ·exact n z
  ·rw[aH.mp z,nr]at e
   cases e)
 have mE:=U lg mM;have hN:fe G8 ps vb:=fe.tups (fun a xs e=>U e (fun z=>by
  obtain⟨x,y,q⟩:=mo;rw[z,q]at e
  cases e)) hC
 have my:=U lr g;have mF:=U lP nt;have nB:=U le ns;have lM:But p H G8:=fun b o e n=>U (lv b o e n) n;refine dO (cS ?_);refine{aO _,fun X M=>?_};have s8:=az M (.l []);have nn:=Y ml M;have mc:H X=Z7:=by
  cases e:H X with
  |none=>rfl
  |some o=>
   rw[lM X o e nn]at M
   cases M
 refine bK ?_;dsimp only;refine dO ?_;refine{_,Z9,_,Z9,_,Z9,ls,_,Z9,.inl (SqL.of (s8 _ _ nB)),_,_,Z9,Z9,p,_,Z9,ml.same s8,by omega,by rw[ak];omega,fun rd G9 hp hn lw b9=>{rd,Z9,ls,_,Z9,SqL.of (b9 _ _ (s8 _ _ nB) ns),fun lz ms=>?_}};obtain⟨zs,io,hj⟩:=sN sgs Z7 (Z8 rd);rw[io];have s9:=az ms (.l (zs.map V.str));have L:∀{a:ab} {o:HO},G8 a=Z8 o->a≠p->upd G9 lz (.l (zs.map V.str)) a=Z8 o:=fun {a o} e n=>s9 _ _ (b9 _ _ (s8 _ _ e) n);have no:=L mE mM;have mS:=L my g;have nC:=L mF nt;have nl:=L nB ns;have md:=L ky nu;have J:upd G9 lz (.l (zs.map V.str)) X=Z8 (.l []):=s9 _ _ (b9 _ _ ai nn);have mx:fe (upd G9 lz (.l (zs.map V.str))) ps vb:=fe.tups (fun a xs e=>L e (fun z=>by
  obtain⟨x,y,q⟩:=ml;rw[z,q]at e
  cases e)) hN
 have mP:But p H (upd G9 lz (.l (zs.map V.str))):=fun b o e n=>L (lM b o e n) n;have nf:=lw.same s9;have mR:upd G9 lz (.l (zs.map V.str)) lz=Z8 (.l (zs.map V.str)):=ai;have kc:bl≠X:=aC mE M;have hQ:lb≠X:=aC my M;have ll:I≠X:=aC mF M;have hK:ls≠X:=aC nB M;have hx:dl≠X:=aC ky M;have ii:lz≠X:=(aC (b9 _ _ (ai:upd G8 X (.l []) X=_) nn) ms).symm;have ke:=Y lw ms;refine{lz,Z9,{_,SqL.of ai},?_};revert no mS nC nl md J mx mP nf mR;clear L;generalize upd G9 lz (.l (zs.map V.str))=C;intro no mS nC nl md J mx mP nf mR;refine pX (K:=K) (a:=lz) (xs:=zs.map V.str) (fun i σ G=>∃(hv:List V) (hs:List (Str×Ds)) (mG:Option V),σ=[Z8 (.ref p),Z8 (.str nm),Z8 (.ref ls),Z8 (.int m),Z8 (.ref ln),Z8 (.ref lb),Z8 (.ref I),Z8 (.ref bl),Z8 (.ref dl),v9,Z8 (.ref X),mG]/\G X=Z8 (.l hv)/\hv.length=i/\i<=zs.length/\bM (HsO bs qs C G) hv hs/\(∀q∈hs,q.2.toOk m/\q.2.deep<=4/\q.2.size<=3*ddz 4)/\dM G p/\Kp [p,X] C G)
  {[],[],_,Z9,J,Z9,aO _,.nil,(fun q hq=>by cases hq),nf,Kp.refl _ _} ?_ ?_ ?_
 ·rintro i σ G _ ⟨hv,hs,mG,rfl,h1,h2,h3,h4,h5,h6,h7⟩;exact SqL.of (h7 _ _ mR (by simp[ke,ii]))
 ·rintro i x σ G hi ⟨hv,hs,mG,rfl,hh,mt,jp,hP,hk,nA,kG⟩;obtain⟨y,hy,rfl,lt,tk⟩:=yP hi;refine{_,Z9,.inl {Z9,_,SqL.of hh},_,Z9,_,Z9,_,Z9,_,Z9,_,Z9,_,Z9,IA,fun lf mr=>?_};have sf:=az mr (.l [.int 7]);have L1:Lf (upd G lf (.l [.int 7])) p lf:={nA.same sf,7,ai};have N1:Nms (upd G lf (.l [.int 7])) lb I ls bs qs sgs:={sf _ _ (kG _ _ mS (by simp[g,hQ])),sf _ _ (kG _ _ nC (by simp[nt,ll])),sf _ _ (kG _ _ nl (by simp[ns,hK])),by omega,by omega,js,hE};have ma:=sf _ _ hh;have hO:X≠lf:=aC hh mr;refine{bs,qs,p,lb,I,ls,lf,m,4,Z9,by decide,L1,N1,m0,m1,fun l xs dd G2 fl mN hT O to dp sz hS k2=>{lt2,fun t ht=>?_}};have Z:=az ht (.t [.str y,.ref l]);have lj:=k2 _ _ ma (by simp[nn,hO]);refine{X,_,_,Z9,Z9,Z _ _ lj,by omega,?_};have ki:=(eG.same sf).trans ((k2.keepI L1.int).trans (eG.same Z));have lh:∀ys,upd G2 t (.t [.str y,.ref l]) X≠Z8 (.t ys):=fun ys z=>by
   rw[Z _ _ lj]at z
   cases z
  have hD:C X≠Z7:=by
   rw[J];intro z
   cases z
  have ik:upd G lf (.l [.int 7]) X≠Z7:=by
   rw[ma];intro z
   cases z
  have hH:Dm C (upd G lf (.l [.int 7])):=(kG.dm (fun a ha=>by
   rcases aD.mp ha with z|z
   ·obtain⟨x,y,q⟩:=nA;exact{_,by rw[z];exact q}
   ·exact{_,by rw[aH.mp z];exact hh})).trans (Dm.same sf)
  have new:HsO bs qs C (upd (upd G2 t (.t [.str y,.ref l])) X (.l (hv++[.ref t]))) (.ref t) (y,dd):=((show HsO bs qs (upd G lf (.l [.int 7])) (upd G2 t (.t [.str y,.ref l])) (.ref t) (y,dd) from{t,l,xs,Z9,ai,fl,Z _ _ mN,hT,O.keepI (eG.same Z)}).old ik lh).base hH;refine{hv++[.ref t],hs++[(y,dd)],_,Z9,ai,by rw[aL,mt];rfl,by omega,hU (Paired.mono (fun v q z=>(HsO.keepI ki z).old hD lh) hP) new,fun q hq=>?_,?_,?_}
  ·rcases cj.mp hq with z|z
   ·exact hk q z
   ·rw[aH.mp z];exact⟨to,dp,sz⟩
  ·obtain⟨x,y',e⟩:=hS.pu;exact{x,y',kP (Z _ _ e) nn.symm}
  ·intro b o e nb;have e1:=kG b o e nb;have ih:b≠lf:=aC e1 mr;have lk:¬b=p/\¬b=X:=by simpa using nb
   exact kP (Z _ _ (k2 _ _ (sf _ _ e1) (by simp[lk.1,ih]))) lk.2
 rintro σ G ⟨hv,hs,mG,rfl,hh,mt,jp,hP,hk,nA,kG⟩;dsimp only;have gp:=bQ hP;rw[ak]at mt;refine{_,Z9,_,Z9,_,Z9,_,Z9,_,Z9,by show 5<=aF;omega,fun t ht=>?_};have Z:=az ht (.t [.str nm,.ref bl,.ref I,.ref dl,.ref X]);have bG:But p H G:=fun b o e n=>kG _ _ (mP b o e n) (by
  have:b≠X:=aC e mc;simp[n,this])
 have hG:Dm H C:=fun a na=>by
  cases e:H a with
  |none=>rfl
  |some o=>
   by_cases c:a=p
   ·obtain⟨x,y,q⟩:=nf;rw[c,q]at na
    cases na
   ·rw[mP a o e c]at na
    cases na
 refine k t _ bs qs ds hs ps {{bl,I,dl,X,vb,hv,ai,Z _ _ (kG _ _ no (by simp[mM,kc])),fe.same Z (fe.tups (fun a xs e=>kG _ _ e (fun z=>?_)) mx),Z _ _ (kG _ _ nC (by simp[nt,ll])),Z _ _ (kG _ _ md (by simp[nu,hx])),Z _ _ hh,Paired.mono (fun v q z=>(HsO.keepI (eG.same Z) z).base hG) hP,ko,hR,hY,mc},h5,kb,kn,by omega,by omega,by omega,by omega,h6,hk} (nA.same Z) (bG.same Z)
 rcases aD.mp z with z|z
 ·obtain⟨x,y,q⟩:=nf;rw[z,q]at e
  cases e
 ·rw[aH.mp z,J]at e
  cases e
end
structure MD where
 nm:Str
 bs:List Str
 qs:List Str
 ds:List Int
 hs:List (Str×Ds)
 ps:List (Str×Int)
def MIn(m:Int)(H H':Hp)(v:V)(M:MD):Prop:=∃t,v=.ref t/\Mch m H H' t M.nm M.bs M.qs M.ds M.hs M.ps
theorem Mch.but{m:Int}{H H' H1:Hp}{t p:ab}{nm:Str}{bs qs:List Str}{ds:List Int}{hs:List (Str×Ds)}{ps:List (Str×Int)}(Z:dM H p)(O:dM H' p)(b:But p H' H1)(h:Mch m H H' t nm bs qs ds hs ps):Mch m H H1 t nm bs qs ds hs ps:=by
 have k:=eG.but O b;have np:∀{a:ab},H a=Z7->a≠p:=fun {a} e z=>by
  obtain⟨x,y,q⟩:=Z;rw[z,q]at e
  cases e
 refine Z0 fun Gz d=>?_;obtain⟨⟨bl,g,J,hl,vb,hv,h1,h2,h3,D,V,f,r,f1,Y,W,X⟩,M,nb,nq,I,lq,L,B,U,hk⟩:=h;exact d ({{bl,g,J,hl,vb,hv,k _ _ h1 (pG _),b _ _ h2 (np f1),fe.tups (fun a xs e=>k _ _ e (pG xs)) h3,b _ _ D (np Y),b _ _ V (np W),b _ _ f (np X),Paired.mono (fun v q z=>HsO.keepI k z) r,f1,Y,W,X},M,nb,nq,I,lq,L,B,U,hk})
theorem Mch.same{m:Int}{H H' H1:Hp}{t:ab}{nm:Str}{bs qs:List Str}{ds:List Int}{hs:List (Str×Ds)}{ps:List (Str×Int)}(b:cA H' H1)(h:Mch m H H' t nm bs qs ds hs ps):Mch m H H1 t nm bs qs ds hs ps:=by
 refine Z0 fun Gz B=>?_;obtain⟨⟨bl,I,V,hl,y,hv,h1,h2,h3,M,Z,D,J,f1,U,d,f⟩,X,r,nq,O,g,W,L,Y,hk⟩:=h;exact B ({{bl,I,V,hl,y,hv,b _ _ h1,b _ _ h2,fe.same b h3,b _ _ M,b _ _ Z,b _ _ D,Paired.mono (fun v q z=>HsO.keepI (eG.same b) z) J,f1,U,d,f},X,r,nq,O,g,W,L,Y,hk})
theorem Mch.base{m:Int}{H0 H H':Hp}{t:ab}{nm:Str}{bs qs:List Str}{ds:List Int}{hs:List (Str×Ds)}{ps:List (Str×Int)}(s:Dm H0 H)(h:Mch m H H' t nm bs qs ds hs ps):Mch m H0 H' t nm bs qs ds hs ps:=by
 refine Z0 fun Gz B=>?_;obtain⟨⟨bl,I,V,hl,y,hv,h1,h2,h3,M,Z,D,J,f1,U,d,f⟩,X,r,nq,O,g,W,L,Y,hk⟩:=h;exact B ({{bl,I,V,hl,y,hv,h1,h2,h3,M,Z,D,Paired.mono (fun v q z=>HsO.base z s) J,s _ f1,s _ U,s _ d,s _ f},X,r,nq,O,g,W,L,Y,hk})
theorem But.dm{p:ab}{H G:Hp}(b:But p H G)(Z:dM G p):Dm H G:=fun a n=>by
 cases e:H a with
 |none=>rfl
 |some o=>
  by_cases c:a=p
  ·obtain⟨x,y,q⟩:=Z;rw[c,q]at n
   cases n
  ·rw[b a o e c]at n
   cases n
section
variable{P:aP}{w:bF}{K:ag}{mg:Str->Option ae}{base:cz}{f fD fN fM:ab}{fd fdD fdN fdM:bS}
seal PS PSs PE PA PT PW PI PG PGs PC
abbrev nMo:List Str:=["_law_purse_here","_law_most","_law_many","_law_signs_here"]
abbrev pMo:List Str:=["_law_purse_here","_law_most"]
theorem IQ:bU nMo pMo (aS kx):=fK
theorem ndMo:((["_law_name"]:List Str)++nMo).Nodup:=by decide +kernel
inductive Gx(vs:List V)(H:Hp)(Q:VK)(_e:XK):Prop where
 |mk(p:ab)(n:Int)(_:vs=[.ref p,.int n])(_:dM H p)(_:0<n)(_:n<=9)(_:∀(l:ab) (xs:List V) (Ms:List MD) (H':Hp),H l=Z7->H' l=Z8 (.l xs)->bM (MIn Ms.length H H') xs Ms->0<Ms.length->(Ms.length:Int)<=n->(Ms.map MD.nm).Nodup->dM H' p->But p H H'->Q (.ref l) H'):Gx vs H Q _e
def spMo:Sp:=fun vs H Q Z=>Gx vs H Q Z
theorem ok_mo(D:Df K mg "_law_model" kx pMo f fd)(DN:Df K mg "_law_names" kr ["_law_purse_here","_law_many"] fN fdN)(DM:Df K mg "_law_machine" jj pMa fM fdM)(GM:∀sgs,bO P w K mg base CX0 18 fM fdM pMa (IP sgs))(DD:Df K mg "_law_draw" eE ["_law_purse_here","_law_out_of"] fD fdD)(B:Bl mg) :
  bO P w K mg base CX0 19 f fd pMo spMo:=by
 have GD:bO P w K mg base CX0 1 fD fdD ["_law_purse_here","_law_out_of"] jM:=jN DD;have GN:bO P w K mg base CX0 2 fN fdN ["_law_purse_here","_law_many"] vO:=xp DN DD B;have GM:bO P w K mg base CX0 18 fM fdM pMa (fun vs H Q E=>∃sgs,IP sgs vs H Q E):=⟨fun vs H Q E h=>by
  obtain⟨sgs,p,ls,nm,m,rfl,_⟩:=h;rfl,fun A outer s H ar us vs Q E g he hb hv h=>by
  obtain⟨sgs,h⟩:=h;exact (GM sgs).run A outer s H ar us vs Q E g he hb hv h⟩
 refine D.F.ok IQ (fun vs H Q E h=>?_) (fun cl A outer s H vs Q E g h=>?_)
 ·obtain⟨p,n,rfl,_⟩:=h;rfl
 obtain⟨p,n,rfl,pu,n0,n9,k⟩:=h;have r1:dC 1 _:=g.mono (by decide);have r2:dC 2 _:=g.mono (by decide);refine⟨_,ax (vo (i:=2) IQ.nd rfl (Or.inr rfl) (cV il au (pcl GD r1 DD (aT (pv 0) (aT (pv 1) ao)))))
  (ax (vo (i:=3) IQ.nd rfl (Or.inr rfl) (pcl GN r2 DN (aT (pv 0) (cR au ao))))
  (aJ (bT (ij ["_law_name"] (fq.open (NN:=nMo) (N:=nMo) (sc:=aS kx) rfl rfl (by decide +kernel) rfl (by decide +kernel) (by decide +kernel) rfl (by decide +kernel)) rfl (eM (pcl GN r2 DN (aT (pv 0) (aT (pv 2) ao)))) (fun _ _ _ _=>eZ (i:=0) ndMo rfl (Or.inl rfl)) (fun _ _ _ _=>gP) (fun _ _ _ _=>pcl GM g DM (aT (pv 1) (aT (pv 0) (aT (pv 4) (aT (pv 3) ao))))))))),?_⟩
 dsimp only[cxA,cxB];have big:=ef;refine dO (cS ?_);refine{_,Z9,_,Z9,p,n,Z9,pu,n0,by omega,fun r G1 r0 r1 db b1=>{_,_,Z9,Z9,?_}};refine bK ?_;dsimp only;refine dO (cS ?_);refine{_,Z9,p,4,Z9,db,by decide,by decide,fun ls sgs G2 co O cr cp X b2=>?_};refine bK ?_;dsimp only;refine{_,Z9,_,Z9,p,1+r,Z9,X,by omega,by omega,fun ln ss G3 cn Y cu dc L b3=>{ln,Z9,{_,SqL.of Y},?_}};have cx:=gR L Y;have d:=gR X O;have de:=b3 _ _ O d;have W:But p H G3:=(b1.trans b2).trans b3;have cs:ss.length<=9:=by omega
 refine lZ (K:=K) (a:=ln) (xs:=ss.map V.str) (fun i ys G=>ys.length=i/\dM G p/\But p G3 G/\∃Z:List MD,Z.map MD.nm=ss.take i/\bM (MIn (1+r) H G) ys Z) {Z9,L,But.refl _ _,[],Z9,.nil} ?_ ?_ ?_
 ·rintro i ys G hi ⟨h1,h2,h3,_⟩;rw[ak]at hi;exact{SqL.of (h3 _ _ Y cx),by omega}
 ·rintro i x ys G hi ⟨h1,h2,h3,Z,U,h6⟩;obtain⟨y,hy,rfl,lt,tk⟩:=yP hi;refine{Z9,?_};unfold qe;refine iq ?_;refine{_,Z9,_,Z9,_,Z9,_,Z9,sgs,p,ls,y,1+r,Z9,h2,h3 _ _ de d,by omega,by omega,by omega,by omega,fun t G' bs qs ds hs ps M dd b'=>?_};have da:But p H G:=W.trans h3;refine{by rw[aL,h1];rfl,dd,h3.trans b',Z++[⟨y,bs,qs,ds,hs,ps⟩],?_,?_}
  ·rw[cq,U,tk];rfl
  ·refine hU (Paired.mono (fun v q z=>?_) h6) {t,Z9,M.base (da.dm h2)};obtain⟨t',e,z⟩:=z;exact{t',e,z.but pu h2 b'}
 rintro ys G ⟨h1,I,b4,Z,U,h6⟩ l hl;rw[ak,eX]at U;rw[ak]at h1;have lM:Z.length=ss.length:=by rw[<- U,ak]
 have s5:=az hl (.l ys);have J:But p H G:=W.trans b4;refine k l ys Z _ (J.dm I l hl) ai ?_ (by omega) (by omega) (by rw[U];exact dc) (I.same s5) (J.same s5);rw[show ((Z.length:Nat):Int)=1+r from by omega];exact Paired.mono (fun v q z=>by
  obtain⟨t',e,z⟩:=z;exact{t',e,z.same s5}) h6
end
def Hrd(H:Hp)(x:V):Prop:=∃(t Z:ab) (a b c d:V) (hv:List V),x=.ref t/\H t=Z8 (.t [a,b,c,d,.ref Z])/\H Z=Z8 (.l hv)/\hv.length<=9/\∀v∈hv,∃u s d,v=.ref u/\H u=Z8 (.t [.str s,d])
theorem Hrd.same{H H':Hp}{x:V}(s:cA H H')(h:Hrd H x):Hrd H' x:=by
 obtain⟨t,X,a,b,c,d,hv,e,h1,h2,Z,Y⟩:=h;refine{t,X,a,b,c,d,hv,e,s _ _ h1,s _ _ h2,Z,fun v hv=>?_};obtain⟨u,y,z,e,W⟩:=Y v hv;exact{u,y,z,e,s _ _ W}
theorem Mch.hrd{m:Int}{H H':Hp}{t:ab}{nm:Str}{bs qs:List Str}{ds:List Int}{hs:List (Str×Ds)}{ps:List (Str×Int)}(h:Mch m H H' t nm bs qs ds hs ps):Hrd H' (.ref t):=by
 obtain⟨⟨bl,y,J,W,r,hv,h1,h2,h3,B,U,X,Y,f1,I,f3,d⟩,M,g,nq,D,f,L,Z,O,hk⟩:=h;refine{t,W,_,_,_,_,hv,Z9,h1,X,by rw[bQ Y];exact Z,fun v m=>?_};obtain⟨q,z⟩:∃q,HsO bs qs H H' v q:=by
  clear X Z hk
  induction Y with
  |nil=>cases m
  |cons a _ V=>
   rcases aD.mp m with z|z
   ·exact{_,by rw[z];exact a}
   ·exact V z
 obtain⟨t',l,xs,e,h1,_⟩:=z;exact{t',_,_,e,h1}
theorem Gy(a b:Int)(k:Bool):atI [V.int a,.int b] (if k=true then 1 else 0)=Z8 (.int (if k=true then b else a)):=by
 cases k<;>rfl
theorem zZ{P:Int->Prop}{a b:Int}(k:Bool)(ha:P a)(hb:P b):P (if k=true then b else a):=by
 cases k
 ·exact ha
 ·exact hb
theorem Fb{Z:List Str}{r:Int}(h0:0<=r)(h1:r<Z.length):∃s,atI (Z.map V.str) r=Z8 (.str s):=by
 obtain⟨j,rfl⟩:∃j:Nat,r=(j:Int):={r.toNat,by lia};exact{Z[j],cI (by rw[bD,aA (by lia)];rfl)}
theorem CZ{K:ag}{a t:ab}{xs X:List V}{c:Int}{n i:Nat}{g:TG}{tc:_L.TT}{te:TE}{σ:St}{H:Hp}{Q:VK}(hv:σ[i]?=Z8 (Z8 (.ref t)))(M:SqT K H t X)(W:atI X c=Z8 (.ref a))(hx:SqL K H a xs)(Y:Nat->List V->Hp->Prop)(h0:Y 0 [] H)(L:∀i ys H,i<=xs.length->Y i ys H->SqL K H a xs/\ys.length<aF)
  (hs:∀i x ys H,xs[i]?=Z8 x->Y i ys H->g x (aQ n Z7++σ) H fun Z H2=>Z.drop n=σ/\tc Z H2 fun b U=>if b=true then te Z U fun y J=>Y (i+1) (ys++[y]) J else Y (i+1) ys U)
  (O:∀ys H,Y xs.length ys H->∀p,H p=Z7->Q (.ref p) (upd H p (.l ys))):m5 n (wN K (tOp (EC K) (lV i) (tC (.int c)))) g tc te σ H Q:=
 {.ref t,hv,t,X,c,_,Z9,Z9,M,W,a,Z9,⟨xs,hx⟩,lZ Y h0 L hs O}
structure SgOk(m:Nat)(e:Ev):Prop where
 t:0<=e.t/\e.t<=1000000
 r:0<=e.r/\e.r<=9
 to:0<=e.to/\e.to<m
 a:-4<=e.a/\e.a<=4
 b:-1000000000000000<=e.b/\e.b<=1000000000000000
theorem mj.keepI{H H':Hp}(s:eG H H'){v:V}{e:Ev}(h:mj H v e):mj H' v e:=by
 obtain⟨t,z,h⟩:=h;exact{t,z,s _ _ h (pG _)}
section
variable{P:aP}{w:bF}{K:ag}{mg:Str->Option ae}{base:cz}{f fD:ab}{fd fdD:bS}
seal PS PSs PE PA PT PW PI PG PGs PC
abbrev nSg:List Str:=["_law_purse_here","_law_machines","_law_most","_law_found","_law_heard","_law_machine_here","_law_k","_law_time","_law_sign","_law_one","_law_other"]
abbrev nnSg:List Str:=["_law_purse_here","_law_machines","_law_most","_law_found","_law_heard","_law_machine_here","_law_k","_law_time","-","_law_one","_law_other"]
abbrev pSg:List Str:=["_law_purse_here","_law_machines","_law_most"]
theorem tW:bU nSg pSg (aS kz):=fK
theorem ndSg:(((["_law_sign","_law_deeds_here"]:List Str))++nnSg).Nodup:=by decide +kernel
inductive GA(vs:List V)(H:Hp)(Q:VK)(_e:XK):Prop where
 |mk(p lm:ab)(n:Int)(ms:List V)(_:vs=[.ref p,.ref lm,.int n])(_:dM H p)(_:H lm=Z8 (.l ms))(_:lm≠p)(_:(∀x∈ms,Hrd H x))(_:0<ms.length)(_:ms.length<=9)(_:0<=n)(_:n<=99)(_:∀(l:ab) (xs:List V) (es:List Ev) (H':Hp),H l=Z7->H' l=Z8 (.l xs)->bM (mj H') xs es->(es.length:Int)<=n->(∀e∈es,SgOk ms.length e)->dM H' p->But p H H'->Q (.ref l) H'):GA vs H Q _e
def spSg:Sp:=fun vs H Q Z=>GA vs H Q Z
theorem ok_sg(D:Df K mg "_law_signs" kz pSg f fd)(I:Df K mg "_law_draw" eE ["_law_purse_here","_law_out_of"] fD fdD)(B:Bl mg) :
  bO P w K mg base CX0 2 f fd pSg spSg:=by
 have r:bO P w K mg base CX0 1 fD fdD ["_law_purse_here","_law_out_of"] jM:=jN I;refine D.F.ok tW (fun vs H Q E h=>?_) (fun gl A outer s H vs Q E hr h=>?_)
 ·obtain⟨p,lm,n,ms,rfl,_⟩:=h;rfl
 obtain⟨p,lm,n,ms,rfl,pu,ke,ii,hH,m0,m9,n0,n9,k⟩:=h;have g:dC 1 _:=hr.mono (by decide);refine⟨_,ax (pst 3 tW (dv ao))
  (ax (pst 4 tW (dv (cR eO ao)))
  (ax (e9 bB rfl (eM (pv 1)) (pgn 5 tW) (aJ (pst 4 tW (cV sh (pv 4) (ij ["_law_sign","_law_deeds_here"] (fq.open (NN:=nnSg) (N:=nSg) (sc:=aS kz) rfl rfl (by decide +kernel) rfl (by decide +kernel) (by decide +kernel) rfl (by decide +kernel)) rfl (eM (bJ dX (pv 5) au)) (fun _ _ _ _=>zU (n:=2) K (by rfl) rfl (e7 (eZ (i:=0) ndSg rfl (Or.inl rfl)) (e7 (eZ (i:=1) ndSg rfl (Or.inl rfl)) kR))) (fun _ _ _ _=>gP) (fun _ _ _ _=>pv 0))))))
  (ax (e9 bB rfl (gG (by rfl) B.range (ie (pcl r g I (aT (pv 0) (mU (cV il (pv 2) au) ao))) ao)) (pgn 6 tW) (ax (pst 7 tW (bJ bN (dv (ie (pcl r g I (aT (pv 0) (cR au ao))) (ie (pcl r g I (aT (pv 0) (mU (cV il (cV pA au au) au) ao))) ao))) (i6 uo (by rfl) B.int boot_int (bH (pY iS (pcl r g I (aT (pv 0) (cR au ao))) au) ao))))
  (ax (pst 8 tW (bJ bN (pv 4) (pcl r g I (aT (pv 0) (ie (cK (dH K (by rfl)) (by rfl) B.len bV (aT (pv 4) ao)) ao)))))
  (ax (pst 9 tW (cV jX (pcl r g I (aT (pv 0) (cR au ao))) au))
  (ax (pst 10 tW (bJ bN (dv (cR au (mU (cV jX (pcl r g I (aT (pv 0) (mU (cV il (cV oa au (cV pA au au)) au) ao))) (cV pA au au)) ao))) (i6 uo (by rfl) B.int boot_int (bH (pY iS (pcl r g I (aT (pv 0) (cR au ao))) au) ao))))
  (aJ (eL (kh bE bZ cg fZ (pv 3) (j3 (dR (aT (pv 7) (ie (pcl r g I (aT (pv 0) (cR au ao))) (ie (pcl r g I (aT (pv 0) (ie (cK (dH K (by rfl)) (by rfl) B.len bV (aT (pv 1) ao)) ao))) (aT (pv 8) (aT (pv 9) (aT (pv 10) ao))))))) ao) (hs:=jO)))))))))
  (aJ (bT (pv 3)))))),?_⟩
 dsimp only[cxA,cxB];have big:=ef;have Y:∀{G:Hp} {a:ab},dM G p->G a=Z7->a≠p:=fun {G a} h n=>by
  obtain⟨x,y,e⟩:=h;exact (aC e n).symm
 refine dO (cS ?_);refine{aO _,fun U L=>?_};have s1:=az L (.l []);have kc:=Y pu L;refine bK ?_;dsimp only;refine dO (cS ?_);refine{IA,fun W J=>?_};have s2:=az J (.l [.str "none"]);have hE:=Y (pu.same s1) J;refine bK ?_;dsimp only;have X:=s2 _ _ (ai:upd H U (.l []) U=_);have O:upd (upd H U (.l [])) W (.l [.str "none"]) W=Z8 (.l [.str "none"]):=ai;have Z:=s1.trans s2;revert X O Z;clear s1 s2;generalize upd (upd H U (.l [])) W (.l [.str "none"])=G1;intro X O Z;refine dO ?_;refine{_,Z9,lm,Z9,{_,SqL.of (Z _ _ ke)},?_};refine pX (K:=K) (a:=lm) (xs:=ms) (fun i σ G=>∃(W:ab) (ss:List Str) (v5:Option V),σ=[Z8 (.ref p),Z8 (.ref lm),Z8 (.int n),Z8 (.ref U),Z8 (.ref W),v5,Z7,Z7,Z7,Z7,Z7]/\G W=Z8 (.l (ss.map V.str))/\W≠p/\W≠U/\0<ss.length/\ss.length<=1+9*i/\cA G1 G)
  {W,["none"],_,Z9,O,hE,(fun z=>by rw[z,ai]at J;cases J),by decide,by decide,fun _ _ e=>e} ?_ ?_ ?_
 ·rintro i σ G _ ⟨W,ss,v5,rfl,h1,h2,h3,h4,h5,M⟩;exact SqL.of (M _ _ (Z _ _ ke))
 ·rintro i x σ G hi ⟨W,ss,v5,rfl,h1,h2,h3,h4,h5,M⟩;have li:i<ms.length:=(ay.mp hi).1;obtain⟨t,hl,a,b,c,d,hv,rfl,ht,hI,lv,hu⟩:=(hH x (aK hi)).same (Z.trans M);refine bK ?_;dsimp only;refine cS ?_;refine{_,Z9,?_};refine CZ (K:=K) (a:=hl) (xs:=hv) rfl (SqT.of ht) rfl (SqL.of hI) (fun i ys G'=>G'=G/\∃zs:List Str,ys=zs.map V.str/\zs.length=i) {Z9,[],Z9,Z9} ?_ ?_ ?_
  ·rintro i ys G' hi ⟨rfl,zs,rfl,lz⟩;exact{SqL.of hI,by rw[ak];omega}
  ·rintro i y ys G' hi ⟨rfl,zs,rfl,lz⟩;obtain⟨u,sg,dd,rfl,hu⟩:=hu y (aK hi);refine{u,_,Z9,SqT.of hu,Z9,_,_,Z9,_,_,Z9,Z9,?_};refine{Z9,?_};unfold qe;refine iq ?_;exact{_,Z9,Z9,zs++[sg],by rw[cq];rfl,by rw[aL,lz];rfl}
  rintro ys G' ⟨rfl,zs,rfl,lz⟩ l gt;have s3:=az gt (.l (zs.map V.str));refine{W,l,_,_,Z9,Z9,s3 _ _ h1,ai,by rw[ak,ak];omega,fun q hq=>?_};have s4:=az hq (.l (ss.map V.str++zs.map V.str));have nq:q≠p:=Y (((pu.same Z).same M).same s3) hq;refine{q,ss++zs,_,Z9,by rw[cq];exact ai,nq,?_,by rw[aL];omega,by rw[aL];omega,(M.trans s3).trans s4};exact (aC (s3 _ _ (M _ _ X)) hq).symm
 rintro σ G2 ⟨W,ss,v5,rfl,h1,h2,h3,h4,h5,M⟩;dsimp only;have ho:=(pu.same Z).same M;have hS:=M _ _ (Z _ _ ke);have hM:=M _ _ X;have hg:cA H G2:=Z.trans M;have hd:lm≠U:=aC ke L;clear M X O Z J hE;have c6:BL 10 6:={by decide,by decide,by decide};have hY:BL 10 15:={by decide,by decide,by decide};refine dO ?_;refine⟨_,Z9,_,Z9,_,_,Z9,Z9,p,n+1,Z9,ho,by omega,by omega,fun rc G3 gd gg hx b3=>⟨rc,Z9,by omega,by omega,kW (n:=rc.toNat) (fun i σ G=>∃(xs:List V) (es:List Ev) (v6 v7 v8 v9 jp:Option V),σ=[Z8 (.ref p),Z8 (.ref lm),Z8 (.int n),Z8 (.ref U),Z8 (.ref W),v5,v6,v7,v8,v9,jp]/\G U=Z8 (.l xs)/\bM (mj G) xs es/\xs.length=i/\(∀e∈es,SgOk ms.length e)/\dM G p/\Kp [p,U] G2 G)
  {[],[],_,_,_,_,_,Z9,b3 _ _ hM kc,.nil,Z9,(fun e he=>by cases he),hx,Kp.but b3 aU} ?_ ?_⟩⟩
 ·rintro i σ G hi ⟨xs,es,v6,v7,v8,v9,jp,rfl,hf,hP,lx,jl,kn,kG⟩;have js:=kG _ _ h1 (by simp[h2,h3]);have hC:=kG _ _ hS (by simp[ii,hd]);refine bK ?_;dsimp only;refine dO (cS ?_);refine{_,Z9,p,6,Z9,kn,by decide,by decide,fun a1 Ga a10 a11 hy ba=>{_,Z9,_,_,Z9,Z9,c6,_,_,Z9,Z9,p,_,Z9,hy,by decide,by decide,fun a2 Gb a20 a21 hG bb=>{lt2,fun l2 hT=>?_}}};have hR:=az hT (.l [.int a1,.int a2]);have hn:=Y hG hT;refine{_,Z9,p,9,Z9,hG.same hR,by decide,by decide,fun a3 Gc a30 a31 gz bc=>{Z9,.inr {_,Z9,l2,_,_,_,Z9,Z9,SqL.of (bc _ _ ai hn),Gy a1 a2 _,?_}}};have tI:=fun k:Bool=>zZ (P:=fun t=>0<=t/\t<=1000000) k {a10,by omega} ⟨a20,by
   have:a2<1000001:=a21;omega⟩
  refine bK ?_;dsimp only;have io:=tI (decide (V.int a3=V.int 1));revert io;generalize (if decide (V.int a3=V.int 1)=true then a2 else a1)=tm;intro io;have ih:But p G Gc:=((ba.trans bb).same hR).trans bc;refine dO (cS ?_);refine{_,Z9,_,Z9,_,Z9,W,_,Z9,.inl (SqL.of (ih _ _ js h2)),p,_,Z9,gz,by rw[ak];omega,by rw[ak];omega,fun r4 Gd hj hL ha bd=>?_};rw[ak]at hL;obtain⟨sg,hm⟩:=Fb hj hL;refine{W,_,_,_,Z9,Z9,SqL.of (bd _ _ (ih _ _ js h2) h2),hm,?_};refine bK ?_;dsimp only;refine dO (cS ?_);refine{_,Z9,p,9,Z9,ha,by decide,by decide,fun r5 Ge gn gh hk be=>{_,_,Z9,Z9,?_}};refine bK ?_;dsimp only;refine dO (cS ?_);refine{_,Z9,_,_,Z9,Z9,hY,_,_,Z9,Z9,.inl {by decide,by decide},_,_,Z9,Z9,?_};refine{p,_,Z9,hk,by decide,by decide,fun r6 Gf ge hb hQ bf=>{_,_,Z9,Z9,hY,_,_,Z9,Z9,lt2,fun l3 hN=>?_}};have hB:=az hN (.l [.int 0,.int (r6-10^(15:Int).toNat)]);have hc:=Y hQ hN;refine{_,Z9,p,9,Z9,hQ.same hB,by decide,by decide,fun r7 Gg gq gp gw bg=>{Z9,.inr {_,Z9,l3,_,_,_,Z9,Z9,SqL.of (bg _ _ ai hc),Gy _ _ _,?_}}};have oI:=zZ (P:=fun t=>-1000000000000000<=t/\t<=1000000000000000) (decide (V.int r7=V.int 1)) (a:=0) (b:=r6-10^(15:Int).toNat) {by decide,by decide} (by
   have e1:r6<2000000000000001:=hb;have e2:(10:Int)^(15:Int).toNat=1000000000000000:=by decide
   rw[e2];exact{by omega,by omega})
  refine bK ?_;dsimp only;revert oI;generalize (if decide (V.int r7=V.int 1)=true then r6-10^(15:Int).toNat else 0)=ot;intro oI;have im:But p G Gg:=((((ih.trans bd).trans be).trans bf).same hB).trans bg;refine{_,Z9,.inl {Z9,_,SqL.of (im _ _ hf kc)},_,Z9,_,Z9,p,10,Z9,gw,by decide,by decide,fun rk Gh hp gf hA bh=>{_,Z9,_,Z9,lm,_,Z9,.inl (SqL.of (bh _ _ (im _ _ hC ii) ii)),p,_,Z9,hA,by omega,by omega,fun to Gi gS gv hh bi=>{_,Z9,_,Z9,_,Z9,by show 6<=aF;omega,fun t ht=>?_}}};have kb:=az ht (.t [.int tm,.int rk,.int to,.str sg,.int (r5-4),.int ot]);have ik:But p G Gi:=(im.trans bh).trans bi;have hD:=kb _ _ (ik _ _ hf kc);refine{U,_,_,Z9,Z9,hD,by omega,?_};have ki:eG G (upd Gi t (.t [.int tm,.int rk,.int to,.str sg,.int (r5-4),.int ot])):=(eG.but kn ik).trans (eG.same kb);have hK:∀{b:ab} {ys:List V},upd Gi t (.t [.int tm,.int rk,.int to,.str sg,.int (r5-4),.int ot]) b=Z8 (.t ys)->b≠U:=fun {b ys} e z=>by
   rw[z,hD]at e
   cases e
  refine{xs++[.ref t],es++[{tm,rk,0,0,to,sg,r5-4,ot}],_,_,_,_,_,Z9,ai,hU (Paired.mono (fun v q z=>?_) hP) {t,Z9,kP ai (hK ai)},by rw[aL,lx];rfl,fun e he=>?_,?_,?_}
  ·obtain⟨t',e,z⟩:=mj.keepI ki z;exact{t',e,kP z (hK z)}
  ·rcases cj.mp he with z|z
   ·exact jl e z
   ·rw[aH.mp z];exact{io,{hp,by show rk<=9;omega},⟨gS,gv⟩,{by show -4<=r5-4;omega,by show r5-4<=4;omega},oI}
  ·obtain⟨x,y,e⟩:=hh;exact{x,y,kP (kb _ _ e) kc.symm}
  ·intro b o e nb;have hO:¬b=p/\¬b=U:=by simpa using nb
   exact kP (kb _ _ (ik _ _ (kG b o e nb) hO.1)) hO.2
 ·rintro σ G ⟨xs,es,v6,v7,v8,v9,jp,rfl,hf,hP,lx,jl,kn,kG⟩;dsimp only;refine{_,Z9,?_};have lP:=bQ hP;exact k U xs es G L hf hP (by omega) jl kn fun b o e nb=>kG _ _ (hg _ _ e) (by
   have:b≠U:=aC e L;simp[nb,this])
end
theorem qq{H:Hp}:∀{ps:List (Str×Int)} {vs:List V},fe H ps vs->bM (fun v (x:Str)=>∃a n,v=.ref a/\H a=Z8 (.t [.str x,n])) vs (ps.map (·.1))
 | [],_,h=>by
  cases h;exact .nil
 |p::ps,_,h=>by
  cases h with
  |cons a b=>
   obtain⟨t,e,h⟩:=a;exact .cons {t,_,e,h} (qq b)
theorem lF{Z:Type}{R:V->Z->Prop}:∀{xs:List V} {Y:List Z},bM R xs Y->∀x∈xs,∃a∈Y,R x a
 |_,_,.nil,_,h=>by cases h
 |_,_,.cons a b,x,h=>by
  rcases aD.mp h with z|z
  ·exact{_,aU,by rw[z];exact a}
  ·obtain⟨c,hc,r⟩:=lF b x z;exact{c,bL _ hc,r}
def yQ(H:Hp)(v:V)(M:MD):Prop:=∃(t bl Y:ab) (U W X:V) (Z:List V),v=.ref t/\H t=Z8 (.t [U,.ref bl,.ref Y,W,X])/\H bl=Z8 (.l Z)/\fe H M.ps Z/\H Y=Z8 (.l (M.qs.map V.str))
structure MoI(m:Int)(H:Hp)(v:V)(M:MD):Prop where
 ma:yK M.bs M.qs M.ds M.hs H v
 fs:yQ H v M
 kb:M.ps.map (·.1)=M.bs
 nb:M.bs.Nodup
 nq:M.qs.Nodup
 lb:M.bs.length<=9
 lq:M.qs.length<=9
 ld:M.ds.length<=100
 lh:M.hs.length<=9
 wb:∀q∈M.ps,-4<=q.2/\q.2<=4
 hk:∀q∈M.hs,q.2.toOk m/\q.2.deep<=4/\q.2.size<=3*ddz 4
theorem yQ.same{H H':Hp}(s:cA H H'){v:V}{M:MD}(h:yQ H v M):yQ H' v M:=by
 obtain⟨t,bl,O,W,X,Y,Z,e,h1,h2,L,U⟩:=h;exact{t,bl,O,W,X,Y,Z,e,s _ _ h1,s _ _ h2,L.same s,s _ _ U}
theorem MoI.same{m:Int}{H H':Hp}(s:cA H H'){v:V}{M:MD}(h:MoI m H v M):MoI m H' v M:=
 {h.ma.same s,h.fs.same s,h.kb,h.nb,h.nq,h.lb,h.lq,h.ld,h.lh,h.wb,h.hk}
theorem MIn.moI{m:Int}{H H':Hp}{v:V}{M:MD}(h:MIn m H H' v M):MoI m H' v M:=by
 obtain⟨t,rfl,⟨bl,X,B,hl,W,hv,h1,h2,U,Y,O,d,f,f1,f2,f3,f4⟩,Z,nb,nq,r,lq,D,g,J,hk⟩:=h;refine{{t,bl,X,B,hl,_,W,hv,Z9,h1,h2,Z ▸ qq U,Y,O,d,Paired.mono (fun v q z=>?_) f},{t,bl,X,_,_,_,W,Z9,h1,h2,U,Y},Z,nb,nq,r,lq,D,g,J,hk};obtain⟨u,l,xs,e,y,g2,g3,L,I⟩:=z;exact{u,.ref l,e,y,l,xs,Z9,g3,L,I.now}
theorem MIn.tree{m:Int}{H H':Hp}{v:V}{M:MD}(h:MIn m H H' v M):Tree H' 28 v:=by
 obtain⟨t,rfl,⟨bl,ql,f,hl,vb,hv,h1,h2,Y,I,W,D,Z,f1,d,f3,f4⟩,L,nb,nq,lb,lq,g,lh,r,hk⟩:=h;have X:M.ps.length<=9:=by
  have:=congrArg jJ L;rw[ak]at this
  lia
 refine Tree.atup h1 (by show 5<1000;decide) fun y hy=>?_;simp at hy
 rcases hy with rfl|rfl|rfl|rfl|rfl
 ·exact Tree.scal (by exact trivial) _
 ·exact Tree.alst h2 (by rw[<- Y.length];lia) fun z hz=>Y.tree z hz
 ·refine Tree.alst I (by rw[ak];lia) fun z hz=>?_;obtain⟨x,_,rfl⟩:=bY.mp hz;exact Tree.scal (by exact trivial) _
 ·refine Tree.alst W (by rw[ak];lia) fun z hz=>?_;obtain⟨x,_,rfl⟩:=bY.mp hz;exact Tree.scal (by exact trivial) _
 ·refine Tree.alst D (by rw[bQ Z];lia) fun z hz=>?_;obtain⟨q,hq,u,l,xs,rfl,J,g2,B,U,O⟩:=lF Z z hz;refine Tree.atup J (by show 2<1000;decide) fun y hy=>?_;simp at hy
  rcases hy with rfl|rfl
  ·exact Tree.scal (by exact trivial) _
  ·exact Tree.alst B U fun z hz=>gN.tree q.2 xs 24 O.now (by have:=(hk q hq).2.1;lia) z hz
theorem yQ.alike{H H':Hp}{v U:V}{M:MD}(h:yQ H v M)(J:Alike H H' 28 v U):yQ H' U M:=by
 refine Z0 fun Gz q=>?_;obtain⟨t,bl,ql,n0,x3,x4,vb,rfl,h1,h2,h3,y⟩:=h;obtain⟨t',I,rfl,W,Z⟩:=qL h1 J;obtain⟨r,Y,rfl,a0,Z⟩:=dG Z;obtain⟨z1,Y,rfl,a1,Z⟩:=dG Z;obtain⟨z2,Y,rfl,a2,Z⟩:=dG Z;obtain⟨L,Y,rfl,a3,Z⟩:=dG Z;obtain⟨D,Y,rfl,a4,Z⟩:=dG Z;obtain rfl:=mi Z;obtain⟨f,X,rfl,g,d⟩:=mh h2 a1;obtain⟨B,vq,rfl,O,d2⟩:=mh y a2;refine q ?_;rw[i7 d2 (by intro x hx;obtain⟨z,_,rfl⟩:=bY.mp hx;exact trivial)]at O;exact{t',f,B,r,L,D,X,Z9,W,g,h3.alike d,O}
def xq(m:Int)(H:Hp)(Z:ab)(Y:List MD):Prop:=∃xs,H Z=Z8 (.l xs)/\bM (MoI m H) xs Y
theorem xq.same{m:Int}{H H':Hp}(s:cA H H'){Z:ab}{Y:List MD}(h:xq m H Z Y):xq m H' Z Y:=by
 obtain⟨xs,h1,h2⟩:=h;exact{xs,s _ _ h1,Paired.mono (fun _ _ z=>z.same s) h2}
theorem Fc{m:Int}{H0 H:Hp}{Z:ab}{xs:List V}{Y:List MD}(h:H Z=Z8 (.l xs))(p:bM (MIn m H0 H) xs Y)(l:Y.length<1000):Tree H 29 (.ref Z):=
 Tree.alst h ((bQ p) ▸ l) fun x hx=>by
  obtain⟨M,_,z⟩:=lF p x hx;exact z.tree
theorem Fd{m:Int}{H0 H H2:Hp}{X:ab}{xs:List V}{W:List MD}{Y:V}(h:H X=Z8 (.l xs))(p:bM (MIn m H0 H) xs W)(U:Alike H H2 29 (.ref X) Y):∃Z,Y=.ref Z/\xq m H2 Z W:=by
 obtain⟨Z,ys,rfl,h1,O⟩:=mh h U;refine{Z,Z9,ys,h1,oU (T:=Tree H 28) (fun v M Y a b c=>?_) p O fun x hx=>?_}
 ·have z:=a.moI;exact{z.ma.alike c b,z.fs.alike b,z.kb,z.nb,z.nq,z.lb,z.lq,z.ld,z.lh,z.wb,z.hk}
 ·obtain⟨M,_,z⟩:=lF p x hx;exact z.tree
end _M
namespace _L
open PySem PySem.Spec PyProof.Rows
section
variable{P:aP}{w:bF}{K:ag}
end
section
variable{X:Cx}{o:cH}{to:TE}{tg:cH}
end
def Itv(d:ab)(Z:Obj)(kvs:List (Key×V)):It:=
 {fun i H=>H d=Z8 (.frz Z (.dK kvs))/\i<kvs.length,fun i H x H'=>H'=H/\∃Y,kvs[i]?=Z8 Y/\x=Y.2,fun i H=>H d=Z8 (.frz Z (.dK kvs))/\kvs.length<=i}
section
variable{P:aP}{w:bF}{K:ag}
theorem A0{tg:cH}(d it:ab)(M:Obj)(kvs:List (Key×V))(Y:d≠it):tM P w K tg (Itv d M kvs) [it] it (fun i h=>h.IsValIter it d i kvs.length (qJ M)/\i<=kvs.length) where
 mem:=by simp
 obj:=fun i h st b hb=>by
  have e:b=it:=by simpa using hb
  subst e;obtain⟨⟨o,e,c,d⟩,_⟩:=st;exact{o,e,fun v z=>by rw[d]at z;cases z}
 keep:=fun i h h' st k=>{st.1.at fun o e=>k it (by simp) o e,st.2}
 item:=by
  intro X B hw q hc i pins s σ H E I O st J;subst B hw q;obtain⟨D,hi⟩:=J;obtain⟨vs,r,g⟩:=qK I D;have L:=r.length;have U:kvs[i]?=Z8 kvs[i]:=aA hi;obtain⟨u,hu,ru⟩:=r.at_ U;obtain⟨t,f1,f2,f3,f,y⟩:=O it (by simp);rw[L]at st;have W:=C0 (prog:=X.prog) (w:=X.w) (knd:=eF X.prog X.w) (I.ok.hd hc) it d Y vs (qJ M);refine W.item i s _ _ (by omega) ⟨st.1,g⟩ fun v h' tk hv Z kp=>?_;obtain⟨k',hv⟩:=hv;rw[hu]at hv
  cases hv;have I1:Inv X pins σ H {s with heap:=h',toks:=tk}:=I.turned (fun b o hb e=>kp b o (by simpa using hb) e) t f1 f3 f y;obtain⟨o,e,c,dd⟩:=id Z.1;exact{u,Z9,uj (s:={s with heap:=h',toks:=tk}) e c dd (by decide) {kvs[i].2,H,I1,ru,{Z9,_,U,Z9},{by rw[L];exact Z.1,hi},fun b hb=>(O b hb).1}}
 done:=by
  intro X B hw q hc i pins s σ H E I O st J;subst B hw q;obtain⟨D,hi⟩:=J;obtain⟨vs,r,g⟩:=qK I D;have L:=r.length;obtain⟨t,f1,f2,f3,f,y⟩:=O it (by simp);obtain rfl:i=kvs.length:=by have:=st.2;omega
  rw[L]at st;have W:=C0 (prog:=X.prog) (w:=X.w) (knd:=eF X.prog X.w) (I.ok.hd hc) it d Y vs (qJ M);exact W.done s _ _ ⟨st.1,g⟩ fun h' tk kp=>{Z9,I.turned (fun b o hb e=>kp b o (by simpa using hb) e) t f1 f3 f y}
 self:=fun _ _ _ _ _ st h=>Fe st.1 h
end
section
variable{X:Cx}{o:cH}{to:TE}{apos cpos:Pos}{tg:cH}
def GG(X:Cx)(to:TE):TI:=fun σ H R=>to σ H fun x H1=>∃d kvs,x=.ref d/\H1 d=Z8 (.dK kvs)/\(∀Y u,X.H₀ d≠Z8 (.frz Y u))/\∀Z,R (Itv d Z kvs) (upd H1 d (.frz Z (.dK kvs)))
theorem z5(z:PE X o to)(Z:gW o "values" X.env (eY o X.env)=eY o X.env:=by rfl)(Y:(apos.endLine==cpos.line)=true:=by rfl):PI X tg (.Call (.Attribute o "values" apos) [] [] cpos) (GG X to):=by
 intro pins s σ H R I h;refine iO Z Y (thn (z pins s σ H _ I h) fun v W ⟨x,H1,J,g,d,kvs,ex,L,nf,q⟩=>?_);subst ex
 cases g;obtain⟨hz,D,t,k1,U⟩:=(show gE X.prog X.w H1 W.heap d (.dK kvs) from J.hok d _ L);obtain⟨M,_,_,B,y,_⟩:=id U;refine{"dict","dict.values",ir,jn,tX,U.typeIs,fun a e=>?_,ff rfl (jf ?_)}
 ·cases e;exact⟨M,B,y.2.1⟩
 refine lY jn U.typeIs tJ (sO _) (meets_dict_values (eF X.prog X.w) d D) {⟨t,U⟩,?_};have I2:Inv X pins σ H1 {W with heap:=W.heap.push {cls:=.type "dict_values",data:=.fields #[.ref d]}}:=J.kept (t':=W.toks) fun b M q=>aq _ q;obtain⟨O,f,V⟩:=I2.freeze L nf;obtain⟨vs,r,da⟩:=qK V (ai:upd H1 d (.frz O (.dK kvs)) d=_);refine wpAny_pyIter_values {_,aE _ rfl,Z9,Z9} da ?_;have lt:=aI f;refine{_,[_],_,_,_,Z9,V.kept (t':=W.toks) fun b M q=>aq _ q,A0 d _ O kvs (aG lt),?_,fun b hb=>?_,q O}
 ·refine{?_,aO _};rw[r.length];exact{_,aE _ rfl,Z9,Z9}
 ·have e:b=_:=aH.mp hb;subst e;exact V.fpOk (aB _) (V.hok.fresh (aB _))
end
theorem C1{d:ab}{U:Obj}{kvs:List (Key×V)}{g:TG}{tb:TS}{D:jW}{σ:St}{H:Hp}(Z:Nat->St->Hp->Prop)(h0:Z 0 σ H)(I:∀i σ H,i<=kvs.length->Z i σ H->H d=Z8 (.frz U (.dK kvs)))
  (hs:∀i O σ H,kvs[i]?=Z8 O->Z i σ H->g O.2 σ H fun X H2=>tb {D with nx:=Z (i+1),ct:=Z (i+1),bk:=D.nx} X H2) (L:∀σ H,Z kvs.length σ H->D.nx σ H) :
  ∃W:Nat->Nat->St->Hp->Prop,(∃m,W 0 m σ H)/\∀i m σ H,W i m σ H ->
   ((Itv d U kvs).stop i H/\D.nx σ H)\/((Itv d U kvs).go i H/\∃N:St->Hp->Prop,(∀Y H',N Y H'->∃M,M<m/\W (i+1) M Y H')/\∀x H',(Itv d U kvs).yld i H x H'->g x σ H' fun X H2=>tb {D with nx:=N,ct:=N,bk:=D.nx} X H2):=by
 refine{fun i m σ H=>m=kvs.length-i/\i<=kvs.length/\Z i σ H,{kvs.length,by simp,aO _,h0},?_};rintro i m σ H ⟨rfl,hi,p⟩;have q:=I i σ H hi p
 by_cases lt:i<kvs.length
 ·refine .inr {⟨q,lt⟩,Z (i+1),fun Y H' J=>{kvs.length-(i+1),by omega,Z9,lt,J},fun x H' y=>?_};obtain⟨rfl,O,hk,rfl⟩:=y;exact hs i O σ H' hk p
 ·have e:i=kvs.length:=by omega
  subst e;exact .inl {{q,aB _},L σ H p}
theorem A1{d:ab}{O:Obj}{kvs:List (Key×V)}{n:Nat}{g:TG}{tc:TT}{te:TE}{σ:St}{H:Hp}{Q:VK}(Y:Nat->List V->Hp->Prop)(h0:Y 0 [] H)(B:∀i ys H,i<=kvs.length->Y i ys H->H d=Z8 (.frz O (.dK kvs))/\ys.length<aF)
  (hs:∀i M ys G,kvs[i]?=Z8 M->Y i ys G->g M.2 (aQ n Z7++σ) G fun Z H2=>Z.drop n=σ/\tc Z H2 fun b U=>if b=true then te Z U fun y L=>Y (i+1) (ys++[y]) L else Y (i+1) ys U)
  (I:∀ys G,Y kvs.length ys G->∀p,G p=Z7->Q (.ref p) (upd G p (.l ys))) :
  ∃W:Nat->Nat->List V->Hp->Prop,(∃m,W 0 m [] H)/\∀i m ys H,W i m ys H->ys.length<aF /\
   (((Itv d O kvs).stop i H/\∀p,H p=Z7->Q (.ref p) (upd H p (.l ys))) \/
    ((Itv d O kvs).go i H/\∃N:List V->Hp->Prop,(∀X H',N X H'->∃J,J<m/\W (i+1) J X H')/\∀x H',(Itv d O kvs).yld i H x H'->g x (aQ n Z7++σ) H' fun Z H2=>Z.drop n=σ/\tc Z H2 fun b U=>
     if b=true then te Z U fun y L=>N (ys++[y]) L else N ys U)):=by
 refine{fun i m ys H=>m=kvs.length-i/\i<=kvs.length/\Y i ys H,{kvs.length,by simp,aO _,h0},?_};rintro i m ys H ⟨rfl,hi,p⟩;have q:=B i ys H hi p;refine{q.2,?_}
 by_cases lt:i<kvs.length
 ·refine .inr {⟨q.1,lt⟩,Y (i+1),fun X H' D=>{kvs.length-(i+1),by omega,Z9,lt,D},fun x H' y=>?_};obtain⟨rfl,M,hk,rfl⟩:=y;exact hs i M ys H' hk p
 ·have e:i=kvs.length:=by omega
  subst e;exact .inl {{q.1,aB _},I ys H p}
end _L
namespace PySem
open Sem (wp)
section
variable{prog:aP}{w:bF}{A:cm}{E:ae->aj->Prop}{s:aj}
theorem kO.ty{d:ab}{es:Array gj}{ep:Nat}(x:kO s.heap d es ep):s.TypeIs (.ref d) "dict":=by
 obtain⟨o,a,b,_⟩:=x;exact⟨o,a,b.1⟩
theorem xr(d:ab)(Z:(d==gc)=false):MeetsIn prog w (fi.«dict.values» {[.ref d],[]}) (fun _ R s=>(∃es ep,kO s.heap d es ep)/\R (.ok (.ret (.ref s.heap.objs.size))) {s with heap:=s.heap.push {cls:=.type "dict_values",data:=.fields #[.ref d]}}):=
 .of_wp fun A R s ⟨⟨es,ep,Y⟩,h⟩=>aa (by
  unfold tY;refine aa (kX Y.ty (af (a:=d) (show aN _ _ (gA d >>= _) _ _ s from ?_)));unfold gA;rw[Q5 (fun z=>by rw[Z]at z;cases z)];exact aa (af (aa (cw (af {_,Z9,h})))))
theorem yR(d:ab)(Z:(d==gc)=false):MeetsIn prog w (fi.«dict.items» {[.ref d],[]}) (fun _ R s=>(∃es ep,kO s.heap d es ep)/\R (.ok (.ret (.ref s.heap.objs.size))) {s with heap:=s.heap.push {cls:=.type "dict_items",data:=.fields #[.ref d]}}):=
 .of_wp fun A R s ⟨⟨es,ep,Y⟩,h⟩=>by
  unfold fi.«dict.items» tY;refine aa (aa (kX Y.ty (af (a:=d) (show aN _ _ (gA d >>= _) _ _ s from ?_))));unfold gA;rw[Q5 (fun z=>by rw[Z]at z;cases z)];exact aa (af (aa (cw (af {_,Z9,h}))))
theorem yS{v d:ab}{es:Array gj}{ep:Nat}{Q:ae->aj->Prop}(hv:s.heap.IsValuesView v d)(V:kO s.heap d es ep)
  (q:Q (.ref s.heap.objs.size) {s with heap:=s.heap.push {cls:=.type "dict_valueiterator",data:=.fields #[.ref d,.int 0 0,.int es.size 0,.int ep 0]}}):aN (aW prog w) A (qA (.ref v)) Q E s:=by
 obtain⟨U,Y,W,Z⟩:=id hv;obtain⟨o,X,hc,hx⟩:=V;refine ft hv.typeIs F.slot_dict_values_iter (cy F.slot_dict_values_iter hv.typeIs F.entry_dict_values_iter ?_ (F.args_dict_values_iter_1 _));unfold fi.«dict_values.__iter__» o4 m7;refine aa (af (aa (aa (qO Y Z (x:=.ref d) rfl (af (aa (aa (fu X hx (aa (gK X hx ?_))))))))));simp only[show cZ "dict_valueiterator"=false by decide,dQ,if_false];refine cw (af {_,Z9,"dict_valueiterator",_,{_,aE _ rfl,Z9},F.slot_dict_valueiterator_next.lookup,?_});simpa[e8] using q
theorem yT{v d:ab}{es:Array gj}{ep:Nat}{Q:ae->aj->Prop}(hv:s.heap.IsItemsView v d)(V:kO s.heap d es ep)
  (q:Q (.ref s.heap.objs.size) {s with heap:=s.heap.push {cls:=.type "dict_itemiterator",data:=.fields #[.none,.bool false,.ref d,.int 0 0,.int es.size 0,.int ep 0,.none,.none]}}):aN (aW prog w) A (qA (.ref v)) Q E s:=by
 obtain⟨U,Y,W,Z⟩:=id hv;obtain⟨o,X,hc,hx⟩:=V;refine ft hv.typeIs F.slot_dict_items_iter (cy F.slot_dict_items_iter hv.typeIs F.entry_dict_items_iter ?_ (F.args_dict_items_iter_1 _));unfold fi.«dict_items.__iter__» o4 m7;refine aa (af (aa (aa (qO Y Z (x:=.ref d) rfl (af (aa (aa (fu X hx (aa (gK X hx ?_))))))))));simp only[show cZ "dict_itemiterator"=true by decide,if_true];refine cw (af {_,Z9,"dict_itemiterator",_,{_,aE _ rfl,Z9},F.slot_dict_itemiterator_next.lookup,?_}) (by simp only[sizeOk,lT,bj,aL,cY,cU,qC];omega);simpa[e8,lT] using q
theorem yU{I d:ab}{i ep:Nat}{es:Array gj}{e:gj}{Q:Option ae->aj->Prop}(Z:s.heap.IsValIter I d i es.size ep)(O:kO s.heap d es ep)(U:es[i]?=Z8 e)
  (q:∀h',h'.IsValIter I d (i+1) es.size ep->fX I s.heap h'->Q (Z8 e.val) {s with heap:=h'}):aN (aW prog w) A (fH (.ref I)) Q E s:=by
 obtain⟨M,X,W,Y⟩:=id Z;obtain⟨o,V,hc,hx⟩:=O;unfold fH;refine aa (gY (dA (name:=cN "__next__") Z.typeIs F.slot_dict_valueiterator_next (cy F.slot_dict_valueiterator_next Z.typeIs F.entry_dict_valueiterator_next ?_ (F.args_dict_valueiterator_next_1 _))));refine aa (af (aa (aa ?_)))
 first|refine aa (iV Z.typeIs (af ?_))|refine aa (jV Z.typeIs (af ?_))
 refine aa (gB X Y ?_);simp only[show cZ "dict_valueiterator"=false by decide,dQ,if_false];show aN _ _ (if (Value.ref d==Value.none)=true then _ else _) _ _ s;rw[Q5 (show ¬(Value.ref d==Value.none)=true from bz)];refine aa (af (aa (fu V hx ?_)));rw[Q5 (by simp)];refine aa (af (aa (gK V hx ?_)));rw[Q5 (by simp)];refine af ?_;simp only[show ¬((i:Int)<0) from by omega,if_false,dE,U];refine aa ?_
 first|refine aa (iV Z.typeIs (af ?_))|refine aa (jV Z.typeIs (af ?_))
 refine aa (qt Z.typeIs (show aN _ _ (qG (.ref I) 1 (e8 ((i:Int)+1)) >>= _) _ _ s from aa (gC X Y (by simp) ?_)));have next:(s.heap.update I (gQ (·.setIfInBounds 1 (e8 ((i:Int)+1))))).IsValIter I d (i+1) es.size ep:=
  {_,cC _ X (gZ (cW Y _)),(j0 ..).trans W,by rw[cW Y];simp[e8]}
 refine aa (c8 (aa (qt (s:={s with heap:=s.heap.update I (gQ (·.setIfInBounds 1 (e8 ((i:Int)+1))))}) next.typeIs (aa (qt (s:={s with heap:=s.heap.update I (gQ (·.setIfInBounds 1 (e8 ((i:Int)+1))))}) next.typeIs ?_)))));exact af (a:=e.val) (af {_,Z9,af (q _ next (c7 ..))})
theorem A2{I d:ab}{i ep:Nat}{es:Array gj}{Q:Option ae->aj->Prop}(U:A.handled=Z7)(Z:s.heap.IsValIter I d i es.size ep)(M:kO s.heap d es ep)(O:es[i]?=Z7)
  (q:∀h',jK I s.heap h'->Q Z7 {s with heap:=h'}):aN (aW prog w) A (fH (.ref I)) Q E s:=by
 obtain⟨L,X,V,Y⟩:=id Z;obtain⟨o,W,hc,hx⟩:=M;unfold fH;refine aa (gY (dA (name:=cN "__next__") Z.typeIs F.slot_dict_valueiterator_next (cy F.slot_dict_valueiterator_next Z.typeIs F.entry_dict_valueiterator_next ?_ (F.args_dict_valueiterator_next_1 _))));refine aa (af (aa (aa ?_)))
 first|refine aa (iV Z.typeIs (af ?_))|refine aa (jV Z.typeIs (af ?_))
 refine aa (gB X Y ?_);simp only[show cZ "dict_valueiterator"=false by decide,dQ,if_false];show aN _ _ (if (Value.ref d==Value.none)=true then _ else _) _ _ s;rw[Q5 (show ¬(Value.ref d==Value.none)=true from bz)];refine aa (af (aa (fu W hx ?_)));rw[Q5 (by simp)];refine aa (af (aa (gK W hx ?_)));rw[Q5 (by simp)];refine af ?_;simp only[show ¬((i:Int)<0) from by omega,if_false,dE,O];refine aa ?_
 first|refine aa (iV Z.typeIs (af ?_))|refine aa (jV Z.typeIs (af ?_))
 refine show aN _ _ (qG (.ref I) 0 .none >>= _) _ _ s from aa (gC X Y (by simp) (show aN _ _ (vJ (.type "StopIteration") [] >>= _) _ _ _ from aa ?_));simp only[vJ,EN];refine aa (cw (aa (m:=iQ _ _) (jy (a:=Value.none) (by first|rfl|(simp only[iQ];rfl)) (cw ?_ (by size_fits)))) (by size_fits));simp only[yD];refine aa (rH ?_);rw[show A.in1.handled=Z7 from U];refine aa (af (wB ?_));refine aa (k6 (T:="StopIteration") (b:=true) {_,aE _ rfl,Z9} qH ?_);exact af (q _ (((c7 ..).extBut.push _).push _))
theorem yV{I d:ab}{i ep:Nat}{es:Array gj}{e:gj}{ok V:ae}{Q:Option ae->aj->Prop}(Y:j1 s.heap I d i es.size ep ok V)(hm:kO s.heap d es ep)(he:es[i]?=Z8 e)
  (q:∀h',IsItemIterOut h' I d (i+1) es.size ep e.key e.val s.heap.objs.size->h'.get? s.heap.objs.size=Z8 {cls:=.type "tuple",data:=.seq #[e.key,e.val]}->(∀b o,b≠I->s.heap.get? b=Z8 o->h'.get? b=Z8 o)->Q (Z8 (.ref s.heap.objs.size)) {s with heap:=h'}):aN (aW prog w) A (fH (.ref I)) Q E s:=by
 obtain⟨hp,g,O,tk,M⟩:=s;obtain⟨o,y,hc,hx⟩:=hm;have X:uT ⟨hp,g,O,tk,M⟩ (.ref I) "dict_itemiterator":={_,Y,Z9};unfold fH;refine aa (gY (dA (name:=cN "__next__") X F.slot_dict_itemiterator_next (cy F.slot_dict_itemiterator_next X F.entry_dict_itemiterator_next ?_ (F.args_dict_itemiterator_next_1 _))));refine aa (af (aa (aa ?_)))
 first|refine aa (iR X (af ?_))|refine aa (jI X (af ?_))
 refine aa (gB Y rfl ?_);simp only[show cZ "dict_itemiterator"=true by decide,if_true];show aN _ _ (if (Value.ref d==Value.none)=true then _ else _) _ _ _;rw[Q5 (show ¬(Value.ref d==Value.none)=true from bz)];refine aa (af (aa (fu y hx ?_)));rw[Q5 (by simp)];refine aa (af (aa (gK y hx ?_)));rw[Q5 (by simp)];refine af ?_;simp only[show ¬((i:Int)<0) from by omega,if_false,dE,he];refine aa ?_
 first|refine aa (iR X (af ?_))|refine aa (jI X (af ?_))
 refine aa (pH X (show aN _ _ (qG (.ref I) 3 (e8 ((i:Int)+1)) >>= _) _ _ ⟨hp,g,O,tk,M⟩ from aa (j4 Y (by simp) fun Z e1 s1=>?_)));have t:Z.objs.size=hp.objs.size:=s1.1;have x1:∀b o,b≠I->hp.get? b=Z8 o->Z.get? b=Z8 o:=s1.extBut;have e1:j1 Z I d (i+1) es.size ep ok V:=by
  unfold j1;rw[show ((i+1:Nat):Int)=(i:Int)+1 by omega];simpa[e8] using e1
 have U:uT ⟨Z,g,O,tk,M⟩ (.ref I) "dict_itemiterator":={_,e1,Z9};refine aa (c8 (aa (pH U (aa (pH U (show aN _ _ (mv (.ref I) 6 e.key e.val) _ _ ⟨Z,g,O,tk,M⟩ from ?_))))));unfold mv;refine aa (yW ?_);have W:j1 (Z.push {cls:=.type "tuple",data:=.seq #[e.key,e.val]}) I d (i+1) es.size ep ok V:=aq _ e1;have D:(Z.push {cls:=.type "tuple",data:=.seq #[e.key,e.val]}).get? hp.objs.size=Z8 {cls:=.type "tuple",data:=.seq #[e.key,e.val]}:=by
  rw[<- t];exact aE _ rfl
 have J:∀b o,b≠I->hp.get? b=Z8 o->(Z.push {cls:=.type "tuple",data:=.seq #[e.key,e.val]}).get? b=Z8 o:=fun b o n z=>aq _ (x1 b o n z);have ni:hp.objs.size≠I:=gI (aI Y);show aN _ _ (lU (.ref I) >>= _) _ _ {Z.push _,g,O,tk,M};rw[t];revert W D J;generalize Z.push {cls:=.type "tuple",data:=.seq #[e.key,e.val]}=g2;intro W D J;unfold lU;refine aa (aa (qO W rfl (x:=.none) rfl (af ?_)));simp only[if_true];refine aa (qO W rfl (x:=ok) rfl (aa (qO W rfl (x:=V) rfl (aa (j4 W (by simp) fun g3 e3 s3=>?_)))));have e3:j1 g3 I d (i+1) es.size ep e.key V:=e3;refine aa (j4 e3 (by simp) fun g4 L s4=>?_);have L:j1 g4 I d (i+1) es.size ep e.key e.val:=L;refine aa (j4 L (by simp) fun g5 B s5=>?_);have B:IsItemIterOut g5 I d (i+1) es.size ep e.key e.val hp.objs.size:=B;refine aa (j4 B (by simp) fun r e6 s6=>?_);have f:∀b o,b≠I->g2.get? b=Z8 o->r.get? b=Z8 o:=fun b o n z=>s6.extBut b o n (s5.extBut b o n (s4.extBut b o n (s3.extBut b o n z)));exact aa (iU (af (af {_,Z9,af (q r e6 (f _ _ ni D) fun b o n z=>f b o n (J b o n z))})))
theorem A3{I d:ab}{i ep:Nat}{es:Array gj}{ok W:ae}{Q:Option ae->aj->Prop}(V:A.handled=Z7)(Z:j1 s.heap I d i es.size ep ok W)(U:kO s.heap d es ep)(O:es[i]?=Z7)
  (q:∀h',jK I s.heap h'->Q Z7 {s with heap:=h'}):aN (aW prog w) A (fH (.ref I)) Q E s:=by
 obtain⟨o,X,hc,hx⟩:=U;have Y:s.TypeIs (.ref I) "dict_itemiterator":={_,Z,Z9};unfold fH;refine aa (gY (dA (name:=cN "__next__") Y F.slot_dict_itemiterator_next (cy F.slot_dict_itemiterator_next Y F.entry_dict_itemiterator_next ?_ (F.args_dict_itemiterator_next_1 _))));refine aa (af (aa (aa ?_)))
 first|refine aa (iR Y (af ?_))|refine aa (jI Y (af ?_))
 refine aa (gB Z rfl ?_);simp only[show cZ "dict_itemiterator"=true by decide,if_true];show aN _ _ (if (Value.ref d==Value.none)=true then _ else _) _ _ s;rw[Q5 (show ¬(Value.ref d==Value.none)=true from bz)];refine aa (af (aa (fu X hx ?_)));rw[Q5 (by simp)];refine aa (af (aa (gK X hx ?_)));rw[Q5 (by simp)];refine af ?_;simp only[show ¬((i:Int)<0) from by omega,if_false,dE,O];refine aa ?_
 first|refine aa (iR Y (af ?_))|refine aa (jI Y (af ?_))
 refine show aN _ _ (qG (.ref I) 2 .none >>= _) _ _ s from aa (gC Z rfl (by simp) (show aN _ _ (vJ (.type "StopIteration") [] >>= _) _ _ _ from aa ?_));simp only[vJ,EN];refine aa (cw (aa (m:=iQ _ _) (jy (a:=Value.none) (by first|rfl|(simp only[iQ];rfl)) (cw ?_ (by size_fits)))) (by size_fits));simp only[yD];refine aa (rH ?_);rw[show A.in1.handled=Z7 from V];refine aa (af (wB ?_));refine aa (k6 (T:="StopIteration") (b:=true) {_,aE _ rfl,Z9} qH ?_);exact af (q _ (((c7 ..).extBut.push _).push _))
end
end PySem
namespace _L
open PySem PySem.Spec PyProof.Rows
section
variable{X:Cx}{pins:List (ab×Obj)}{σ:St}{H:Hp}{s:aj}{d:ab}
theorem Inv.freezeT{kvs:List (List Key×V)}(I:Inv X pins σ H s)(e:H d=Z8 (.dT kvs))(U:∀Z u,X.H₀ d≠Z8 (.frz Z u)):∃W,s.heap.get? d=Z8 W/\Inv X pins σ (upd H d (.frz W (.dT kvs))) s:=by
 obtain⟨h1,h2,xs,r,Z,es,ep,Y,O⟩:=(show gE X.prog X.w H s.heap d (.dT kvs) from I.hok d _ e);refine{Z,Y,I.swap e (fun xs z=>by cases z) (fun ps z=>by cases z) (fun a z=>by cases z) U {Y,h1,h2,xs,Paired.mono (fun p q z=>{z.1,?_,z.2.2}) r,Z,es,ep,Y,O}};rw[aV (cQ z.2.1 e fun z=>by cases z)];exact z.2.1
theorem Inv.thawT{kvs:List (List Key×V)}{Z:Obj}(I:Inv X pins σ H s)(e:H d=Z8 (.frz Z (.dT kvs)))(Y:∀U u,X.H₀ d≠Z8 (.frz U u)):Inv X pins σ (upd H d (.dT kvs)) s:=by
 obtain⟨_,h1,h2,xs,r,W⟩:=(show gE X.prog X.w H s.heap d (.frz Z (.dT kvs)) from I.hok d _ e);refine I.swap e (fun xs z=>by cases z) (fun ps z=>by cases z) (fun a z=>by cases z) Y {h1,h2,xs,Paired.mono (fun p q z=>{z.1,?_,z.2.2}) r,W};rw[aV (cQ z.2.1 e fun z=>by cases z)];exact z.2.1
theorem jo{Z Y:Type}{R:Z->Y->Prop}:∀{xs:List Z} {ys:List Y},bM R xs ys->∀{i:Nat} {x:Z},xs[i]?=Z8 x->∃y,ys[i]?=Z8 y/\R x y
 |_,_,.nil,i,x,h=>by cases h
 |_,_,.cons a b,0,x,h=>by
  cases h;exact{_,Z9,a}
 |_,_,.cons a b,i+1,x,h=>jo b h
theorem kU{Z:Obj}{kvs:List (List Key×V)}(I:Inv X pins σ H s)(e:H d=Z8 (.frz Z (.dT kvs))):∃es:Array gj,kO s.heap d es (qJ Z)/\es.size=kvs.length/\∀(i:Nat) (Y:List Key×V),kvs[i]?=Z8 Y->∃(W:gj) (k:ab),es[i]?=Z8 W/\W.key=.ref k/\H k=Z8 (.t (Y.1.map kV))/\RelV Y.2 W.val:=by
 obtain⟨M,h1,h2,xs,r,ob,es,ep,O,z,U,L,t⟩:=(show gE X.prog X.w H s.heap d (.frz Z (.dT kvs)) from I.hok d _ e);rw[M]at O
 cases O;have J:qJ Z=ep:=by
  unfold qJ;rw[U]
 rw[J];have y:=bQ r;have f:es.size=xs.length:=by
  have:=congrArg jJ L
  rwa[ak,dj]at this
 refine{es,⟨Z,M,z,U⟩,by omega,fun i Y hk=>?_};obtain⟨q,hq,g,D,B⟩:=jo r hk;refine{entryOfKey (oX (eF X.prog X.w)) q,q.2.1,?_,Z9,D,B}
 ·rw[<- oK,L,bD,hq];rfl
end
def C2(d:ab)(Z:Obj)(kvs:List (List Key×V)):It:=
 {fun i H=>H d=Z8 (.frz Z (.dT kvs))/\i<kvs.length,fun i H x H'=>H'=H/\∃Y,kvs[i]?=Z8 Y/\x=Y.2,fun i H=>H d=Z8 (.frz Z (.dT kvs))/\kvs.length<=i}
def C3(d:ab)(Y:Obj)(kvs:List (List Key×V)):It:=
 {fun i H=>H d=Z8 (.frz Y (.dT kvs))/\i<kvs.length,fun i H x H'=>∃t k Z,x=.ref t/\H t=Z7/\kvs[i]?=Z8 Z/\H k=Z8 (.t (Z.1.map kV))/\H'=upd H t (.t [.ref k,Z.2]),fun i H=>H d=Z8 (.frz Y (.dT kvs))/\kvs.length<=i}
theorem Ff{X:Cx}{pins:List (ab×Obj)}{σ:St}{H:Hp}{s:aj}{h2:cz}{xs:List V}{its:List ae}(I:Inv X pins σ H s)(Z:Inv X pins σ H {s with heap:=h2})(O:xs.length<=aF)(hv:dU xs its)(M:h2.get? s.heap.objs.size=Z8 {cls:=.type "tuple",data:=.seq its.toArray}):Inv X pins σ (upd H s.heap.objs.size (.t xs)) {s with heap:=h2}:=by
 have fr:H s.heap.objs.size=Z7:=I.hok.fresh (aB _);have ne:∀{b o},H b=Z8 o->b≠s.heap.objs.size:=fun z=>aC z fr;exact⟨Z.ok,Z.os,Z.bare,⟨Z.base.keep,Z.base.slot,fun b Y q n hx=>by
   have z:=Z.base.free b Y q n hx
   by_cases y:b=s.heap.objs.size
   ·exfalso;have lt:b<s.heap.objs.size:=aZ (aI q) I.sz;rw[y]at lt;exact Q7 lt (fh _)
   ·rw[aV y];exact z,Z.base.there,fun b xs q=>by
   rw[aV (ne (Z.base.tups b xs q))];exact Z.base.tups b xs q,fun b Y v q=>by
   rw[aV (ne (Z.base.frzs b Y v q))];exact Z.base.frzs b Y v q,fun b ps q=>by
   obtain⟨m,z⟩:=Z.base.tbls b ps q;exact{m,by rw[aV (ne z)];exact z}⟩,Z.loc,Z.cell,by
   rw[aV (aG I.lt)];exact Z.free,fun x c q=>by
   obtain⟨v,y⟩:=I.cell x c q;rw[aV (aG y.lt)];exact Z.freeC x c q,fun p hp=>by
   obtain⟨h1,W,L⟩:=Z.pin p hp;obtain⟨U,_⟩:=I.pin p hp;refine{h1,?_,L};rw[aV (aG (aI U))];exact W,fun b v q=>by
   by_cases y:b=s.heap.objs.size
   ·subst y;rw[ai]at q
    cases q;exact{O,its,hv,_,M,Z9,0,Z9}
   ·rw[aV y]at q;exact (Z.hok b v q).stay (fun c J _ z=>z) (fun c z=>by rw[aV (ne z)];exact z) fun c xs z=>by rw[aV (ne z)];exact z,Z.len⟩
section
variable{P:aP}{w:bF}{K:ag}
theorem yX{tg:cH}(d it:ab)(q:Obj)(kvs:List (List Key×V))(f:d≠it):tM P w K tg (C2 d q kvs) [it] it (fun i h=>h.IsValIter it d i kvs.length (qJ q)/\i<=kvs.length) where
 mem:=by simp
 obj:=fun i h st b hb=>by
  have e:b=it:=by simpa using hb
  subst e;obtain⟨⟨o,e,c,d⟩,_⟩:=st;exact{o,e,fun v z=>by rw[d]at z;cases z}
 keep:=fun i h h' st k=>{st.1.at fun o e=>k it (by simp) o e,st.2}
 item:=by
  intro X L hw B hc i pins s σ H E I U st O;subst L hw B;obtain⟨M,hi⟩:=O;obtain⟨es,r,sz,at_⟩:=kU I M;have W:kvs[i]?=Z8 kvs[i]:=aA hi;obtain⟨en,k,g,ek,hk,rv⟩:=at_ i _ W;obtain⟨D,f1,f2,t,y,J⟩:=U it (by simp);rw[<- sz]at st;refine yU st.1 r g fun h' Z sb=>?_;have I1:Inv X pins σ H {s with heap:=h'}:=I.turned (t':=s.toks) (fun b o hb e=>sb.extBut b o hb e) D f1 t y J;obtain⟨o,e,c,dd⟩:=id Z;exact{_,Z9,uj (s:={s with heap:=h'}) e c dd (by decide) {kvs[i].2,H,I1,rv,{Z9,_,W,Z9},{by rw[<- sz];exact Z,hi},fun b hb=>(U b hb).1}}
 done:=by
  intro X L hw B hc i pins s σ H E I U st O;subst L hw B;obtain⟨M,hi⟩:=O;obtain⟨es,r,sz,at_⟩:=kU I M;obtain⟨D,f1,f2,t,y,J⟩:=U it (by simp);have Y:=st.1;rw[<- sz]at Y;exact A2 (I.ok.hd hc) Y r (fg (by omega)) fun h' eb=>{Z9,I.turned (t':=s.toks) (fun b o hb e=>eb b o hb e) D f1 t y J}
 self:=fun _ _ _ _ _ st h=>Fe st.1 h
theorem xt{elts:List cH} {x1} {pos:Pos} (d it:ab) (od:Obj) (kvs:List (List Key×V)) (bC:d≠it):tM P w K (.Tuple elts x1 pos) (C3 d od kvs) [it] it (fun i h=>∃ok Z,j1 h it d i kvs.length (qJ od) ok Z) where
 mem:=by simp
 obj:=fun i h st b hb=>by
  have e:b=it:=by simpa using hb
  subst e;obtain⟨ok,Z,e⟩:=st;exact{_,e,fun v z=>by cases z}
 keep:=fun i h h' ⟨ok,Z,st⟩ k=>{ok,Z,k it (by simp) _ st}
 item:=by
  intro X r hw g hc i pins s σ H E I q st y;subst r hw g;obtain⟨ok,Z,st⟩:=st;obtain⟨t,hi⟩:=y;obtain⟨es,bd,sz,at_⟩:=kU I t;have W:kvs[i]?=Z8 kvs[i]:=aA hi;obtain⟨L,k,he,ek,hk,rv⟩:=at_ i _ W;obtain⟨U,f1,f2,B,D,J⟩:=q it (by simp);rw[<- sz]at st;refine yV st bd he fun h' O f kp=>?_;have I1:Inv X pins σ H {s with heap:=h'}:=I.turned (t':=s.toks) (fun b o hb e=>kp b o hb e) U f1 B D J;refine{_,Z9,ye O fun h2 Y sb=>?_};have I2:Inv X pins σ H {s with heap:=h2}:=I1.turned (t':=s.toks) (fun b o hb e=>sb.extBut b o hb e) U f1 B D J;have fr:H s.heap.objs.size=Z7:=I.hok.fresh (aB _);have M:s.heap.objs.size≠it:=(aG (aI st)).symm;have e2:h2.get? s.heap.objs.size=Z8 {cls:=.type "tuple",data:=.seq #[L.key,L.val]}:=sb.extBut _ _ M f;have I3:=Ff I I2 (xs:=[.ref k,kvs[i].2]) (its:=[L.key,L.val]) (by show 2<=aF;decide) (.cons (by rw[ek];rfl) (.cons rv .nil)) e2;refine{.ref s.heap.objs.size,_,I3,Z9,{_,k,_,Z9,fr,W,hk,Z9},{_,_,by rw[<- sz];exact Y},fun b hb=>?_};have e:b=it:=by simpa using hb
  subst e;rw[aV (cE M)];exact U
 done:=by
  intro X r hw g hc i pins s σ H E I q st y;subst r hw g;obtain⟨ok,Z,st⟩:=st;obtain⟨t,hi⟩:=y;obtain⟨es,bd,sz,at_⟩:=kU I t;obtain⟨U,f1,f2,B,D,J⟩:=q it (by simp);rw[<- sz]at st;exact A3 (I.ok.hd hc) st bd (fg (by omega)) fun h' eb=>{Z9,I.turned (t':=s.toks) (fun b o hb e=>eb b o hb e) U f1 B D J}
 self:=fun A i s Q E ⟨ok,Z,st⟩ h=>by
  have ty:s.TypeIs (.ref it) "dict_itemiterator":={_,st,Z9};refine ft ty F.slot_dict_itemiterator_iter (cy F.slot_dict_itemiterator_iter ty l8 ?_ (F.args_dict_itemiterator_iter_1 _));show aN _ _ (ret (.ref it)) _ _ s;exact af {_,Z9,"dict_itemiterator",_,ty,F.slot_dict_itemiterator_next.lookup,h}
end
section
variable{X:Cx}{o:cH}{to:TE}{apos cpos:Pos}{tg:cH}{elts:List cH}{x1:Nat}{pos:Pos}
def C4(X:Cx)(to:TE):TI:=fun σ H R=>to σ H fun x H1=>∃d kvs,x=.ref d/\H1 d=Z8 (.dT kvs)/\(∀Y u,X.H₀ d≠Z8 (.frz Y u))/\∀Z,R (C2 d Z kvs) (upd H1 d (.frz Z (.dT kvs)))
theorem C5(r:PE X o to)(Z:gW o "values" X.env (eY o X.env)=eY o X.env:=by rfl)(Y:(apos.endLine==cpos.line)=true:=by rfl):PI X tg (.Call (.Attribute o "values" apos) [] [] cpos) (C4 X to):=by
 intro pins s σ H R I h;refine iO Z Y (thn (r pins s σ H _ I h) fun v W ⟨x,H1,B,g,d,kvs,ex,L,nf,q⟩=>?_);subst ex
 cases g;obtain⟨hz,t,ws,k1,U,es,ep,J,D,f,_⟩:=(show gE X.prog X.w H1 W.heap d (.dT kvs) from B.hok d _ L);have M:kO W.heap d es ep:=⟨U,J,D,f⟩;refine{"dict","dict.values",ir,jn,tX,M.ty,fun a e=>?_,ff rfl (jf ?_)}
 ·cases e;exact⟨U,J,D.2.1⟩
 refine lY jn M.ty tJ (sO _) (xr d t) {⟨es,ep,M⟩,?_};have I2:Inv X pins σ H1 {W with heap:=W.heap.push {cls:=.type "dict_values",data:=.fields #[.ref d]}}:=B.kept (t':=W.toks) fun b U q=>aq _ q;obtain⟨O,y,V⟩:=I2.freezeT L nf;obtain⟨z,bd,sz,_⟩:=kU V (ai:upd H1 d (.frz O (.dT kvs)) d=_);refine yS {_,aE _ rfl,Z9,Z9} bd ?_;have lt:=aI y;refine{_,[_],_,_,_,Z9,V.kept (t':=W.toks) fun b U q=>aq _ q,yX d _ O kvs (aG lt),?_,fun b hb=>?_,q O}
 ·refine{?_,aO _};rw[<- sz];exact{_,aE _ rfl,Z9,Z9}
 ·have e:b=_:=aH.mp hb;subst e;exact V.fpOk (aB _) (V.hok.fresh (aB _))
def Fg(X:Cx)(to:TE):TI:=fun σ H R=>to σ H fun x H1=>∃d kvs,x=.ref d/\H1 d=Z8 (.dT kvs)/\(∀Y u,X.H₀ d≠Z8 (.frz Y u))/\∀Z,R (C3 d Z kvs) (upd H1 d (.frz Z (.dT kvs)))
theorem A4(r:PE X o to)(Z:gW o "items" X.env (eY o X.env)=eY o X.env:=by rfl)(Y:(apos.endLine==cpos.line)=true:=by rfl):PI X (.Tuple elts x1 pos) (.Call (.Attribute o "items" apos) [] [] cpos) (Fg X to):=by
 intro pins s σ H R I h;refine iO Z Y (thn (r pins s σ H _ I h) fun v W ⟨x,H1,B,g,d,kvs,ex,L,nf,q⟩=>?_);subst ex
 cases g;obtain⟨hz,t,ws,k1,U,es,ep,J,D,f,_⟩:=(show gE X.prog X.w H1 W.heap d (.dT kvs) from B.hok d _ L);have M:kO W.heap d es ep:=⟨U,J,D,f⟩;refine{"dict","dict.items",ir,jD,uH,M.ty,fun a e=>?_,ff rfl (jf ?_)}
 ·cases e;exact⟨U,J,D.2.1⟩
 refine lY jD M.ty tV (tH _) (yR d t) {⟨es,ep,M⟩,?_};have I2:Inv X pins σ H1 {W with heap:=W.heap.push {cls:=.type "dict_items",data:=.fields #[.ref d]}}:=B.kept (t':=W.toks) fun b U q=>aq _ q;obtain⟨O,y,V⟩:=I2.freezeT L nf;obtain⟨z,bd,sz,_⟩:=kU V (ai:upd H1 d (.frz O (.dT kvs)) d=_);refine yT {_,aE _ rfl,Z9,Z9} bd ?_;have lt:=aI y;refine{_,[_],_,_,_,Z9,V.kept (t':=W.toks) fun b U q=>aq _ q,xt d _ O kvs (aG lt),{.none,.none,?_},fun b hb=>?_,q O}
 ·rw[<- sz];exact aE _ rfl
 ·have e:b=_:=aH.mp hb;subst e;exact V.fpOk (aB _) (V.hok.fresh (aB _))
def C6(X:Cx)(t:TE):TE:=fun σ H Q=>t σ H fun v H'=>∃d Z kvs,H' d=Z8 (.frz Z (.dT kvs))/\(∀Y u,X.H₀ d≠Z8 (.frz Y u))/\Q v (upd H' d (.dT kvs))
theorem C7{e:cH}{t:TE}(h:PE X e t):PE X e (C6 X t):=fun pins s σ H Q I q=>
 thn (h pins s σ H _ I q) fun _ _ ⟨x,_,W,Y,_,_,_,e,Z,q⟩=>{x,_,W.thawT e Z,Y,q}
def C8(X:Cx)(D:jW):jW where
 nx:=fun σ H=>∃d Z kvs,H d=Z8 (.frz Z (.dT kvs))/\(∀Y u,X.H₀ d≠Z8 (.frz Y u))/\D.nx σ (upd H d (.dT kvs))
 rt:=D.rt
 bk:=D.bk
 ct:=D.ct
theorem xu{st:dI}{t:TS}(h:PS X st t):PS X st (fun D σ H=>t (C8 X D) σ H):=by
 intro pins s σ H D I q;refine thn (h pins s σ H (C8 X D) I q) fun fl V z=>?_
 cases fl with
 |next=>
  obtain⟨Z,H',Y,d,U,kvs,e,W,y⟩:=z;exact{Z,_,Y.thawT e W,y}
 |brk=>exact z
 |cont=>exact z
 |ret u=>exact z
end
theorem yY{d:ab}{O:Obj}{kvs:List (List Key×V)}{g:TG}{tb:TS}{D:jW}{σ:St}{H:Hp}(Z:Nat->St->Hp->Prop)(h0:Z 0 σ H)(z:∀i σ H,i<=kvs.length->Z i σ H->H d=Z8 (.frz O (.dT kvs)))
  (hs:∀i U t k σ H,kvs[i]?=Z8 U->Z i σ H->H t=Z7->H k=Z8 (.t (U.1.map kV))->g (.ref t) σ (upd H t (.t [.ref k,U.2])) fun X H2=>tb {D with nx:=Z (i+1),ct:=Z (i+1),bk:=D.nx} X H2) (J:∀σ H,Z kvs.length σ H->D.nx σ H) :
  ∃W:Nat->Nat->St->Hp->Prop,(∃m,W 0 m σ H)/\∀i m σ H,W i m σ H ->
   ((C3 d O kvs).stop i H/\D.nx σ H)\/((C3 d O kvs).go i H/\∃N:St->Hp->Prop,(∀Y H',N Y H'->∃L,L<m/\W (i+1) L Y H')/\∀x H',(C3 d O kvs).yld i H x H'->g x σ H' fun X H2=>tb {D with nx:=N,ct:=N,bk:=D.nx} X H2):=by
 refine{fun i m σ H=>m=kvs.length-i/\i<=kvs.length/\Z i σ H,{kvs.length,by simp,aO _,h0},?_};rintro i m σ H ⟨rfl,hi,p⟩;have q:=z i σ H hi p
 by_cases lt:i<kvs.length
 ·refine .inr {⟨q,lt⟩,Z (i+1),fun Y H' B=>{kvs.length-(i+1),by omega,Z9,lt,B},fun x H' y=>?_};obtain⟨t,k,U,rfl,I,hk,M,rfl⟩:=y;exact hs i U t k σ H hk p I M
 ·have e:i=kvs.length:=by omega
  subst e;exact .inl {{q,aB _},J σ H p}
theorem yZ{d:ab}{O:Obj}{kvs:List (List Key×V)}{n:Nat}{g:TG}{tc:TT}{te:TE}{σ:St}{H:Hp}{Q:VK}(Y:Nat->List V->Hp->Prop)(h0:Y 0 [] H)(B:∀i ys H,i<=kvs.length->Y i ys H->H d=Z8 (.frz O (.dT kvs))/\ys.length<aF)
  (hs:∀i M ys G,kvs[i]?=Z8 M->Y i ys G->g M.2 (aQ n Z7++σ) G fun Z H2=>Z.drop n=σ/\tc Z H2 fun b U=>if b=true then te Z U fun y L=>Y (i+1) (ys++[y]) L else Y (i+1) ys U)
  (I:∀ys G,Y kvs.length ys G->∀p,G p=Z7->Q (.ref p) (upd G p (.l ys))) :
  ∃W:Nat->Nat->List V->Hp->Prop,(∃m,W 0 m [] H)/\∀i m ys H,W i m ys H->ys.length<aF /\
   (((C2 d O kvs).stop i H/\∀p,H p=Z7->Q (.ref p) (upd H p (.l ys))) \/
    ((C2 d O kvs).go i H/\∃N:List V->Hp->Prop,(∀X H',N X H'->∃J,J<m/\W (i+1) J X H')/\∀x H',(C2 d O kvs).yld i H x H'->g x (aQ n Z7++σ) H' fun Z H2=>Z.drop n=σ/\tc Z H2 fun b U=>
     if b=true then te Z U fun y L=>N (ys++[y]) L else N ys U)):=by
 refine{fun i m ys H=>m=kvs.length-i/\i<=kvs.length/\Y i ys H,{kvs.length,by simp,aO _,h0},?_};rintro i m ys H ⟨rfl,hi,p⟩;have q:=B i ys H hi p;refine{q.2,?_}
 by_cases lt:i<kvs.length
 ·refine .inr {⟨q.1,lt⟩,Y (i+1),fun X H' D=>{kvs.length-(i+1),by omega,Z9,lt,D},fun x H' y=>?_};obtain⟨rfl,M,hk,rfl⟩:=y;exact hs i M ys H' hk p
 ·have e:i=kvs.length:=by omega
  subst e;exact .inl {{q.1,aB _},I ys H p}
end _L
namespace PySem
open Sem (wp)
section
variable{prog:aP}{w:bF}{A:cm}{R:rV->aj->Prop}{I:ab}{fp wr:List ab}{n:Nat}{P:Nat->ae->Prop}{St:Nat->cz->Prop}{G:cz->Prop}{kw:List (Str×ae)}
theorem xw(W:EO prog w A.in1 I fp wr n P St)(y:Nat->Nat->Bool)(g:uG prog w A.in1 .Lt P G y)(S:ab)(f:S∉fp)
  (hG:∀h h':cz,G h->(∀b o,b∉wr->b≠S->h.get? b=Z8 o->h'.get? b=Z8 o)->G h') :
  ∀(k j:Nat) (s:aj) (U:ae) (c:Nat),n-(j+1)=k->j+1<=n->St (j+1) s.heap->G s.heap->P (jc y j) U ->
  s.heap.get? S=Z8 {cls:=.type "list",dict:=Z7,data:=.seq #[U,U] c,slots:=#[]} ->
  (∀v h' tk,P (jc y (n-1)) v->(∀b o,b∉wr->b≠S->s.heap.get? b=Z8 o->h'.get? b=Z8 o)->R (.ok (.ret v)) {s with heap:=h',toks:=tk}) ->
  iL (aW prog w) A (.builtin "min.loop" {[.ref I,.none,.ref S],kw}) R s:=by
 have r:S∉wr:=fun h=>f (W.sub _ h);have nm:(toString "min"++toString ".loop":String)="min.loop":=by decide
 intro k
 induction k with
 |zero=>
  intro j s U c hk hj J hg V t d;have q:j+1=n:=by omega
  refine dJ F.entry_min_loop ?_;rw[dP F.plain_min_loop _];show aN _ A.in1 (o3 (.ref S) >>= _) _ _ s;refine aa (gx t rfl ?_);show aN _ A.in1 (tryCatch (fH (.ref I)) _ >>= _) _ _ s;refine aa (gy (W.done s _ _ (q ▸ J) fun h' tk kp=>?_));show aN _ A.in1 (qY S (fun _=>#[]) >>= _) _ _ _;refine aa (iB (kp S _ r t) rfl (aa (iU (af ?_))));exact d U _ tk (by rw[<- q];exact V) fun b o Y Z e=>(aY _ _ (cE Z)).trans (kp b o Y e)
 |succ k ih=>
  intro j s U c hk hj J hg V t d;have M:j+1<n:=by omega
  refine dJ F.entry_min_loop ?_;rw[dP F.plain_min_loop _];show aN _ A.in1 (o3 (.ref S) >>= _) _ _ s;refine aa (gx t rfl ?_);show aN _ A.in1 (tryCatch (fH (.ref I)) _ >>= _) _ _ s;refine aa (gy (W.item (j+1) s _ _ M J fun v h' tk hP O kp=>?_));have D:=kp S _ r t;have g1:G h':=hG _ _ hg fun b o hb _ e=>kp b o hb e;show aN _ A.in1 (tryCatch (nF [v,v] (qF .Lt v U >>= _)) _ >>= _) _ _ _;refine aa (gy (c8 (aa (g (j+1) (jc y j) v U _ _ _ hP V g1 ?_))));refine aa (c8 (gH (aa (iU (af ?_)))))
  cases hb:y (j+1) (jc y j) with
  |true=>
   simp only[if_true];refine aa (iB D rfl (aa (iU ?_)));rw[nm];refine af ⟨eT F.plain_min_loop _,ih (j+1) _ v _ (by omega) M (W.frame _ _ _ O fun b bw o e=>?_) (hG _ _ g1 fun b o _ Z e=>(aY _ _ (cE Z)).trans e)
    (by simp only[jc,hb,if_true];exact hP) (cC _ D rfl) fun v' z X L B=>?_⟩
   ·exact (aY _ _ (fun h:S=b=>f (by rw[h];exact bw))).trans e
   ·exact d v' z X L fun b o Y Z e=>B b o Y Z ((aY _ _ (cE Z)).trans (kp b o Y e))
  |false=>
   simp only[dQ,if_false];refine aa (iU ?_);rw[nm];refine af {eT F.plain_min_loop _,ih (j+1) _ U c (by omega) M O g1 (by simp only[jc,hb,dQ,if_false];exact V) D fun v' z X L B=>?_};exact d v' z X L fun b o Y Z e=>B b o Y Z (kp b o Y e)
theorem vQ(W:EO prog w A.in1 I fp wr n P St)(L:Nat->Nat->Bool)(M:uG prog w A.in1 .Lt P G L)(S:ab)(Y:S∉fp)
  (B:∀h h':cz,G h->(∀b o,b∉wr->b≠S->h.get? b=Z8 o->h'.get? b=Z8 o)->G h') (hn:0<n) {s:aj} {c:Nat} (z:St 0 s.heap) (g:G s.heap)
  (q:s.heap.get? S=Z8 {cls:=.type "list",dict:=Z7,data:=.seq #[] c,slots:=#[]})
  (hR:∀v h' tk,P (jc L (n-1)) v->(∀b o,b∉wr->b≠S->s.heap.get? b=Z8 o->h'.get? b=Z8 o)->R (.ok (.ret v)) {s with heap:=h',toks:=tk}) :
  iL (aW prog w) A (.builtin "min.loop" {[.ref I,.none,.ref S],kw}) R s:=by
 have J:S∉wr:=fun h=>Y (W.sub _ h);have nm:(toString "min"++toString ".loop":String)="min.loop":=by decide
 refine dJ F.entry_min_loop ?_;rw[dP F.plain_min_loop _];show aN _ A.in1 (o3 (.ref S) >>= _) _ _ s;refine aa (gx q rfl ?_);show aN _ A.in1 (tryCatch (fH (.ref I)) _ >>= _) _ _ s;refine aa (gy (W.item 0 s _ _ hn z fun v h' tk hP X kp=>?_));have O:=kp S _ J q;have d:G h':=B _ _ g fun b o hb _ e=>kp b o hb e;show aN _ A.in1 (qY S (fun _=>#[v,v]) >>= _) _ _ _;refine aa (iB O rfl ?_);rw[nm];refine af {eT F.plain_min_loop _,xw W L M S Y B _ 0 _ v _ rfl hn (W.frame _ _ _ X fun b y o e=>?_) (B _ _ d fun b o _ Z e=>(aY _ _ (cE Z)).trans e) hP (cC _ O rfl) fun f r U D t=>?_}
 ·exact (aY _ _ (fun h:S=b=>Y (by rw[h];exact y))).trans e
 ·exact hR f r U D fun b o V Z e=>t b o V Z ((aY _ _ (cE Z)).trans (kp b o V e))
end
section
variable{prog:aP}{w:bF}{A:cm}{E:ae->aj->Prop}{s:aj}
theorem Fh{id:String}{b:fi}{args:List ae}{kw:List (Str×ae)}{Q:ae->aj->Prop}(hk:builtinKind id=Z7)(hp:plainId id=true)(hb:tS Jq id=Z8 b)(ha:oM id ⟨args,kw⟩)
  (hc:aN (aW prog w) A.in1 (b ⟨args,kw⟩) (fun fin s'=>match fin with
   |.done f=>(match (Except.ok f:rV) with|.ok (.ret v)=>Q v s' | .ok _=>False|.error e=>E e s')
   |.again Y=>Y.quiet=true/\iL (aW prog w) A Y (fun r s'=>match r with|.ok (.ret v)=>Q v s' | .ok _=>False|.error e=>E e s') s') E s):aN (aW prog w) A (pz (.builtin id) args kw) Q E s:=by
 refine yw (Fi hp hb ?_);simp only[checkBuiltinCall,hk]
 cases sg:Manifest.signature? id with
 |none=>exact af hc
 |some Z=>
  have z:Bind.checkArgs id Z ⟨args,kw⟩=pure ():=by simpa only[oM,sg] using ha
  simp only[z];exact af hc
theorem A5(a v:ae):oM "min" {[a],[(cN "default",v)]}:=by
 unfold oM
 kernel_rfl
theorem xx{x d:ae}{Q:ae->aj->Prop}
  (h:aN (aW prog w) A.in1 (qA x) (fun it Z=>∃I fp wr n P St G U,it=.ref I/\EO prog w A.in1 I fp wr n P St/\St 0 Z.heap/\G Z.heap/\(∀b∈fp,b<Z.heap.objs.size)/\uG prog w A.in1 .Lt P G U /\
   (∀h h':cz,G h->(∀b o,b∉wr->b≠Z.heap.objs.size->h.get? b=Z8 o->h'.get? b=Z8 o)->G h') /\
   (n=0->∀h' tk,(∀b o,b∉wr->Z.heap.get? b=Z8 o->h'.get? b=Z8 o)->Q d {Z with heap:=h',toks:=tk}) /\
   (0<n->∀v h' tk,P (jc U (n-1)) v->(∀b o,b∉wr->Z.heap.get? b=Z8 o->h'.get? b=Z8 o)->Q v {Z with heap:=h',toks:=tk})) E s) :
  aN (aW prog w) A (pz (.builtin "min") [x] [(cN "default",d)]) Q E s:=by
 have nm:(toString "min"++toString ".loop":String)="min.loop":=by decide
 refine Fh F.kind_min F.plain_min F.entry_min (A5 _ _) ?_;show aN _ A.in1 (iu "min" ["key","default"] 0 {[],[(cN "default",d)]} >>= _) _ _ s;refine aa (jy (show iu "min" ["key","default"] 0 {[],[(cN "default",d)]}=pure [Z7,Z8 d] from rfl) (aa (af ?_)));refine aa (fo h (fun it Z X=>?_) fun _ _ e=>e);obtain⟨I,fp,wr,n,P,St,G,U,rfl,W,J,y,L,V,B,h0,z⟩:=X;refine aa (cw ?_);have D:Z.heap.objs.size∉fp:=fun r=>fh _ (L _ r);rw[nm];have kp:∀b o,Z.heap.get? b=Z8 o->(Z.heap.push {cls:=.type "list",data:=.seq ([]:List ae).toArray}).get? b=Z8 o:=fun b o e=>aq _ e;have Y:=W.frame _ _ _ J fun b _ o e=>kp b o e;refine af {eT F.plain_min_loop _,?_}
 rcases Nat.eq_zero_or_pos n with hn|hn
 ·subst hn;refine dJ F.entry_min_loop ?_;rw[dP F.plain_min_loop _];show aN _ A.in1 (o3 (.ref Z.heap.objs.size) >>= _) _ _ _;refine aa (gx (aE _ rfl) rfl ?_);show aN _ A.in1 (tryCatch (fH (.ref I)) _ >>= _) _ _ _;refine aa (gy (W.done _ _ _ Y fun h' tk M=>?_));exact aa (pD (af (h0 rfl h' tk fun b o hb e=>M b o hb (kp b o e))))
 ·refine vQ W U V Z.heap.objs.size D B hn Y (B _ _ y fun b o _ _ e=>kp b o e) (aE _ rfl) fun v h' tk t hk=>?_;exact z hn v h' tk t fun b o O e=>hk b o O (aG (aI e)) (kp b o e)
end
end PySem
namespace _L
open PySem PySem.Spec PyProof.Rows
section
variable{X:Cx}
theorem A6:eh "min"=Z8 (.builtin "min"):=rfl
def MinD(l:ab)(Q:V->Prop)(H:Hp):Prop:=∃Y Z,H l=Z8 (.l (Y.map V.ref))/\jz H Y Z/\(Z=[]->Q .non)/\∀(a:ab) (n:List Int),a∈Y->n∈Z->H a=Z8 (.t (n.map V.int))->(∀m∈Z,_H.lexLt m n=false)->Q (.ref a)
theorem A7{E:ae->aj->Prop}{pins:List (ab×Obj)}{s:aj}{σ:St}{H:Hp}{l:ab}{Q:VK}(hu:X.A.units+2<iN)(hc:X.calm=true)(I:Inv X pins σ H s)(h:MinD l (fun v=>Q v H) H):aN (aW X.prog X.w) X.A (pz (.builtin "min") [.ref l] [(cN "default",.none)]) (fun u s'=>∃v H',Inv X pins σ H' s'/\RelV v u/\Q v H') E s:=by
 obtain⟨J,O,hl,ht,q0,q⟩:=h;obtain⟨its,rv,d,hz⟩:=I.list (SqL.of hl);have L:l<s.heap.objs.size:=let ⟨_,Z,_⟩:=d.isList;aI Z;have ck:its.toArray.size=O.length:=by
  rw[bj,<- rv.length,ak];exact ht.length
 have key:∀(i:Nat) (v:ae),its.toArray[i]?=Z8 v->∃(a:ab) (n:List Int),v=Value.ref a/\J[i]?=Z8 a/\O[i]?=Z8 n/\H a=Z8 (.t (n.map V.int)):=by
  intro i v hv;have M:its[i]?=Z8 v:=by simpa using hv
  have r:i<J.length:=by
   have:=(ay.mp M).1;have:=rv.length;rw[ak]at this;omega
  have ea:(J.map V.ref)[i]?=Z8 (.ref J[i]):=by rw[bD,aA r];rfl
  obtain⟨w',hw,cn⟩:=rv.get ea;rw[M]at hw
  cases hw
  cases cn;obtain⟨n,hn,cl⟩:=ht.get (aA r);exact{_,n,Z9,aA r,hn,cl}
 refine xx (kH d.isList ?_);refine⟨s.heap.objs.size,[s.heap.objs.size,l],[s.heap.objs.size],its.toArray.size,_,_,fun h=>∀b o ys,H b=Z8 (.t ys)->s.heap.get? b=Z8 o->h.get? b=Z8 o,fun i j=>_H.lexLt ((O[i]?).getD []) ((O[j]?).getD []),Z9,
  AR (A:=X.A.in1) (I.ok.hd hc) s.heap.objs.size l (aG L) its.toArray,{{_,aE _ rfl,Z9,Z9},d.isList.at fun o e=>aq _ e},fun b o ys _ e=>aq _ e,?_,?_,?_,?_,?_⟩
 ·intro b f;rw[eA]
  rcases aD.mp f with e|e
  ·rw[e];exact iH _
  ·rw[aH.mp e];exact dD L
 ·rintro i j vi vj s' Q' E' hi B g y;obtain⟨b1,n,rfl,_,t,D⟩:=key i vi hi;obtain⟨b2,m,rfl,_,d3,d4⟩:=key j vj B;have y:Q' (.bool (_H.lexLt ((O[i]?).getD []) ((O[j]?).getD []))) s':=y;rw[t,d3]at y;obtain⟨W,r1,p1,_⟩:=I.tuple (SqT.of D);obtain⟨U,r2,p2,_⟩:=I.tuple (SqT.of d4);have i1:dY W.toArray.toList n:=intsAre_of r1;have i2:dY U.toArray.toList m:=intsAre_of r2;have t1:wx s'.heap b1 W.toArray:=let ⟨o,Z,rest⟩:=p1;{o,g _ _ _ D Z,rest};have t2:wx s'.heap b2 U.toArray:=let ⟨o,Z,rest⟩:=p2;{o,g _ _ _ d4 Z,rest};exact _H.lt_tupInts (A:=X.A.in1) t1 t2 i1 i2 (by show X.A.units+1<iN;omega) y
 ·intro h1 h2 g kp b o ys hy Z;have lt:=aI Z;refine kp b o (fun e=>aG lt (aH.mp e)) (fun e=>?_) (g b o ys hy Z);rw[eA]at e;exact aG (dD lt) e
 ·intro n0 h' tk kp;refine{.non,H,I.kept (t':=tk) fun b o Z=>kp b o (fun e=>aG (aI Z) (aH.mp e)) (aq _ Z),Z9,q0 (d9.mp (by omega))}
 ·rintro ci v h' tk hv kp;obtain⟨a,n,rfl,c2,t,D⟩:=key _ v hv;obtain⟨_,Y⟩:=_H.best_le (fun i=>(O[i]?).getD []) (its.toArray.size-1);rw[t]at Y;refine{.ref a,H,I.kept (t':=tk) fun b o Z=>kp b o (fun e=>aG (aI Z) (aH.mp e)) (aq _ Z),Z9,q a n (aK c2) (aK t) D fun m hm=>?_};obtain⟨j,B⟩:=cP hm;have lj:=(ay.mp B).1;have z:=Y j (by omega);rw[B]at z;exact z
variable{e:cH}{t:TA}{p pos kp bp:Pos}
def GH(t:TA):TE:=fun σ H Q=>t σ H fun vs H1=>∃l,vs=[.ref l]/\MinD l (fun v=>Q v H1) H1
theorem Fj{Y:cH}(r:X.A.units+2<iN)(hc:X.calm=true)(J:Gl X "min")(f:X.mg "min"=Z7)(ha:PA X [e] t)(hk:PE X Y (tC .non))(O:jw pos (cL [e] X.env)=[(false,eY e X.env)]:=by rfl)
  (Z:(jR pos (gX [{Z8 "default",Y,kp}] X.env)).all (·.1.isSome)=true:=by rfl) (U:(jR pos (gX [{Z8 "default",Y,kp}] X.env)).any (·.1.isNone)=false:=by rfl)
  (W:(jR pos (gX [{Z8 "default",Y,kp}] X.env)).filterMap (·.1)=[cN "default"]:=by rfl) :
  PE X (.Call (.Name "min" p) [e] [{Z8 "default",Y,kp}] pos) (GH t):=by
 intro pins s σ H Q I h;refine hV (pw I J f A6 ?_);refine callWith_kw (thn (ha pos pins s σ H _ I h) fun us L ⟨vs,H1,M,D,z⟩=>?_) (by rw[O];rfl) (by rw[O];rfl) Z U;obtain⟨l,rfl,q⟩:=z;obtain⟨u,rfl,B⟩:=vals1 D
 cases B;refine kws_cons (thn (hk pins L σ H1 (fun v H2=>v=.non/\H2=H1) M (show _/\_ from⟨Z9,Z9⟩)) fun v s2 V=>kws_nil ?_);obtain⟨y,H2,g,d,e1,e2⟩:=V;subst e1 e2
 cases d;rw[W];show aN _ _ (pz (.builtin "min") [.ref l] [(cN "default",.none)]) _ _ _;exact A7 r hc g q
end
end _L
namespace PyProof.Rows
open PySem
section
variable{prog:aP}{w:bF}{A:cm}{E:ae->aj->Prop}{s:aj}
theorem rq(a v:ae):oM "sorted" {[a],[(cN "key",v)]}:=by
 unfold oM
 kernel_rfl
theorem tZ(a v:ae):oM "list.sort" {[a],[(cN "key",v)]}:=by
 unfold oM
 kernel_rfl
theorem A8{a x:ab}{n:Nat}{P:Fin->aj->Prop}(O:s.heap.get? a=Z8 (fV "list" #[] n))
  (h:∀h':cz,h'.objs.size=s.heap.objs.size+2->(∀b o,b≠a->s.heap.get? b=Z8 o->h'.get? b=Z8 o)->(∃m,h'.get? a=Z8 (fV "list" #[] m))->P (.done (.ret .none)) {s with heap:=h'}) :
  aN (aW prog w) A (fi.«list.sort» {[.ref a],[(cN "key",.ref x)]}) P E s:=by
 have ha:a<s.heap.objs.size:=aI O;show aN _ _ (rL (.ref a) >>= _) _ _ s;refine aa (listItems_at O rfl ?_);refine aa (A9 O rfl ?_);obtain⟨e1,U⟩:∃e1,(s.heap.update a (dN fun _=>#[])).get? a=Z8 (fV "list" #[] e1):={_,get?_update_seq O (fun _=>#[])};refine aa (seqEpoch_at U rfl ?_);refine aa (yW ?_);refine aa (Ba ?_);refine c8 ?_;have sz:(s.heap.update a (dN fun _=>#[])).objs.size=s.heap.objs.size:=m8 ..;have Z:((s.heap.update a (dN fun _=>#[])).push (fV "tuple" #[] 0)).objs.size=s.heap.objs.size+1:=by rw[IR,sz]
 have X:(((s.heap.update a (dN fun _=>#[])).push (fV "tuple" #[] 0)).push (fV "list" #[] 0)).get? a=Z8 (fV "list" #[] e1):=by
  rw[C9 _ _ _ (by rw[Z];exact aG (dD ha)),C9 _ _ _ (by rw[sz];exact aG ha)];exact U
 have Y:(((s.heap.update a (dN fun _=>#[])).push (fV "tuple" #[] 0)).push (fV "list" #[] 0)).get? (s.heap.objs.size+1)=Z8 (fV "list" #[] 0):=by
  rw[<- Z];exact aE _ rfl
 show aN _ _ (Ep "list.sort.key" >>= _) _ _ {s with heap:=((s.heap.update a (dN fun _=>#[])).push (fV "tuple" #[] 0)).push (fV "list" #[] 0)};have kp:∀b o,b≠a->s.heap.get? b=Z8 o->(((s.heap.update a (dN fun _=>#[])).push (fV "tuple" #[] 0)).push (fV "list" #[] 0)).get? b=Z8 o:=fun b o n e=>aq _ (aq _ ((aY _ _ (cE n)).trans e));have W:(((s.heap.update a (dN fun _=>#[])).push (fV "tuple" #[] 0)).push (fV "list" #[] 0)).objs.size=s.heap.objs.size+2:=by rw[IR,Z]
 revert X Y kp W;generalize ((s.heap.update a (dN fun _=>#[])).push (fV "tuple" #[] 0)).push (fV "list" #[] 0)=g6;intro X Y kp W;refine aa (pD (aa (jy (a:=PUnit.unit) (by simp) ?_)));show aN _ _ (rL (.ref ((s.heap.update a (dN fun _=>#[])).push (fV "tuple" #[] 0)).objs.size) >>= _) _ _ _;rw[Z];refine aa (listItems_at Y rfl ?_);refine show aN _ _ (pure _ >>= _) _ _ _ from aa (af ?_);dsimp only;rw[Q6 (show (#[]:Array ae).size<2 by decide),StateT.run_pure];refine aa (af ?_);show aN _ _ (Builtin.List.listUpdate (.ref (s.heap.objs.size+1)) (fun _=>#[]) >>= _) _ _ _;refine aa (A9 Y rfl ?_);refine aa (iU ?_);have M:a≠s.heap.objs.size+1:=aG (dD ha);have V:(g6.update (s.heap.objs.size+1) (dN fun _=>#[])).get? a=Z8 (fV "list" #[] e1):=(aY _ _ (cE M)).trans X;refine aa (seqEpoch_at V rfl ?_);refine aa (A9 V rfl ?_ (hsz2:=by simp));simp only[bne_self_eq_false,dQ,if_false];rw[show Array.map (fun x:ae×ae=>x.2) ((#[]:Array ae).zip (#[]:Array ae))=#[] by simp];refine show aN _ _ (ret .none) _ _ _ from af ?_;refine h _ ?_ (fun b o n e=>?_) {_,get?_update_seq V _}
 ·rw[m8,m8];exact W
 ·rw[aY _ _ (cE n),aY _ _ (cE (aG (dD (aI e))))];exact kp b o n e
theorem xy{l x:ab}{Q:ae->aj->Prop}(Y:s.heap.IsList l #[])
  (h:∀h':cz,(∀b o,s.heap.get? b=Z8 o->h'.get? b=Z8 o)->(∃m,h'.get? (s.heap.objs.size+1)=Z8 (fV "list" #[] m))->Q (.ref (s.heap.objs.size+1)) {s with heap:=h'}) :
  aN (aW prog w) A (pz (.builtin "sorted") [.ref l] [(cN "key",.ref x)]) Q E s:=by
 refine call_function_entry_kw kind_sorted plain_sorted entry_sorted (rq _ _) ?_;unfold fi.«sorted»;refine aa (m:=checkCount "sorted" 1 1 _) (af ?_);refine aa (collect_list (vs:=[]) Y ?_);refine aa (Ba ?_);have hsz:((s.heap.push (fV "list" #[] 0)).update s.heap.objs.size (dN (·++([]:List ae).toArray))).objs.size=s.heap.objs.size+1:=by
  rw[m8,IR]
 have Z:(((s.heap.push (fV "list" #[] 0)).update s.heap.objs.size (dN (·++([]:List ae).toArray))).push (fV "list" #[] 0)).get? (s.heap.objs.size+1)=Z8 (fV "list" #[] 0):=by
  rw[<- hsz];exact aE _ rfl
 show aN _ _ _ _ _ {s with heap:=((s.heap.push (fV "list" #[] 0)).update s.heap.objs.size (dN (·++([]:List ae).toArray))).push (fV "list" #[] 0)};rw[hsz];refine aa (c8 (wpAny_call_entry_kw slot_list_sort {_,Z,Z9} entry_list_sort (A8 Z fun h' _ k m=>{_,Z9,af {_,Z9,h h' (fun b o e=>?_) m}}) (tZ _ _)));have lt:=aI e;refine k b o (aG (dD lt)) (aq _ ((aY _ _ (aG lt).symm).trans (aq _ e)))
end
end PyProof.Rows
namespace _L
open PySem PySem.Spec PyProof.Rows
section
variable{X:Cx}{e:cH}{t:TA}{p pos kp bp:Pos}
def IS(t:TA):TE:=fun σ H Q=>t σ H fun vs H1=>∃p,vs=[.ref p]/\H1 p=Z8 (.l [])/\∀l,H1 l=Z7->Q (.ref l) (upd H1 l (.l []))
theorem Da{x:ab}{Y:cH}(J:Gl X "sorted")(hm:X.mg "sorted"=Z7)(ha:PA X [e] t)(hk:PE X Y (tC (.ref x)))(L:jw pos (cL [e] X.env)=[(false,eY e X.env)]:=by rfl)
  (Z:(jR pos (gX [{Z8 "key",Y,kp}] X.env)).all (·.1.isSome)=true:=by rfl) (U:(jR pos (gX [{Z8 "key",Y,kp}] X.env)).any (·.1.isNone)=false:=by rfl)
  (W:(jR pos (gX [{Z8 "key",Y,kp}] X.env)).filterMap (·.1)=[cN "key"]:=by rfl) :
  PE X (.Call (.Name "sorted" p) [e] [{Z8 "key",Y,kp}] pos) (IS t):=by
 intro pins s σ H Q I h;refine hV (pw I J hm boot_sorted ?_);refine callWith_kw (thn (ha pos pins s σ H _ I h) fun us s1 ⟨vs,H1,d,B,q1⟩=>?_) (by rw[L];rfl) (by rw[L];rfl) Z U;obtain⟨l,rfl,hl,q⟩:=q1;obtain⟨u,rfl,r⟩:=vals1 B
 cases r;refine kws_cons (thn (hk pins s1 σ H1 (fun v H2=>v=.ref x/\H2=H1) d (show _/\_ from⟨Z9,Z9⟩)) fun v s2 V=>kws_nil ?_);obtain⟨y,H2,O,g,e1,f⟩:=V;subst e1 f
 cases g;rw[W];obtain⟨its,n,rv,D,hz⟩:=O.lst hl
 cases rv;show aN _ _ (pz (.builtin "sorted") [.ref l] [(cN "key",.ref x)]) _ _ _;refine xy {_,D,Z9,n,Z9} fun h' k ⟨m,M⟩=>?_;have z:=O.laid (a:=s2.heap.objs.size+1) (o:=.l []) (t':=s2.toks) k (gO _) (h':=h') {aO _,[],m,.nil,M};exact{.ref (s2.heap.objs.size+1),_,z,Z9,q _ (O.hok.fresh (gO _))}
end
theorem z6{vs:List ae}{Z:List Int}(h:dY vs Z):dU (Z.map V.int) vs:=by
 induction h with
 |nil=>exact .nil
 |cons n t _ Y=>exact .cons ⟨t,Z9⟩ Y
section
variable{prog:aP}{w:bF}{A:cm}{E:ae->aj->Prop}{s:aj}
end
section
variable{X:Cx}
end
abbrev t6(xs:Array Nat):Prop:=xs.toList.Pairwise (·<·)
theorem t6.lt{xs:Array Nat}(r:t6 xs){i k:Nat}(h:i<k)(hk:k<xs.size)(d e:Nat):xs.getD i d<xs.getD k e:=by
 have q:=jm.mp r i k (by simpa using iP h hk) (by simpa using hk) h;simpa[nz,hk,iP h hk] using q
theorem Dc(xs:Array Nat)(r:t6 xs)(j:Nat):∀(f lo hi:Nat),hi<=xs.size->hi-lo<=f->lo<=hi->(∀k,k<lo->k<xs.size->xs.getD k 0<j)->(∀k,hi<=k->k<xs.size->j<=xs.getD k 0) ->
  je xs j f lo hi<=xs.size/\(∀k,k<je xs j f lo hi->k<xs.size->xs.getD k 0<j)/\∀k,je xs j f lo hi<=k->k<xs.size->j<=xs.getD k 0:=by
 intro f
 induction f with
 |zero=>
  intro lo hi h1 h2 V Z Y;unfold je;exact{by lia,Z,fun k hk=>Y k (by lia)}
 |succ f W=>
  intro lo hi h1 h2 V Z Y;unfold je
  by_cases c:lo<hi
  ·rw[Q6 c];dsimp only;have X:(lo+hi)/2<xs.size:=by omega
   have e:∀d,xs.getD ((lo+hi)/2) d=xs.getD ((lo+hi)/2) 0:=fun d=>by simp[nz,X]
   rw[e j]
   by_cases q:xs.getD ((lo+hi)/2) 0<j
   ·rw[Q6 q];refine W _ _ h1 (by omega) (by omega) (fun k hk hz=>?_) Y
    by_cases z:k<(lo+hi)/2
    ·exact iP (r.lt z X 0 0) q
    ·have z:k=(lo+hi)/2:=by omega
     rw[z];exact q
   ·rw[Q5 q];refine W _ _ (by omega) (by omega) (by omega) Z (fun k hk hz=>?_)
    by_cases z:(lo+hi)/2<k
    ·have:=r.lt z hz 0 0;omega
    ·have z:k=(lo+hi)/2:=by omega
     rw[z];omega
  ·rw[Q5 c];exact{by omega,Z,fun k hk=>Y k (by omega)}
theorem sP{xs:Array Nat}(r:t6 xs)(j:Nat):bX xs j<=xs.size/\(∀k,k<bX xs j->k<xs.size->xs.getD k 0<j)/\∀k,bX xs j<=k->k<xs.size->j<=xs.getD k 0:=
 Dc xs r j _ _ _ (aB _) (by lia) (aO _) (fun k hk=>by lia) fun k hk hz=>by lia
theorem De{xs:Array Nat}(r:t6 xs){j:Nat}(h:xs[bX xs j]?≠Z8 j):t6 (SetTable.insertAt xs (bX xs j) j):=by
 obtain⟨L,U,W⟩:=sP r j;show wC _ _;rw[SetTable.toList_insertAt];have hs:(xs.toList.take (bX xs j)++xs.toList.drop (bX xs j)).Pairwise (·<·):=by rw[oV];exact r
 obtain⟨V,p2,M⟩:=kQ.mp hs;have X:∀y∈xs.toList.drop (bX xs j),j<y:=fun y hy=>by
  obtain⟨k,hk,e⟩:=z7.mp hy;rw[List.getElem_drop]at e;rw[kB,dj]at hk;have hz:bX xs j+k<xs.size:=by omega
  have q:=W _ (Nat.le_add_right _ k) hz;have Y:xs.getD (bX xs j+k) 0=y:=by rw[<- e];simp[nz,hz]
  rw[Y]at q
  rcases Nat.lt_or_eq_of_le q with q|q
  ·exact q
  ·exfalso
   by_cases z:k=0
   ·subst z;refine h ?_;rw[Nat.add_zero]at hz Y;rw[fk hz];have z:=Y.trans q.symm;simp only[nz,hz,dite_true]at z;exact congrArg Z8 z
   ·have hb:bX xs j<xs.size:=by omega
    have O:=W _ (aB _) hb;have J:=r.lt (i:=bX xs j) (k:=bX xs j+k) (by omega) hz 0 0;omega
 refine kQ.mpr {V,lN.mpr ⟨X,p2⟩,fun x hx y hy=>?_};have Z:x<j:=by
  obtain⟨k,hk,e⟩:=z7.mp hx;rw[List.getElem_take]at e;rw[dB,dj]at hk;have hz:k<xs.size:=by omega
  have q:=U k (by omega) hz;have Y:xs.getD k 0=x:=by rw[<- e];simp[nz,hz]
  omega
 rcases aD.mp hy with rfl|hy
 ·exact Z
 ·exact iP Z (X y hy)
theorem Bb{t:fx}{j:Nat}(h:∀i,t.slot j≠.live i):t.place[bX t.place j]?≠Z8 j:=fun z=>by
 refine h (bX t.place j) ?_;unfold SetTable.slot;dsimp only;rw[Q6 (by rw[z];exact beq_self_eq_true _)]
theorem y7{t:fx}{g:Nat->Int}{h:Int}:∀(f:Nat) (p:Bx) (j:Nat) (d:Option Nat),(∀k,p.dummy=Z8 k->∀i,t.slot k≠.live i)->nV t g h f p=Z8 (.empty j d)->∀i,t.slot (d.getD j)≠.live i:=by
 intro f
 induction f with
 |zero=>intro p j d _ e;unfold nV at e;cases e
 |succ f X=>
  intro p j d Y e;have Z:∀p:Bx,(t.advance p).dummy=p.dummy:=fun p=>by unfold SetTable.advance;split<;>rfl
  unfold nV at e
  cases hs:t.slot p.j with
  |empty=>
   rw[hs]at e;dsimp only at e;injection e with e;injection e with e1 W;subst e1 W
   cases hq:p.dummy with
   |none=>intro i z;rw[qW,hs]at z;cases z
   |some k=>rw[Option.getD_some];exact Y k hq
  |dummy=>
   rw[hs]at e;dsimp only at e;refine X _ j d (fun k hk i=>?_) e;rw[Z]at hk;injection hk with hk;subst hk;rw[hs];exact fun z=>by cases z
  |live i=>
   rw[hs]at e;dsimp only at e
   split at e
   ·cases e
   ·exact X _ j d (fun k hk=>Y k (by rw[Z]at hk;exact hk)) e
theorem t7{t:fx}{h:Int}{j:Nat}{d:Bool}(e:t.freeSlot h=Z8 (j,d)):t.place[bX t.place j]?≠Z8 j:=by
 unfold SetTable.freeSlot at e
 split at e
 ·rename_i j' d' q
  injection e with e;injection e with e1 Z;subst e1;exact Bb (y7 _ _ j' d' (fun k hk=>by cases hk) q)
 ·cases e
def Tb(b:Bool)(t:fx):Prop:=t.led=b/\(t.plain=true->t6 t.place)
theorem Tb.fresh{b:Bool}{f m:Nat}:Tb b (.fresh f m b):={Z9,fun _=>.nil}
theorem Tb.off{b:Bool}{t:fx}(h:Tb b t):Tb b {t with plain:=false}:={h.1,fun z=>by cases z}
theorem Tb.stand{b:Bool}{t:fx}{n:Nat}(h:Tb b t):Tb b (t.standIn n):={h.1,fun z=>by cases z}
theorem Tb.new{b:Bool}{t:fx}(h:Tb b t)(es:Array (Int×ae))(k:Int)(x:ae):Tb b (layNew t es k x).2.1:=by
 unfold layNew
 split
 ·rename_i slot d q
  show Tb b ((t.put slot).1.orStandIn _);have g:Tb b (t.put slot).1:={h.1,fun z=>De (h.2 z) (t7 q)};unfold SetTable.orStandIn
  split
  ·exact g
  ·exact g.stand
 ·exact h.stand
theorem Tb.relay{b:Bool}{t:fx}(h:Tb b t)(es:Array (Int×ae))(n:Nat):Tb b (t8 t es n).2.1:=by
 unfold t8
 split
 ·rename_i t' order q
  dsimp only
  split
  ·unfold SetTable.relaid SetTable.laid at q
   cases hl:SetTable.layClean (SetTable.sizeAbove n-1) (es.map (·.1)) with
   |none=>rw[hl]at q;cases q
   |some owner=>
    rw[hl]at q;injection q with q;injection q with Y W;subst Y;refine{h.1,fun _=>?_};show wC _ (List.toArray _).toList;rw[List.map_filterMap];refine List.Pairwise.filterMap (R:=(·<·)) _ (fun a V lt b hb X Z=>?_) List.pairwise_lt_range;simp only[cX]at hb Z;obtain⟨_,⟨_,_,rfl⟩,rfl⟩:=hb;obtain⟨_,⟨_,_,rfl⟩,rfl⟩:=Z;exact lt
  ·exact h.stand
 ·exact h.stand
def iv:ae->Int
 |.int n _=>n
 |_=>0
section
variable{P:aP}{w:bF}{A:cm}{E:ae->aj->Prop}{s:aj}
def SeT(P:aP)(w:bF)(h:cz)(a:ab)(l:List Int)(b:Bool):Prop:=
 ∃o es ep t,h.get? a=Z8 o/\o.ExactSet/\o.data=.set es ep t/\Dh (iK P w) es.toList/\(es.toList.map fun e=>iv e.2).Perm l/\es.size<jG/\t.fits es.size=true/\Tb b t
theorem Di{k:Int}{v:ae}(h:(iK P w).is k v=true):∃t,v=.int k t:=Bn (show yg k v=true from h)
theorem IT{es:List (Int×ae)}(h:Dh (iK P w) es)(k:Int):(∃e∈es,(iK P w).is k e.2=true)↔k∈es.map fun e=>iv e.2:=by
 constructor
 ·rintro⟨e,Z,q⟩;obtain⟨t,Y⟩:=Di q;exact bY.mpr {e,Z,by rw[Y];rfl}
 ·intro m;obtain⟨e,Z,q⟩:=bY.mp m;obtain⟨⟨X,hk,_⟩,_⟩:=h e Z;obtain⟨t,Y⟩:=Di hk;refine{e,Z,?_};rw[Y]at q;rw[<- show X=k from q];exact hk
theorem SeT.kept{h h':cz}{a:ab}{l:List Int}{b:Bool}(x:SeT P w h a l b)(k:∀o,h.get? a=Z8 o->h'.get? a=Z8 o):SeT P w h' a l b:=
 let ⟨o,es,ep,t,h1,r⟩:=x;{o,es,ep,t,k o h1,r}
theorem Dj{a:ab}{o:Obj}{es Z:Array (Int×ae)}{ep:Nat}{t t1:fx}{l:List Int}{b c:Bool}{R:Option Bool->aj->Prop}{g:Bool->Sem Unit}
  (B:∀(b:Bool) (X:aj) (J:Unit->aj->Prop),J () X->aN (aW P w) A (g b) J E X)
  (h1:s.heap.get? a=Z8 o) (h2:o.ExactSet) (D:o.data=.set es ep t) (e1:Dh (iK P w) Z.toList) (L:(Z.toList.map fun e=>iv e.2).Perm l) (O:Z.size<jG) (f1:t1.fits Z.size=true) (tb:Tb b t1)
  (h:∀h',fX a s.heap h'->SeT P w h' a l b->R (Z8 true) {s with heap:=h'}) :
  aN (aW P w) A (do
    storeSet a Z t1
    if (!c&&t1.tooFull)=true then do
      g (t8 t1 Z (iW Z.size)).2.2
      storeSet a (t8 t1 Z (iW Z.size)).1 (t8 t1 Z (iW Z.size)).2.1
      pure (Z8 true)
     else pure (Z8 true)) R E s:=by
 have put:∀{hp:cz} {o:Obj} {es:Array (Int×ae)} {ep:Nat} {t:fx} (Y:Array (Int×ae)) (t':fx),hp.get? a=Z8 o->o.data=.set es ep t->(hp.update a (Dk Y t')).get? a=Z8 {o with data:=.set Y (ep+1) t'}:=by
  intro hp o es ep t Y t' z I;have q:=cC (Dk Y t') z (by rw[putSet_of Y t' I];rfl);rw[putSet_of Y t' I]at q;exact q
 refine aa (Jt h1 D ?_ (nX O));have U:=put Z t1 h1 D;have W:=c7 s.heap a (Dk Z t1)
 split
 ·have p2:=relayAll_perm t1 Z (iW Z.size);have y:=relayAll_fits t1 Z (iW Z.size);have V:=tb.relay Z (iW Z.size);have M:(t8 t1 Z (iW Z.size)).1.size<jG:=by
   rw[<- dj,p2.length_eq,dj];exact O
  refine aa (B _ _ _ (aa (Jt U rfl ?_ (nX M))));exact af (h _ (W.trans (c7 _ a _)) {_,_,_,_,put _ _ U rfl,h2,Z9,e1.perm p2,(p2.map _).trans L,M,y,V})
 ·exact af (h _ W {_,_,_,_,U,h2,Z9,e1,L,O,f1,tb})
theorem IU{a:ab}{l:List Int}{b:Bool}{k:Int}{tok:Tok}{Q:Bool->aj->Prop}(d:SeT P w s.heap a l b)(W:l.length+1<jG)
  (h:∀r h',fX a s.heap h'->SeT P w h' a (sQ l k) b->Q r {s with heap:=h'}):aN (aW P w) A (setAddHashed a (.int k tok) ((iK P w).hash k)) Q E s:=by
 obtain⟨o,es,ep,t,h1,h2,M,U,J,f,B,tb⟩:=d;have key:(iK P w).is k (.int k tok)=true:=intKind_is _ _ _ _;have sz:es.size=l.length:=by rw[<- J.length_eq,ak,dj]
 unfold setAddHashed setAddHashedIn;refine c8 (aa (eu h1 M B ?_));dsimp only;rw[byScan_of (knd:=iK P w) rfl f U];simp only[↓reduceIte];unfold setAddByScan;refine aa (aa (pD (aa (wpAny_setScan_of key h1 M B U ?_))));have mem:(l.any (·==k))=true↔∃e∈es.toList,(iK P w).is k e.2=true:=by
  rw[IT U,J.mem_iff,kC];exact{fun⟨x,hx,z⟩=>by rw[<- eq_of_beq z];exact hx,fun z=>{k,z,beq_self_eq_true _}}
 cases hr:List.findIdx? (fun e=>(iK P w).is k e.2) es.toList with
 |some j=>
  dsimp only;obtain⟨hj,hp,_⟩:=List.findIdx?_eq_some_iff_getElem.mp hr;have m:=mem.mpr {es.toList[j],jd hj,hp};refine af (af ?_);have q:=h false s.heap (Heap.SameBut.refl a s.heap) (by unfold sQ;rw[Q6 m];exact⟨o,es,ep,t,h1,h2,M,U,J,f,B,tb⟩);exact q
 |none=>
  dsimp only;have m:¬(l.any (·==k))=true:=fun z=>by
   obtain⟨e,he,hp⟩:=mem.mp z;have q:=List.findIdx?_eq_none_iff.mp hr e he;rw[hp]at q
   cases q
  have q:∀h',fX a s.heap h'->SeT P w h' a (l++[k]) b->aN (aW P w) A (pure true) Q E {s with heap:=h'}:=fun h' O z=>af (h true h' O (by unfold sQ;rw[Q5 m];exact z));have hp:=layNew_perm t es ((iK P w).hash k) (.int k tok);have V:=layNew_fits t es ((iK P w).hash k) (.int k tok);have X:=tb.new es ((iK P w).hash k) (.int k tok);generalize layNew t es ((iK P w).hash k) (.int k tok)=L at hp V X |-;obtain⟨Y,t1,c,gv⟩:=L;dsimp only at hp V X |-;rw[By]at hp;have e1:Dh (iK P w) Y.toList:=(U.push key rfl).perm hp;have g:(Y.toList.map fun e=>iv e.2).Perm (l++[k]):=by
   refine (hp.map _).trans ?_;rw[cq];exact J.append_right _
  have y:Y.size<jG:=by
   rw[<- dj,hp.length_eq,aL,dj,sz];exact W
  have D:∀(b:Bool) (Z:aj) (I:Unit->aj->Prop),I () Z->aN (aW P w) A (match b with|true=>Ep "set.scan.the-table-gave-way" | false=>pure ()) I E Z:=fun b Z I z=>by
   cases b
   ·exact af z
   ·exact pD z
  refine aa (D _ _ _ ?_)
  split
  ·refine aa ?_;rw[hashByValue_scannable 8 rfl];refine af ?_;refine Dj (l:=l++[k]) (b:=b) D h1 h2 M e1 g y ?_ ?_ fun h' O z=>q h' O z
   ·split
    ·exact V
    ·exact SetTable.fits_plain_off V
   ·split
    ·exact X
    ·exact X.off
  ·refine aa (af ?_);simp only[↓reduceIte];exact Dj (l:=l++[k]) (b:=b) D h1 h2 M e1 g y V X fun h' O z=>q h' O z
end
section
variable{P:aP}{w:bF}{A:cm}{E:ae->aj->Prop}{s:aj}
theorem Fk{R:rV->aj->Prop}{I:ab}{fp wr:List ab}{G:Array El->Array El->Prop}{n:Nat}{C:Nat->ae->Prop}{St:Nat->aj->Prop}{b:Bool}(W:WalksS P w A.in1 I fp wr G n C St)(a:ab)(ha:a∉fp)
  (val:Nat->Int) (X:∀i v,C i v->∃t,v=.int (val i) t) (hb:n+1<jG) :
  ∀(k i:Nat) (s:aj),n-i=k->i<=n->St i s->SeT P w s.heap a (qP val i) b->(∀s',Moved (a::wr) G s s'->SeT P w s'.heap a (qP val n) b->R (.ok (.ret .none)) s') ->
   iL (aW P w) A (.builtin "set.update.loop" {[.ref a,.ref I],[]}) R s:=by
 have Y:=fun h=>ha (W.sub _ h);have sub:∀c∈wr,c∈a::wr:=fun c hc=>bL _ hc;intro k
 induction k with
 |zero=>
  intro i s hk hi st M L;obtain rfl:i=n:=by lia
  exact dJ mw (aa (W.done s _ _ st fun s' V=>af (L s' (V.mono sub) (M.kept fun o q=>V.heap a _ Y q))))
 |succ k f=>
  intro i s hk hi st M L;have Z:i<n:=by lia
  refine dJ mw ?_;rw[dP mz _];refine aa (W.item i s _ _ Z st fun v s' y J V=>?_);obtain⟨t,rfl⟩:=X i v y;have d:=IV val i;refine aa (c8 (c8 (aa ((iK P w).pyHash (intKind_is _ _ _ _) (IU (M.kept fun o q=>V.heap a _ Y q) (by lia) fun r h' g U=>?_)))));rw[<- firstMet_succ]at U;have old:∀c,c≠a->∀o,s'.heap.get? c=Z8 o->h'.get? c=Z8 o:=fun c hc o q=>(g.2 c hc).trans q;exact af {eT mz _,f (i+1) _ (by lia) Z (W.frame _ s' _ _ J (gO _) fun c hc o q=>old c (fun z=>ha (z ▸ hc)) o q) U fun O B D=>L O (Moved.trans W.gtrans ((V.mono sub).then_heap (gO _) fun c o hc q=>old c (fun z=>hc (z ▸ aU)) o q) B) D}
theorem IW(v:ae){Q:ae->aj->Prop}(h:Q (.ref s.heap.objs.size) {s with heap:=s.heap.push {cls:=.type "set",dict:=Z7,data:=.set #[] 0 (.fresh 0 0 (!w.params.followText "set-order"))}}) :
  iL (aW P w) A (.call (.builtin "set.__new__") {[.type "set",v],[]}) (wants Q E) s:=by
 refine codeAny_of_tree (aa (jy (PySem.F.newCall_set_1 v) (af {eT PySem.F.plain_set_new _,dJ PySem.F.entry_set_new ?_})));unfold fi.«set.__new__» Fn;have Z:=sub_set_self
 wp_walk
 exact jH (af (aa (wpAny_alloc (af (af h)))))
theorem Fo{l:ab}{vs:List ae}{L:List Int}{Q:ae->aj->Prop}(hh:A.handled=Z7)(hl:s.heap.IsList l vs.toArray)(hi:dY vs L)(hb:vs.length+1<jG)
  (h:∀(h':cz) (tk:Nat),SeT P w h' s.heap.objs.size (qP (fun i=>L.getD i 0) vs.length) (!w.params.followText "set-order")->(∀c o,s.heap.get? c=Z8 o->h'.get? c=Z8 o)->Q (.ref s.heap.objs.size) {s with heap:=h',toks:=tk}) :
  aN (aW P w) A (pz (.type "set") [.ref l]) Q E s:=by
 obtain⟨c,tl,ci⟩:=fy.mro;have I:=fy.made;have ck:=fy.sub;refine yw (codeAny_of_tree ?_);show aN _ _ (callAny (.type "set") _) _ _ _;refine af {qx _ (by decide +kernel),dJ PySem.F.entry_type_call ?_};rw[Around.under_plain (weight_type_call_type "set" [.ref l] []) rfl];have h1:=fy.notType;have h2:=fy.canCreate;have cc:=PySem.F.typeCall_set_1 (.ref l)
 repeat (any_goals (first|assumption|wp_step))
 let X:Obj:={cls:=.type "set",dict:=Z7,data:=.set #[] 0 (.fresh 0 0 (!w.params.followText "set-order"))}
 refine kK (IW (.ref l) (E:=E) (Q:=fun v Y=>v=.ref s.heap.objs.size/\Y={s with heap:=s.heap.push X}) ⟨Z9,Z9⟩) fun r Y t=>?_
 cases r with
 |error e=>exact t
 |ok fl=>
  cases fl with
  |ret obj=>
   obtain⟨rfl,rfl⟩:=t;have f:(s.heap.push X).get? s.heap.objs.size=Z8 X:=aE _ rfl;have hT:uT {s with heap:=s.heap.push X} (.ref s.heap.objs.size) "set":={_,f,Z9};have cd:=fy.init.lookup;have ce:=fy.init.bind (.ref s.heap.objs.size)
   repeat (any_goals (first|assumption|wp_step))
   refine kK (Fi (R:=wants (fun r W=>r=.none/\∃h' tk,W={s with heap:=h',toks:=tk} /\
     SeT P w h' s.heap.objs.size (qP (fun i=>L.getD i 0) vs.length) (!w.params.followText "set-order")/\∀c o,s.heap.get? c=Z8 o->h'.get? c=Z8 o) E) fy.init.plain PySem.F.entry_set_init (check_set_init_1 hT ?_)) fun O W Z=>?_
   ·obtain⟨⟨oc,od,cb,os⟩,g1,g2,d,g3⟩:=hl;simp only at g2 g3;subst g2 g3;have y:(s.heap.push X).get? l=Z8 {cls:=.type "list",dict:=od,data:=.seq vs.toArray d,slots:=os}:=aq _ g1;have f1:=PySem.F.sub_list_set;have f2:=PySem.F.sub_list_frozenset;have f3:(Value.type "list"==Value.type "dict")=false:=by decide
    have M:(s.heap.push X).IsList l vs.toArray:={_,y,Z9,d,Z9};unfold fi.«set.__init__» noKeywords Fp;generalize hPI:qA=PI
    wp_walk
    subst hPI;refine kH M (aa (wpAny_runValue ?_));have lt:l<s.heap.objs.size:=aI g1;have n2:l≠(s.heap.push X).objs.size:=by rw[eA];exact aG (dD lt)
    have n3:s.heap.objs.size∉[(s.heap.push X).objs.size,l]:=by
     rw[eA];simp only[aD,aX,or_false,not_or];exact{aG (iH _),gI lt}
    refine Fk (b:=!w.params.followText "set-order") ((AR (by simp[hh]) _ l n2 vs.toArray).toS) s.heap.objs.size n3 (fun i=>L.getD i 0) (fun i v q=>IntsAre.int_at hi i v (by simpa using q)) (by simpa using hb) (vs.toArray.size-0) 0 _ (by omega) (aO _)
     {{_,aE _ rfl,Z9,Z9},M.push _} {_,_,_,_,aq _ f,⟨Z9,Z9,Z9⟩,Z9,(fun e he=>by simp at he),.nil,by unfold jG;simp,Z9,Tb.fresh} fun s' J U=>?_
    obtain⟨h',g',d',D,B⟩:=s';have eg:g'=s.gens:=J.gens;have ed:d'=s.drawn:=J.drawn;have eo:B=s.os:=J.os;subst eg ed eo;show aN _ _ _ _ _ _;refine af ?_;show aN _ _ (ret Value.none) _ _ _;refine af {Z9,h',D,Z9,by simpa using U,fun c o q=>?_};have z:=aI q;refine J.heap c o ?_ (aq _ (aq _ q));rw[eA];simp only[aD,aX,or_false,not_or];exact{aG z,aG (dD z)}
   ·cases O with
    |error e=>exact Z
    |ok V=>
     cases V with
     |ret r=>
      obtain⟨rfl,h',tk,rfl,U,g⟩:=Z
      repeat (any_goals (first|assumption|wp_step))
      exact h _ _ U g
     |_=>exact Z.elim
  |_=>exact t.elim
end
theorem eK:Slot "set_iterator" "__next__" "set_iterator.__next__":=
 .of (owner:="set_iterator") (n:="__next__") (by rw[xc,qf];kernel_rfl) (by decide +kernel) (by decide +kernel) (by decide +kernel)
  (by first|exact .inl (by decide +kernel)|exact .inr (by decide +kernel)) (by rw[y8];kernel_rfl)
theorem jP:tS Jq "set_iterator.__next__"=Z8 fi.«set_iterator.__next__»:=entryFor_of_fast (by kernel_rfl)
theorem kf(a:ae):oM "set_iterator.__next__" {[a],[]}:=by unfold oM;kernel_rfl
def Sit(h:cz)(I a:ab)(f:ae)(i n ep:Nat):Prop:=∃o t1 Z Y,h.get? I=Z8 o/\o.cls=.type "set_iterator"/\o.data=.fields #[f,.int i t1,.ref a,.int n Z,.int ep Y]
section
variable{P:aP}{w:bF}{A:cm}{E:ae->aj->Prop}{s:aj}
theorem Sit.typeIs{I a:ab}{f:ae}{i n ep:Nat}(x:Sit s.heap I a f i n ep):s.TypeIs (.ref I) "set_iterator":=let ⟨o,_,_,_,h1,h2,_⟩:=x;⟨o,h1,h2⟩
theorem xA{a:ab}{X i ep Z:Nat}{o:Obj}{es:Array (Int×ae)}{t:fx}{Q:Option (ae×Nat)->aj->Prop}(h1:s.heap.get? a=Z8 o)(O:o.data=.set es ep t)(V:t.fits es.size=true)
  (W:w.params.followText "set-order"=false) (Y:t.led=true) (U:t.plain=true\/es.size<=1)
  (q:Q (match es[bX t.place X]?,t.place[bX t.place X]? with|some (_,x),Z8 j=>Z8 (x,j+1)|_,_=>Z7) s):aN (aW P w) A (yf a X i Z) Q E s:=by
 unfold yf y9;refine aa (eu h1 O V ?_);dsimp only;refine aa (aa (jH (af ?_)));refine iC (fun c=>Q7 (show w.params.followText "set-order"=true from c) (by rw[W];exact bz)) (fun _=>?_);refine iC (fun c=>Q7 (show (!t.plain&&decide (es.size>1))=true from c) ?_) (fun _=>?_)
 ·rcases U with z|z
  ·rw[z];exact bz
  ·rw[Q4 (by omega),FY];exact bz
 ·refine aa (m:=(if (!t.led&&!es.isEmpty)=true then unsupported "set:maker-not-led" else pure ())) ?_;rw[Q5 (by rw[Y];exact bz)];exact af (af q)
theorem xB{a:ab}{Z i ep:Nat}{o:Obj}{es:Array (Int×ae)}{t:fx}{Q:Option (ae×Nat)->aj->Prop}(h1:s.heap.get? a=Z8 o)(X:o.data=.set es ep t)(W:t.fits es.size=true)
  (Y:w.params.followText "set-order"=true) (q:Q (((o5 (w.params.setOrder a ep) es)[i]?).map fun e=>(e.2,Z)) s):aN (aW P w) A (yf a Z i ep) Q E s:=by
 unfold yf y9;refine aa (eu h1 X W ?_);dsimp only;refine aa (aa (jH (af ?_)));refine iC (fun _=>?_) (fun c=>Q7 (show w.params.followText "set-order"=true from Y) c);rw[Q5 (by simp)];refine aa ?_;unfold setWalk y9;refine aa (eu h1 X W ?_);dsimp only;refine aa (aa (jH (af ?_)));refine iC (fun _=>?_) (fun c=>Q7 (show w.params.followText "set-order"=true from Y) c);exact aa (jH (af (af q)))
theorem xC{I a:ab}{W j i n ep:Nat}{M:Tok}{o:Obj}{es:Array (Int×ae)}{t:fx}{v:ae}{Q:Option ae->aj->Prop}(Z:Sit s.heap I a (.int W M) i n ep)(h1:s.heap.get? a=Z8 o)(L:o.data=.set es ep t)(U:t.fits es.size=true)(hn:es.size=n)
  (nx:∀(A:cm) (E:ae->aj->Prop) (Q:Option (ae×Nat)->aj->Prop),Q (Z8 (v,j)) s->aN (aW P w) A (yf a W i ep) Q E s)
  (q:∀h',Sit h' I a (.int j 0) (i+1) n ep->fX I s.heap h'->Q (Z8 v) {s with heap:=h'}):aN (aW P w) A (fH (.ref I)) Q E s:=by
 obtain⟨D,t1,V,J,X,O,Y⟩:=id Z;unfold fH;refine aa (gY (dA (name:=cN "__next__") Z.typeIs eK
  (cy eK Z.typeIs jP ?_ (kf _))))
 unfold fi.«set_iterator.__next__»;refine aa (af ?_);refine aa (gB X Y ?_);dsimp only;refine aa ?_;unfold sS;refine aa (eu h1 L U (af ?_));dsimp only;rw[Q5 (by rw[hn];simp)];simp only[dE];refine aa (nx _ _ _ ?_);dsimp only;refine aa (gC X Y (by simp) ?_);have u1:=cC (gQ (·.setIfInBounds 0 (e8 (j:Int)))) X (gZ (cW Y _));refine aa (gC u1 (cW Y _) (by simp) ?_);have u2:=cC (gQ (·.setIfInBounds 1 (e8 ((i:Int)+1)))) u1 (gZ (cW (cW Y _) _));refine af {_,Z9,af (q _ {_,0,V,J,u2,?_,?_} ((c7 ..).trans (c7 ..)))}
 ·rw[j0,j0];exact O
 ·rw[cW (cW Y _)];simp[e8]
theorem xE{I:ab}{fs:Array ae}{Z:Obj}{h0:cz}{Q:Option ae->aj->Prop}(V:A.handled=Z7)(W:s.heap.get? I=Z8 Z)(Y:Z.data=.fields fs)(hi:2<fs.size)(X:jK I h0 s.heap)
  (q:∀h',jK I h0 h'->Q Z7 {s with heap:=h'}) :
  aN (aW P w) A.in1 (do qG (.ref I) 2 .none;let x <- vJ (.type "StopIteration") [];yD x:Sem Fin) (fun fin s'=>∃v,fin=Fin.done (Flow.ret v)/\aN (aW P w) A (pure (Z8 v)) Q E s')
   (fun e s'=>aN (aW P w) A (do let b <- isInstance e (Value.type "StopIteration");if b=true then pure Z7 else throw e) Q E s') s:=by
 refine aa (gC W Y hi ?_);refine aa ?_;simp only[vJ,EN];refine aa (cw ?_ (by size_fits));refine aa (m:=iQ _ _) (jy (a:=Value.none) (by first|rfl|(simp only[iQ];rfl)) ?_);refine cw ?_ (by size_fits);simp only[yD];refine aa (rH ?_);rw[show A.in1.handled=Z7 from V];refine aa (af (wB ?_));refine aa (k6 (T:="StopIteration") (b:=true) {_,aE _ rfl,Z9} qH ?_);exact af (q _ (fun b o n e=>((((c7 ..).extBut).push _).push _) b o n (X b o n e)))
theorem z8{I a:ab}{W i n ep:Nat}{O:Tok}{o:Obj}{es:Array (Int×ae)}{t:fx}{Q:Option ae->aj->Prop}(U:A.handled=Z7)(Z:Sit s.heap I a (.int W O) i n ep)(h1:s.heap.get? a=Z8 o)(M:o.data=.set es ep t)(V:t.fits es.size=true)(hn:es.size=n)
  (nx:∀(A:cm) (E:ae->aj->Prop) (Q:Option (ae×Nat)->aj->Prop),Q Z7 s->aN (aW P w) A (yf a W i ep) Q E s)
  (q:∀h',jK I s.heap h'->Q Z7 {s with heap:=h'}):aN (aW P w) A (fH (.ref I)) Q E s:=by
 obtain⟨B,t1,J,L,X,D,Y⟩:=id Z;unfold fH;refine aa (gY (dA (name:=cN "__next__") Z.typeIs eK
  (cy eK Z.typeIs jP ?_ (kf _))))
 unfold fi.«set_iterator.__next__»;refine aa (af ?_);refine aa (gB X Y ?_);dsimp only;refine aa ?_;unfold sS;refine aa (eu h1 M V (af ?_));dsimp only;rw[Q5 (by rw[hn];simp)];simp only[dE];refine aa (nx _ _ _ ?_);dsimp only;exact xE U X Y (by simp) (fun b o _ e=>e) q
theorem Bc{I a T:ab}{j i n ep O:Nat}{tj:Tok}{o W:Obj}{es:Array (Int×ae)}{t:fx}{v:ae}{hs:Int}{ds:Array ae}{Q:Option ae->aj->Prop}(Z:Sit s.heap I a (.ref T) i n ep)(h1:s.heap.get? a=Z8 o)(U:o.data=.set es ep t)(V:t.fits es.size=true)(hn:es.size=n)
  (J:s.heap.get? T=Z8 W) (z:W.data=.seq ds O) (D:ds[i]?=Z8 (.int j tj)) (L:es[j]?=Z8 (hs,v))
  (q:∀h',Sit h' I a (.ref T) (i+1) n ep->fX I s.heap h'->Q (Z8 v) {s with heap:=h'}):aN (aW P w) A (fH (.ref I)) Q E s:=by
 obtain⟨r,t1,M,y,X,B,Y⟩:=id Z;unfold fH;refine aa (gY (dA (name:=cN "__next__") Z.typeIs eK
  (cy eK Z.typeIs jP ?_ (kf _))))
 unfold fi.«set_iterator.__next__»;refine aa (af ?_);refine aa (gB X Y ?_);dsimp only;refine aa ?_;unfold sS;refine aa (eu h1 U V (af ?_));dsimp only;rw[Q5 (by rw[hn];simp)];simp only[dE];refine aa (gx J z ?_);dsimp only;rw[D];dsimp only;refine aa ?_;unfold setNextDrawn;refine aa (eu h1 U V ?_);dsimp only;rw[Q5 (by simp)];simp only[dE];rw[L];dsimp only;refine af (aa (gC X Y (by simp) ?_));have u2:=cC (gQ (·.setIfInBounds 1 (e8 ((i:Int)+1)))) X (gZ (cW Y _));refine af {_,Z9,af (q _ {_,0,M,y,u2,?_,?_} (c7 ..))}
 ·rw[j0];exact B
 ·rw[cW Y];simp[e8]
theorem Dl{I a T:ab}{i n ep V:Nat}{o W:Obj}{es:Array (Int×ae)}{t:fx}{ds:Array ae}{Q:Option ae->aj->Prop}(O:A.handled=Z7)(Z:Sit s.heap I a (.ref T) i n ep)(h1:s.heap.get? a=Z8 o)(D:o.data=.set es ep t)(U:t.fits es.size=true)(hn:es.size=n)
  (M:s.heap.get? T=Z8 W) (J:W.data=.seq ds V) (L:ds[i]?=Z7)
  (q:∀h',jK I s.heap h'->Q Z7 {s with heap:=h'}):aN (aW P w) A (fH (.ref I)) Q E s:=by
 obtain⟨y,t1,B,r,X,z,Y⟩:=id Z;unfold fH;refine aa (gY (dA (name:=cN "__next__") Z.typeIs eK
  (cy eK Z.typeIs jP ?_ (kf _))))
 unfold fi.«set_iterator.__next__»;refine aa (af ?_);refine aa (gB X Y ?_);dsimp only;refine aa ?_;unfold sS;refine aa (eu h1 D U (af ?_));dsimp only;rw[Q5 (by rw[hn];simp)];simp only[dE];refine aa (gx M J ?_);dsimp only;rw[L];dsimp only;refine aa (gC X Y (by simp) ?_);have u1:=cC (gQ (·.setIfInBounds 0 (e8 0))) X (gZ (cW Y _));exact xE (h0:=s.heap) (s:={s with heap:=s.heap.update I (gQ (·.setIfInBounds 0 (e8 0)))}) O u1 (cW Y _) (by simp) (c7 ..).extBut q
end
theorem sU:tS Jq "set.__iter__"=Z8 fi.«frozenset.__iter__»:=
 yG (id':="frozenset.__iter__") (by kernel_rfl) rfl (by decide +kernel) (by kernel_rfl)
section
variable{P:aP}{w:bF}{A:cm}{E:ae->aj->Prop}{s:aj}
theorem vR{Z:Type}:∀(xs:List Z) (i:Nat) (h:i<xs.length),(xs[i]::xs.eraseIdx i).Perm xs
 |x::xs,0,_=>.refl _
 |x::xs,i+1,h=>(List.Perm.swap x (xs[i]'(jZ h)) _).trans ((vR xs i (jZ h)).cons x)
theorem za{Z:Source}{n:Nat}{Q:Nat->aj->Prop}(hn:n≠0)(q:∀i d,i<n->Q i {s with drawn:=d}):aN (aW P w) A (choose Z n) Q E s:=fun Γ p _=>by
 unfold choose;rw[Sem.wp_choose];refine{hn,?_};rw[Sem.wp_pure];exact q _ _ (Nat.mod_lt _ (Nat.pos_of_ne_zero hn))
theorem Do{Y:Type}{Q:List Y->aj->Prop}:∀(n:Nat) (xs:List Y) (s:aj),xs.length=n->(∀ys d,ys.Perm xs->Q ys {s with drawn:=d})->aN (aW P w) A (drawOrder n xs) Q E s:=by
 intro n
 induction n generalizing Q with
 |zero=>
  intro xs s Z q
  cases xs with
  |nil=>unfold drawOrder;exact af (q [] s.drawn .nil)
  |cons x xs=>cases Z
 |succ n X=>
  intro xs s Z q
  cases xs with
  |nil=>cases Z
  |cons x xs=>
   unfold drawOrder;refine aa (za (by simp) fun i d hi=>?_);rw[aA hi];dsimp only;refine aa (X _ _ (by rw[uU hi];simpa using Z) fun ys d' p=>?_);refine af (q _ d' ?_);exact (p.cons _).trans (vR _ i hi)
inductive Wk(w:bF)(h:cz)(I a T:ab)(es:Array (Int×ae))(ep:Nat)(t:fx)(i:Nat):List ae->Prop
 |text{sl:Nat}{t0:Tok}(nb:w.params.followText "set-order"=true)(it:Sit h I a (.int sl t0) i es.size ep):Wk w h I a T es ep t i ((o5 (w.params.setOrder a ep) es).toList.map (·.2))
 |plain{sl:Nat}{t0:Tok}(nb:w.params.followText "set-order"=false)(pl:t.plain=true\/es.size<=1)(it:Sit h I a (.int sl t0) i es.size ep)(b:bX t.place sl=i):Wk w h I a T es ep t i (es.toList.map (·.2))
 |drawn{ds:List Nat}{o:Obj}{n:Nat}(it:Sit h I a (.ref T) i es.size ep)(k1:h.get? T=Z8 o)(k2:o.data=.seq (ds.map fun (j:Nat)=>e8 j).toArray n)(p:ds.Perm (i9 es.size)):Wk w h I a T es ep t i (ds.map fun j=>((es[j]?).map (·.2)).getD .none)
theorem z9{b:Bool}{t:fx}{n:Nat}(tb:Tb b t)(Z:t.fits n=true)(Y:t.plain=true\/n<=1):t6 t.place:=by
 rcases Y with z|z
 ·exact tb.2 z
 ·have hs:t.place.size=n:=by
   simp only[Dp,iE,beq_iff_eq]at Z;exact Z.1
  show wC _ _
  match h:t.place.toList with
  | []=>exact .nil
  | [x]=>exact xH _ _
  |x::y::r=>
   have q:=congrArg jJ h;rw[dj,hs]at q;simp at q
   lia
theorem Fq{xs:Array Nat}(r:t6 xs):bX xs 0=0:=by
 obtain⟨Y,Z,_⟩:=sP r 0
 cases h:bX xs 0 with
 |zero=>rfl
 |succ k=>
  rw[h]at Y Z;exact Q7 (Z 0 (Nat.succ_pos _) (by lia)) (tU _)
theorem zc{xs:Array Nat}(r:t6 xs){i j:Nat}(h:xs[i]?=Z8 j):bX xs (j+1)=i+1:=by
 obtain⟨U,Y,Z⟩:=sP r (j+1);have hi:i<xs.size:=by
  rcases rn i xs.size with z|z
  ·exact z
  ·rw[fg z]at h;cases h
 have e:xs.getD i 0=j:=by simp[nz,hi];rw[fk hi]at h;exact cv h
 have X:i<bX xs (j+1):=by
  rcases rn i (bX xs (j+1)) with z|z
  ·exact z
  ·have:=Z i z hi;lia
 rcases rn (i+1) (bX xs (j+1)) with z|z
 ·have W:=Y (i+1) z (by lia);have V:=r.lt (i:=i) (k:=i+1) (by lia) (by lia) 0 0
  lia
 ·lia
theorem Fs{b:Bool}{a:ab}{o:Obj}{es:Array (Int×ae)}{ep:Nat}{t:fx}{Q:ae->aj->Prop}(h1:s.heap.get? a=Z8 o)(h2:o.ExactSet)(Y:o.data=.set es ep t)(Z:t.fits es.size=true)(hb:es.size<jG)(tb:Tb b t)
  (q:∀I T h' d vs,Wk w h' I a T es ep t 0 vs->(∀b X,s.heap.get? b=Z8 X->h'.get? b=Z8 X)->I∉[a,T]->s.heap.objs.size<=I->(T=a\/s.heap.objs.size<=T)->Q (.ref I) {s with heap:=h',drawn:=d}):aN (aW P w) A (qA (.ref a)) Q E s:=by
 have V:s.TypeIs (.ref a) "set":=⟨o,h1,h2.1⟩;refine ft V wD (cy wD V sU ?_ (PySem.F.args_set_iter_1 _));unfold fi.«frozenset.__iter__»;refine aa (m:=Ft "__iter__" {[.ref a],[]}) (jy (a:=a) rfl ?_);refine aa (m:=pI a) ?_;unfold pI sS;refine aa (aa (eu h1 Y Z (af (af ?_))));dsimp only;refine aa ?_;unfold setDrawn y9;refine aa (eu h1 Y Z ?_);dsimp only;refine aa (aa (jH (af (af ?_))));have O:es.size<=aF:=nX hb;have lt:=aI h1;refine iC (fun c=>?_) (fun c=>?_)
 ·refine aa (Do _ _ _ q5 fun ds d p=>?_);have e1:(ds.map fun (j:Nat)=>e8 j).length<=aF:=by rw[ak,p.length_eq,q5];exact O
  refine aa (yW ?_ e1);refine aa (Ju (aq _ h1) Y Z ?_);refine aa (cw ?_ (by size_fits));refine af {_,Z9,"set_iterator",_,{_,aE _ rfl,Z9},eK.lookup,?_};refine q _ s.heap.objs.size _ d _ (.drawn (ds:=ds) {_,0,0,0,aE _ rfl,Z9,Z9} (aq _ (aE _ rfl)) rfl p) (fun b X e=>aq _ (aq _ e)) ?_ ?_ (.inr (aB _))
  ·rw[eA];simp only[aD,aX,or_false,not_or];exact{gI (dD lt),gI (iH _)}
  ·rw[eA];exact gO _
 ·refine aa (af ?_);refine aa (Ju h1 Y Z ?_);refine aa (cw ?_ (by size_fits));refine af {_,Z9,"set_iterator",_,{_,aE _ rfl,Z9},eK.lookup,?_};have go:∀vs,Wk w (s.heap.push {cls:=.type "set_iterator",data:=.fields [e8 0,e8 0,.ref a,e8 es.size,e8 ep].toArray}) s.heap.objs.size a a es ep t 0 vs->_:=fun vs k=>q s.heap.objs.size a _ s.drawn vs k (fun b X e=>aq _ e) (by
   simp only[aD,aX,or_false,not_or];exact{gI lt,gI lt}) (aB _) (.inl rfl)
  have it:Sit (s.heap.push {cls:=.type "set_iterator",data:=.fields [e8 0,e8 0,.ref a,e8 es.size,e8 ep].toArray}) s.heap.objs.size a (.int ((0:Nat):Int) 0) 0 es.size ep:={_,0,0,0,aE _ rfl,Z9,Z9}
  cases nb:w.params.followText "set-order" with
  |true=>exact go _ (.text nb it)
  |false=>
   have U:t.plain=true\/es.size<=1:=by
    have W:¬((!w.params.followText "set-order"&&(!t.plain&&decide (es.size>1)))=true):=c;rw[nb]at W
    cases hp:t.plain with
    |true=>exact .inl rfl
    |false=>
     rw[hp]at W;refine .inr ?_;simp at W;omega
   exact go _ (.plain nb U it (Fq (z9 tb Z U)))
end
theorem Fu{Z:Type}(nx:Nat->Nat):∀(f k:Nat) (l:List Z) (out:Array Z),l.length=f->(t9 nx f k l out).toList.Perm (out.toList++l):=by
 intro f
 induction f with
 |zero=>
  intro k l out h
  cases l with
  |nil=>unfold t9;rw[eB]
  |cons _ _=>cases h
 |succ f Y=>
  intro k l out h;unfold t9;have hi:nx k%l.length<l.length:=Nat.mod_lt _ (by lia);rw[aA hi];dsimp only;refine (Y _ _ _ (by rw[uU hi];lia)).trans ?_;rw[By,List.append_assoc];exact (vR l _ hi).append_left _
theorem Bd{Z:Type}(nx:Nat->Nat)(xs:Array Z):(o5 nx xs).toList.Perm xs.toList:=by
 have q:=Fu nx xs.size 0 xs.toList #[] (by simp);simpa[o5] using q
theorem ph:Slot "set_iterator" "__iter__" "set_iterator.__iter__":=
 .of (owner:="set_iterator") (n:="__iter__") (by rw[xc,qf];kernel_rfl) (by decide +kernel) (by decide +kernel) (by decide +kernel)
  (by first|exact .inl (by decide +kernel)|exact .inr (by decide +kernel)) (by rw[y8];kernel_rfl)
theorem sV:tS Jq "set_iterator.__iter__"=Z8 fi.«dict_keyiterator.__iter__»:=
 yG (id':="dict_keyiterator.__iter__") (by kernel_rfl) rfl (by decide +kernel) (by kernel_rfl)
theorem ua(a:ae):oM "set_iterator.__iter__" {[a],[]}:=by unfold oM;kernel_rfl
section
variable{P:aP}{w:bF}{A:cm}{E:ae->aj->Prop}{s:aj}{h:cz}{I a T:ab}{es:Array (Int×ae)}{ep i:Nat}{t:fx}{vs:List ae}{b:Bool}
theorem Wk.perm(k:Wk w h I a T es ep t i vs):vs.Perm (es.toList.map (·.2)):=by
 cases k with
 |text Y it=>exact (Bd _ es).map _
 |plain Y V it b=>exact .refl _
 |@drawn ds _ _ it W U p=>
  refine (p.map _).trans ?_;have e:((i9 es.size).map fun j=>((es[j]?).map (·.2)).getD .none)=es.toList.map (·.2):=by
   apply rM
   ·simp
   ·intro j X Z;simp at Z;simp[Z]
  rw[e]
theorem Wk.kept{h':cz}(k:Wk w h I a T es ep t i vs)(q:∀c∈[I,a,T],∀o,h.get? c=Z8 o->h'.get? c=Z8 o):Wk w h' I a T es ep t i vs:=by
 have Y:∀{f:ae} {n:Nat},Sit h I a f i n ep->Sit h' I a f i n ep:=fun {f n} ⟨o,t1,X,L,W,U⟩=>{o,t1,X,L,q I (by simp) o W,U}
 cases k with
 |text Z it=>exact .text Z (Y it)
 |plain Z O it b=>exact .plain Z O (Y it) b
 |drawn it V M p=>exact .drawn (Y it) (q T (by simp) _ V) M p
theorem Wk.sit(k:Wk w h I a T es ep t i vs):∃f,Sit h I a f i es.size ep:=by
 cases k with
 |text _ it=>exact{_,it}
 |plain _ _ it _=>exact{_,it}
 |drawn it _ _ _=>exact{_,it}
theorem Dq{o:Obj}(hh:A.handled=Z7)(V:o.data=.set es ep t)(Z:t.fits es.size=true)(tb:Tb (!w.params.followText "set-order") t)(nI:I∉[a,T]) :
  EO P w A I [I,a,T] [I] es.size (fun i v=>vs[i]?=Z8 v) (fun i h=>h.get? a=Z8 o/\Wk w h I a T es ep t i vs) where
 sub:=fun b hb=>by simp at hb;simp[hb]
 frame:=fun _ _ _ st hk=>{hk a (by simp) o st.1,st.2.kept hk}
 item:=fun i s Q E hi st U=>by
  obtain⟨h1,k⟩:=st;have g:a≠I:=fun z=>nI (by simp[z]);have nT:T≠I:=fun z=>nI (by simp[z]);have keep:∀{h':cz},fX I s.heap h'->∀b o,b∉[I]->s.heap.get? b=Z8 o->h'.get? b=Z8 o:=fun Y b o hb e=>(Y.2 b (fun z=>hb (by simp[z]))).trans e;have y:i<vs.length:=by rw[k.perm.length_eq];simpa using hi
  cases k with
  |@text B d W it=>
   have hp:i<(o5 (w.params.setOrder a ep) es).size:=by simpa using y
   refine xC (v:=(o5 (w.params.setOrder a ep) es)[i].2) (j:=B) it h1 V Z rfl (fun A E Q q=>xB h1 V Z W (by rw[fk hp];exact q)) fun h' X Y=>?_;exact U _ h' s.toks (by simp[hp]) {keep Y a _ (by simp[g]) h1,.text W X} (keep Y)
  |@plain B d W M it b=>
   have hr:=z9 tb Z M;have hs:t.place.size=es.size:=by
    simp only[Dp,iE,beq_iff_eq]at Z;exact Z.1
   have L:t.place[i]?=Z8 t.place[i]:=fk (by omega);refine xC (v:=es[i].2) (j:=t.place[i]+1) it h1 V Z rfl (fun A E Q q=>xA h1 V Z W (by rw[tb.1,W];rfl) M (by rw[b,fk hi,L];exact q)) fun h' X Y=>?_;exact U _ h' s.toks (by simp[hi]) {keep Y a _ (by simp[g]) h1,.plain W M X (zc hr L)} (keep Y)
  |@drawn ds oT nt it D r p=>
   have O:i<ds.length:=by simpa using y
   have L:ds[i]<es.size:=ug.mp (p.mem_iff.mp (jd O));refine Bc (j:=ds[i]) (tj:=0) (v:=es[ds[i]].2) (hs:=es[ds[i]].1) it h1 V Z rfl D r (by simp[O,e8]) (by rw[fk L]) fun h' X Y=>?_;exact U _ h' s.toks (by simp[O,L]) {keep Y a _ (by simp[g]) h1,.drawn X (keep Y T _ (by simp[nT]) D) r p} (keep Y)
 done:=fun s Q E st U=>by
  obtain⟨h1,k⟩:=st;have keep:∀{h':cz},jK I s.heap h'->∀b o,b∉[I]->s.heap.get? b=Z8 o->h'.get? b=Z8 o:=fun Y b o hb e=>Y b o (fun z=>hb (by simp[z])) e;have y:=k.perm.length_eq
  cases k with
  |@text B d W it=>
   have hp:(o5 (w.params.setOrder a ep) es).size<=es.size:=by simp at y;lia
   exact z8 hh it h1 V Z rfl (fun A E Q q=>xB h1 V Z W (by rw[fg hp];exact q)) fun h' J=>U h' s.toks (keep J)
  |@plain B d W M it b=>
   exact z8 hh it h1 V Z rfl (fun A E Q q=>xA h1 V Z W (by rw[tb.1,W];rfl) M (by rw[b,fg (aB _)];exact q)) fun h' J=>U h' s.toks (keep J)
  |@drawn ds oT nt it D r p=>
   have O:ds.length=es.size:=by rw[p.length_eq,q5]
   exact Dl hh it h1 V Z rfl D r (by simp[O]) fun h' J=>U h' s.toks (keep J)
 self:=fun _ s _ _ st U=>by
  obtain⟨f,it⟩:=st.2.sit;refine ft it.typeIs ph (cy ph it.typeIs sV ?_ (ua _));show aN _ _ (ret (.ref I)) _ _ s;exact af {_,Z9,"set_iterator",_,it.typeIs,eK.lookup,U}
end
end _L
namespace _L
open PySem PySem.Calls PySem.W PySem.Spec PyProof.Rows PyProof.V
section
variable{P:aP}{w:bF}{A:cm}{E:ae->aj->Prop}{s:aj}
theorem Fv{a:ab}{Q:Bool->aj->Prop}(Y:s.TypeIs (.ref a) "set")(h:Q false s):aN (aW P w) A (qv (.ref a)) Q E s:=by
 unfold qv;refine aa (wpAny_specialOf Y PySem.F.slot_set_len.lookup ?_);generalize hid:("set.__len__":String)=id0
 wp_delta
 rw[show splitId id0=Z8 ("set","__len__") from by subst hid;decide +kernel];subst hid;refine aa (k6 (T:="set") (b:=true) Y (by rw[y8];kernel_rfl) ?_);refine iC (fun Z=>Q7 Z (by decide)) (fun _=>?_);refine iC (fun _=>?_) (fun Z=>Q7 (by decide +kernel) Z);refine aa (tT Y ?_);exact af h
theorem Fw:∀{vs:List ae} {es:List (Int×ae)},Dh (iK P w) es->vs.Perm (es.map (·.2))->dY vs (vs.map iv):=by
 intro vs es X p;have all:∀v∈vs,∃k t,v=Value.int k t:=fun v hv=>by
  obtain⟨e,Y,rfl⟩:=bY.mp (p.mem_iff.mp hv);obtain⟨⟨k,hk,_⟩,_⟩:=X e Y;obtain⟨t,V⟩:=Di hk;exact⟨k,t,V⟩
 clear p
 induction vs with
 |nil=>exact .nil
 |cons v vs W=>
  obtain⟨k,t,rfl⟩:=all v aU;exact .cons k t (W fun u Z=>all u (bL _ Z))
theorem Be{R:rV->aj->Prop}{a S:ab}{l:List Int}{V:Nat}{res:ae}(hh:A.handled=Z7)(hS:SeT P w s.heap a l (!w.params.followText "set-order"))(O:S≠a)(g:s.heap.get? S=Z8 {cls:=.type "list",data:=.seq #[] V})
  (q:∀h' tk d Z c B,(∀b o,b≠S->s.heap.get? b=Z8 o->h'.get? b=Z8 o)->h'.get? S=Z8 {cls:=.type "list",dict:=Z7,data:=.seq Z c,slots:=#[]}->dY Z.toList B->B.Perm l->R (.ok (.ret res)) {s with heap:=h',toks:=tk,drawn:=d}) :
  aN (aW P w) A.in1 (kg (.ref S) (.ref a) res)
   (fun fin s'=>match fin with|.done f=>R (.ok f) s' | .again c'=>c'.quiet=true/\iL (aW P w) A c' R s') (fun e s'=>R (.error e) s') s:=by
 obtain⟨o,es,ep,t,h1,h2,h3,e0,p0,r,f0,tb⟩:=hS;have sl:es.size<=aF:=nX r;have hT:s.TypeIs (.ref a) "set":=⟨o,h1,h2.1⟩;unfold kg;refine aa (tT (T:="set") hT ?_);have n1:q8 (.ref S) (.ref a)=false:=by simp[q8,O]
 simp only[n1,show (Value.type "set"==Value.type "list")=false by decide,show (Value.type "set"==Value.type "tuple")=false by decide,Ic,dQ,if_false];refine aa (Fs h1 h2 h3 f0 r tb fun I T h' d vs k kp nI D J=>?_);have lt:=aI g;have W:=Dq (P:=P) (A:=A.in1) (vs:=vs) (o:=o) (by simpa using hh) h3 f0 tb nI;refine aa (c8 (Fv {o,kp _ _ h1,h2.1} ?_));have nf:S∉[I,a,T]:=by
  simp only[aD,aX,or_false,not_or];refine{aG (aZ lt D),O,?_}
  rcases J with z|z
  ·rw[z];exact O
  ·exact aG (aZ lt z)
 have key:∀(hx:cz) (Y:Nat),(hx.get? a=Z8 o/\Wk w hx I a T es ep t 0 vs)->(∀b o,b≠S->s.heap.get? b=Z8 o->hx.get? b=Z8 o)->hx.get? S=Z8 {cls:=.type "list",data:=.seq #[] Y} ->
   iL (aW P w) A (.builtin "list.extend.loop" {[.ref S,.ref I,res],[]}) R {s with heap:=hx,drawn:=d}:=by
  intro hx Y st old gS;refine codeAny_extend_loopS W.toS sl S nf res es.size 0 _ #[] Y rfl (aO _) st gS (ItemsOf.nil _) fun s' Z c hm L U=>?_;rw[Moved.eq_with hm];have ev:Z.toList=vs:=by
   apply rM
   ·rw[dj,U.1,k.perm.length_eq,ak,dj]
   ·intro j g1 M;have z:vs[j]?=Z8 (Z.toList[j]):=U.2 j (Z.toList[j]) (by rw[<- oK];exact aA g1);rw[aA M]at z;exact (cv z).symm
  refine q s'.heap s'.toks d Z c (vs.map iv) (fun b X hb e=>?_) L (by rw[ev];exact Fw e0 k.perm) ?_
  ·refine hm.heap b X (fun z=>?_) (old b X hb e)
   rcases aD.mp z with z|z
   ·exact hb z
   ·have y:=aI e;rw[aH.mp z]at y;exact Q7 (aZ y D) (fh _)
  ·refine (k.perm.map iv).trans ?_;rw[Jr];exact p0
 have g':=kp _ _ g;refine iC (fun _=>?_) (fun _=>af {eT tK _,key h' V {kp _ _ h1,k} (fun b o _ e=>kp b o e) g'});refine aa (pD (aa ?_));show aN _ _ (qY S (·.push .none) >>= fun _=>qY S (·.pop)) _ _ _;refine aa (iB g' rfl ?_);have M:=cC (dN (·.push Value.none)) g' rfl;refine iB (hz:=by seq_fits) M rfl ?_;have g3:=cC (dN (·.pop)) M rfl;have old:∀b X,b≠S->h'.get? b=Z8 X->((h'.update S (dN (·.push Value.none))).update S (dN (·.pop))).get? b=Z8 X:=fun b X hb e=>
  (aY _ _ (cE hb)).trans ((aY _ _ (cE hb)).trans e)
 refine af {eT tK _,key _ _ {old a _ (cE O) (kp _ _ h1),k.kept fun b hb X e=>old b X (fun z=>nf (z ▸ hb)) e} (fun b X hb e=>old b X hb (kp b X e)) g3}
theorem zd{R:List ae->aj->Prop}{a:ab}{l:List Int}(O:A.handled=Z7)(V:SeT P w s.heap a l (!w.params.followText "set-order"))
  (q:∀h' tk d vs Y,(∀b o,s.heap.get? b=Z8 o->h'.get? b=Z8 o)->dY vs Y->Y.Perm l->R vs {s with heap:=h',toks:=tk,drawn:=d}):aN (aW P w) A (collect (.ref a)) R E s:=by
 have M:a<s.heap.objs.size:=let ⟨_,_,_,_,h1,_⟩:=V;aI h1;unfold collect;refine aa (wpAny_runValue (dJ entry_proto_collect' ?_));rw[dP PySem.F.plain_proto_collect _];show aN _ A.in1 (newList [] >>= fun l=>again (.builtin "list.__iadd__" {[l,.ref a],[]})) _ _ s;refine aa (cw ?_);refine af {eT uV _,dJ entry_list_iadd' ?_};rw[dP uV _];have g:(s.heap.push {cls:=.type "list",data:=.seq ([]:List ae).toArray}).get? s.heap.objs.size=Z8 {cls:=.type "list",data:=.seq #[]}:=aE _ rfl;show aN _ A.in1 (kg (.ref s.heap.objs.size) (.ref a) (.ref s.heap.objs.size)) _ _ _;have key:=Be (P:=P) (w:=w) (A:=A) (s:={s with heap:=s.heap.push {cls:=.type "list",data:=.seq ([]:List ae).toArray}}) (a:=a) (S:=s.heap.objs.size) (l:=l) (res:=.ref s.heap.objs.size)
  (R:=fun r s'=>∃h' tk d Z c Y,r=.ok (.ret (.ref s.heap.objs.size))/\s'={s with heap:=h',toks:=tk,drawn:=d}/\(∀b o,s.heap.get? b=Z8 o->h'.get? b=Z8 o) /\
   h'.get? s.heap.objs.size=Z8 {cls:=.type "list",dict:=Z7,data:=.seq Z c,slots:=#[]}/\dY Z.toList Y/\Y.Perm l)
  O (V.kept fun o e=>aq _ e) (gI M) g
  (fun h' tk d Z c Y old X hi hp=>{h',tk,d,Z,c,Y,Z9,Z9,fun b o e=>old b o (aG (aI e)) (aq _ e),X,hi,hp})
 refine fo key (fun fin s' x=>?_) fun e s' x=>?_
 ·cases fin with
  |done f=>
   obtain⟨h',tk,d,Z,c,Y,e,rfl,old,X,hi,hp⟩:=x
   cases e;show aN _ A (load s.heap.objs.size >>= _) _ _ _;refine aa (HR X ?_);exact af (q h' tk d _ Y old hi hp)
  |again W=>
   refine{x.1,kK x.2 fun r U y=>?_};obtain⟨h',tk,d,Z,c,Y,rfl,rfl,old,X,hi,hp⟩:=y;show aN _ A (load s.heap.objs.size >>= _) _ _ _;refine aa (HR X ?_);exact af (q h' tk d _ Y old hi hp)
 ·obtain⟨_,_,_,_,_,_,L,_⟩:=x
  cases L
theorem Bf{a:ab}{l:List Int}{Q:ae->aj->Prop}(M:A.handled=Z7)(O:SeT P w s.heap a l (!w.params.followText "set-order"))(W:l.length<64)
  (h:∀(h1 h2:cz) (tk:Nat) (d:Drawn) (X:List ae) (Z:List Int) (e:Nat),(∀b o,s.heap.get? b=Z8 o->h1.get? b=Z8 o)->(∀b o,h1.get? b=Z8 o->h2.get? b=Z8 o)->h2.get? h1.objs.size=Z8 {cls:=.type "list",data:=.seq X.toArray e}->dY X Z->Z.Perm l->Z.Pairwise (·<=·)->Q (.ref h1.objs.size) {s with heap:=h2,toks:=tk,drawn:=d}) :
  aN (aW P w) A (pz (.builtin "sorted") [.ref a]) Q E s:=by
 refine Calls.call_function_entry kind_sorted plain_sorted entry_sorted (args_sorted1 _) ?_;unfold fi.«sorted»;refine aa (m:=checkCount "sorted" 1 1 _) (af ?_);have B:64<=aF:=by decide
 refine aa (zd (A:=A.in1) M O fun h' tk d vs z old hi hp=>?_);have U:vs.length=l.length:=by rw[Dr hi,hp.length_eq]
 refine aa (Ba ?_ (by rw[U];lia));have Y:(h'.push (fV "list" vs.toArray 0)).get? h'.objs.size=Z8 (fV "list" vs.toArray 0):=aE _ rfl;refine aa (c8 (cy slot_list_sort {_,Y,Z9} entry_list_sort (list_sort_tree (s:={s with heap:=h'.push (fV "list" vs.toArray 0),toks:=tk,drawn:=d}) Y hi (by rw[U];exact W) fun out Z D I L=>{_,Z9,?_}) (args_list_sort _)));obtain⟨e,J⟩:=sortedHeap_at (out:=out) Y;refine af {_,Z9,h h' _ tk d out.toList Z e old (fun b o V=>?_) J D (I.trans hp) L};have lt:=aI V;rw[sortedHeap_old (aG lt) (by rw[eA];exact dD lt)];exact aq _ V
end
end _L
namespace _L
open PySem PySem.Spec PyProof.Rows
def ze(X:Cx)(a:ab)(l:List Int):HO:=.ext fun h=>SeT X.prog X.w h a l (!X.w.params.followText "set-order")
theorem vS:∀{Z:List Int} {us:List ae},dU (Z.map V.int) us->dY us Z
 | [],_,r=>by rw[ya]at r;cases r;exact .nil
 |n::Z,_,r=>by
  rw[ig]at r
  cases r with
  |@cons _ u _ _ h t=>
   obtain⟨t',rfl⟩:∃t',u=.int n t':=h;exact .cons n t' (vS t)
theorem xI{l:List Int}{k:Int}(h:l.Nodup):(sQ l k).Nodup:=by
 unfold sQ
 split
 ·exact h
 ·rename_i c
  refine List.nodup_append.mpr {h,xH _ _,fun x hx y hy e=>c ?_};rw[aH]at hy;rw[e,hy]at hx;exact kC.mpr {k,hx,beq_self_eq_true _}
theorem uW(val:Nat->Int):∀i,(qP val i).Nodup
 |0=>pe
 |i+1=>by rw[firstMet_succ];exact xI (uW val i)
theorem Fx(Z:List Int)(k:Int):k∈qP (fun i=>Z.getD i 0) Z.length↔k∈Z:=by
 have e:(i9 Z.length).map (fun i=>Z.getD i 0)=Z:=by
  apply rM
  ·simp
  ·intro j X Y;simp[Y]
 have q:=firstMet_any (fun i=>Z.getD i 0) Z.length k;rw[e]at q;have m:∀l:List Int,k∈l↔l.any (·==k)=true:=fun l=>by
  rw[kC];exact{fun h=>{k,h,beq_self_eq_true _},fun⟨x,hx,z⟩=>by rw[<- eq_of_beq z];exact hx}
 rw[m,m,q]
section
variable{X:Cx}{pins:List (ab×Obj)}{σ:St}{H:Hp}{s:aj}{h':cz}
theorem Inv.keptD{t':Nat}{d':Drawn}(I:Inv X pins σ H s)(k:∀b u,s.heap.get? b=Z8 u->h'.get? b=Z8 u):Inv X pins σ H {s with heap:=h',toks:=t',drawn:=d'}:=
 I.step (g':=s.gens) (d':=d') (ch:=[]) (fun _ z=>nomatch z) (fun b o _ _ _ e _=>k b o e) (fun b o _ _ _ e _=>{o.slots,k b o e}) (fun _ _ _ _ n=>n) (fun b o _ e=>{o,k b o e}) (fun _ _ e=>e) (fun _ _ _ e=>e) (fun b ps e=>{#[],by rw[e];simp})
  (fun m ⟨o,es,ep,Z,r⟩=>{o,es,ep,k _ o Z,r}) (I.hok.kept k) I.bare
theorem Bg(hc:X.calm=true):kN X (.type "set") (fun xs H Q=>∃(p:ab) (Z:List Int),xs=[V.ref p]/\H p=Z8 (.l (Z.map V.int))/\Z.length+1<jG /\
  ∀(a:ab) (l:List Int),H a=Z7->l.Nodup->(∀k,k∈l↔k∈Z)->l.length<=Z.length->Q (.ref a) (upd H a (ze X a l))):=by
 intro pins s σ H xs us Q I r h;obtain⟨p,Z,rfl,hp,hb,q⟩:=h;obtain⟨u,rfl,W⟩:=vals1 r
 cases W;obtain⟨_,its,n,U,e⟩:=(show gE X.prog X.w H s.heap p (.l (Z.map V.int)) from I.hok p _ hp);have hi:=vS U;have O:its.length=Z.length:=Dr hi;refine Fo (I.ok.hd hc) (l:=p) (vs:=its) {_,e,Z9,n,Z9} hi (by omega) fun h' tk Y kp=>?_;rw[O]at Y;have z:=I.laid (a:=s.heap.objs.size) (o:=ze X s.heap.objs.size (qP (fun i=>Z.getD i 0) Z.length)) (t':=tk) (h':=h') kp (aB _) {Y,(let ⟨o,_,_,_,h1,_⟩:=Y;⟨o,h1⟩),fun h1 h2 x k=>SeT.kept x k};exact{.ref s.heap.objs.size,_,z,Z9,q _ _ (I.hok.fresh (aB _)) (uW _ _) (Fx Z) (IV _ _)}
theorem sW(hc:X.calm=true):kN X (.builtin "sorted") (fun xs H Q=>∃(p:ab) (l:List Int),xs=[V.ref p]/\H p=Z8 (ze X p l)/\l.length<64 /\
  ∀(b:ab) (U:List Int),H b=Z7->U.Perm l->U.Pairwise (·<=·)->Q (.ref b) (upd H b (.l (U.map V.int)))):=by
 intro pins s σ H xs us Q I r h;obtain⟨p,l,rfl,hp,O,q⟩:=h;obtain⟨u,rfl,B⟩:=vals1 r
 cases B;have f:64<=aF:=by decide
 obtain⟨D,_,_⟩:=(show gE X.prog X.w H s.heap p (ze X p l) from I.hok p _ hp);refine Bf (I.ok.hd hc) D O fun h1 h2 tk d Y Z e W M t g J y=>?_;have L:Inv X pins σ H {s with heap:=h1,toks:=tk,drawn:=d}:=I.keptD (t':=tk) W;have z:=L.laid (a:=h1.objs.size) (o:=.l (Z.map V.int)) (t':=tk) (h':=h2) M (aB _) {by rw[ak,J.length_eq];omega,Y,e,z6 g,t};exact{.ref h1.objs.size,_,z,Z9,q _ Z (L.hok.fresh (aB _)) J y}
end
theorem boot_set:eh "set"=Z8 (.type "set"):=by decide +kernel
section
variable{X:Cx}
theorem Bh{P:aP}{w:bF}:∀(kvs:List (Key×V)) (Z:List (Key×ae)),KV kvs Z->∀vs:List ae,vs.length=Z.length->(∀(j:Nat) (v:ae),vs[j]?=Z8 v->∃k x,Z[j]?=Z8 (k,x)/\(eF P w).is k v=true)->dU (kvs.map fun x=>kV x.1) vs:=by
 intro kvs
 induction kvs with
 |nil=>
  intro Z k vs Y _
  cases k
  cases vs with
  |nil=>exact .nil
  |cons _ _=>cases Y
 |cons X r D=>
  intro Z k vs Y hv
  cases k with
  |@cons _ M _ wr z U=>
   cases vs with
   |nil=>cases Y
   |cons v L=>
    obtain⟨W,I,a,b⟩:=hv 0 v rfl;have a:M=(W,I):=cv a;refine .cons ?_ (D wr U L (pT Y) fun j J O=>hv (j+1) J O);have e:X.1=W:=by rw[z.1,a]
    show RelV (kV X.1) v;rw[e];exact Cf b
theorem zf(hc:X.calm=true):kN X (.type "list") (fun xs H Q=>∃p kvs,xs=[V.ref p]/\H p=Z8 (.dK kvs)/\∀l:ab,H l=Z7->Q (.ref l) (upd H l (.l (kvs.map fun x=>kV x.1)))):=by
 intro pins s σ H xs us Q I r h;obtain⟨p,kvs,rfl,hp,q⟩:=h;obtain⟨u,rfl,D⟩:=vals1 r
 cases D;obtain⟨hz,J,M,O,L⟩:=(show gE X.prog X.w H s.heap p (.dK kvs) from I.hok p _ hp);obtain⟨ep,U⟩:=L.dictAt;have g:=O.length;refine PySem.W.kdl_call (PySem.W.kdl_dict (knd:=eF X.prog X.w) (kvs:=M) (ep:=ep) J) (I.ok.hd hc) U (by lia) fun h' tk Y t kp y Z=>?_;have B:dU (kvs.map fun x=>kV x.1) Y.toList:=Bh (P:=X.prog) (w:=X.w) kvs M O Y.toList (by rw[dj];exact Z.1) fun j v e=>Z.2 j v (by rw[<- oK];exact e);have z:=I.laid (a:=s.heap.objs.size) (o:=.l (kvs.map fun x=>kV x.1)) (t':=tk) (h':=h') kp (aB _) {by rw[ak];exact hz,Y.toList,t,B,by rw[Array.toArray_toList];exact y};exact{.ref s.heap.objs.size,_,z,Z9,q _ (I.hok.fresh (aB _))}
end
end _L
namespace _M
open PySem _L
def tf(Z:List (List Int)):Prop:=Z.Pairwise fun x y=>_H.lexLt y x=true
structure Place(n:List Int)(ns:List (List Int))(i:Nat):Prop where
 le:i<=ns.length
 up:∀(j:Nat) (m:List Int),j<i->ns[j]?=Z8 m->_H.lexLt n m=true
 dn:∀(j:Nat) (m:List Int),i<=j->ns[j]?=Z8 m->_H.lexLt n m=false
theorem tf.at_{Z:List (List Int)}(h:tf Z){i j:Nat}{a b:List Int}(Y:i<j)(hi:Z[i]?=Z8 a)(W:Z[j]?=Z8 b):_H.lexLt b a=true:=by
 obtain⟨X,e1⟩:=ay.mp hi;obtain⟨U,V⟩:=ay.mp W;subst e1 V;exact jm.mp h i j X U Y
theorem tf.put{Y:List (List Int)}{n:List Int}{i:Nat}(h:tf Y)(p:Place n Y i)(hn:¬n∈Y):tf (Y.take i++n::Y.drop i):=by
 have h':tf (Y.take i++Y.drop i):=by rw[oV];exact h
 obtain⟨h1,h2,V⟩:=kQ.mp h';refine kQ.mpr {h1,lN.mpr {fun m W=>?_,h2},fun a ha b hb=>?_}
 ·obtain⟨j,Z⟩:=cP W;rw[Bw]at Z;exact _H.lx_of_not (p.dn _ m (by omega) Z) fun e=>hn (e ▸ aK Z)
 ·rcases aD.mp hb with e|hb
  ·subst e;obtain⟨j,Z⟩:=cP ha;have X:=(ay.mp Z).1;rw[dB]at X;rw[List.getElem?_take,Q6 (by omega)]at Z;exact p.up j a (by omega) Z
  ·exact V a ha b hb
theorem vT{Z:List (List Int)}{n m:List Int}{i:Nat}:m∈Z.take i++n::Z.drop i↔m=n\/m∈Z:=by
 constructor
 ·intro h
  rcases cj.mp h with h|h
  ·exact .inr (zR h)
  ·rcases aD.mp h with h|h
   ·exact .inl h
   ·exact .inr (zQ h)
 ·rintro (h|h)
  ·exact cj.mpr (.inr (aD.mpr (.inl h)))
  ·rw[<- oV i Z]at h
   rcases cj.mp h with h|h
   ·exact cj.mpr (.inl h)
   ·exact cj.mpr (.inr (aD.mpr (.inr h)))
theorem tf.last{Z:List (List Int)}{z:List Int}(h:tf Z)(e:Z[Z.length-1]?=Z8 z):∀m∈Z,_H.lexLt m z=false:=by
 intro m X;obtain⟨j,Y⟩:=cP X;have W:=(ay.mp Y).1
 by_cases q:j=Z.length-1
 ·rw[q,e]at Y;rw[cv Y];exact _H.lx_irr _
 ·exact _H.lx_asym (h.at_ (by omega) Y e)
abbrev kI(n:List Int):List Key:=n.map Sum.inl
structure Keyed(kvs:List (List Key×V))(ns:List (List Int)):Prop where
 iff:∀k:List Key,k∈kvs.map (·.1)↔∃n∈ns,k=kI n
 nd:(kvs.map (·.1)).Nodup
 len:ns.length=kvs.length
theorem Keyed.nil:Keyed [] []:={fun k=>{fun h=>(nomatch h),fun⟨_,h,_⟩=>(nomatch h)},pe,Z9}
theorem Keyed.mem{kvs:List (List Key×V)}{Z:List (List Int)}(h:Keyed kvs Z){n:List Int}:kI n∈kvs.map (·.1)↔n∈Z:=by
 rw[h.iff]
 constructor
 ·rintro⟨m,Y,e⟩;rw[lK e];exact Y
 ·intro hn;exact⟨n,hn,Z9⟩
theorem Keyed.isNone{kvs:List (List Key×V)}{Z:List (List Int)}(h:Keyed kvs Z){n:List Int}(e:jY kvs (kI n)=Z7):¬n∈Z:=fun z=>wY e (h.mem.mpr z)
theorem Keyed.put{kvs:List (List Key×V)}{Z:List (List Int)}(h:Keyed kvs Z){n:List Int}{v:V}{i:Nat}(e:jY kvs (kI n)=Z7):Keyed (jS kvs (kI n) v) (Z.take i++n::Z.drop i):=by
 refine{fun k=>?_,EH v h.nd e,?_}
 ·rw[oA v e,cq,cj,h.iff]
  constructor
  ·rintro (⟨m,Y,q⟩|q)
   ·exact{m,vT.mpr (.inr Y),q}
   ·exact{n,vT.mpr (.inl rfl),aH.mp q}
  ·rintro⟨m,Y,q⟩
   rcases vT.mp Y with r|r
   ·subst r;exact .inr (aH.mpr q)
   ·exact .inl ⟨m,r,q⟩
 ·rw[oA v e,aL,aL,cY,dB,kB,<- h.len];show _=Z.length+1;omega
theorem Keyed.empty{kvs:List (List Key×V)}{Z:List (List Int)}(h:Keyed kvs Z):Z=[]↔kvs=[]:=by
 rw[<- d9,<- d9,h.len]
section
variable{κ:Type}[DecidableEq κ]
end
structure jq(ps:List ab)(H H':Hp):Prop where
 keep:∀b o,H b=Z8 o->¬b∈ps->H' b=Z8 o
 tup:∀b xs,H b=Z8 (.t xs)->H' b=Z8 (.t xs)
theorem jq.refl(ps:List ab)(H:Hp):jq ps H H:={fun _ _ e _=>e,fun _ _ e=>e}
theorem jq.trans{ps:List ab}{H H1 H2:Hp}(a:jq ps H H1)(b:jq ps H1 H2):jq ps H H2:={fun c o e n=>b.keep c o (a.keep c o e n) n,fun c xs e=>b.tup c xs (a.tup c xs e)}
theorem jq.mono{ps qs:List ab}{H H':Hp}(a:jq ps H H')(s:∀b∈ps,b∈qs):jq qs H H':={fun c o e n=>a.keep c o e fun z=>n (s c z),a.tup}
theorem jq.same{ps:List ab}{H H':Hp}(a:cA H H'):jq ps H H':={fun c o e _=>a c o e,fun c xs e=>a c _ e}
theorem jq.upd{ps:List ab}{H:Hp}{p:ab}{o u:HO}(h:p∈ps)(e:H p=Z8 u)(Y:∀xs,u≠.t xs):jq ps H (_L.upd H p o):=
 {fun c v Z n=>by rw[aV (fun z=>n (by rw[z];exact h))];exact Z,fun c xs Z=>by rw[aV (fun z=>Y xs (by rw[z,e]at Z;exact cv Z))];exact Z}
structure xJ(K:ag)(mg:Str->Option ae)(CC:ab):Prop where
 cl:Cls K CC
 nT:eP K CC "things"
 nR:eP K CC "rows"
 mgC:mg "Calendar"=Z8 (.ref CC)
def cF(d r:ab):List (Str×V):=aM "rows" (.ref r) (aM "things" (.ref d) [])
theorem cF_t(d r:ab):(cF d r).lookup ("things":Str)=Z8 (.ref d):=by
 unfold cF;rw[fJ,Q5 (by decide +kernel),fJ,Q6 rfl]
theorem cF_r(d r:ab):(cF d r).lookup ("rows":Str)=Z8 (.ref r):=by
 unfold cF;rw[fJ,Q6 rfl]
theorem Dt(d r:ab){m:Str}(h1:m≠"rows")(h2:m≠"things"):(cF d r).lookup m=Z7:=by
 unfold cF;rw[fJ,Q5 h1,fJ,Q5 h2];rfl
section
variable{P:aP}{w:bF}{K:ag}{mg:Str->Option ae}{base:cz}{f fP fR:ab}{fd fdP fdR:bS}
inductive xK(vs:List V)(H:Hp)(Q:VK)(_e:XK):Prop where
 |mk(q b:ab)(as:List ab)(ns:List (List Int))(n:List Int)(_:vs=[.ref q,.ref b])(_:H q=Z8 (.l (as.map V.ref)))(_:jz H as ns)(_:tf ns)(_:H b=Z8 (.t (n.map V.int)))(_:as.length<=100000)(_:∀i:Nat,Place n ns i->Q (.int i) H):xK vs H Q _e
def Aa:Sp:=fun vs H Q Z=>xK vs H Q Z
theorem qQ:bU ["falling","thing","low","high","middle"] ["falling","thing"] (aS k7):=fK
theorem Du(D:Df K mg "place_in" k7 ["falling","thing"] f fd)(B:Bl mg):bO P w K mg base CX0 1 f fd ["falling","thing"] Aa:=by
 refine D.F.ok qQ (fun vs H Q E h=>?_) (fun bv A outer s H vs Q E hr h=>?_)
 ·obtain⟨q,b,Z,Y,n,rfl,_⟩:=h;rfl
 obtain⟨q,b,Z,Y,n,rfl,hq,L,J,hb,hl,k⟩:=h;have hu:=pd hr;refine⟨_,ax (pst 2 qQ au)
  (ax (pst 3 qQ (cK mJ (by rfl) B.len bV (bH (pv 0) ao)))
  (ax (wL bB (cG uk (pv 2) (pv 3))
   (ax (pst 4 qQ (cV Er (cV il (pv 2) (pv 3)) au))
   (aJ (dW (cG (Io (Nat.lt_of_succ_lt hu)) (bJ bN (pv 0) (pv 4)) (pv 1))
    (aJ (pst 2 qQ (cV il (pv 4) au)))
    (aJ (pst 3 qQ (pv 4)))))))
  (aJ (bT (pv 2))))),?_⟩
 dsimp only[cxA,cxB];have M:=L.length;refine{_,Z9,q,_,Z9,.inl (SqL.of hq),?_};refine BK (fun σ H2=>∃(lo hi:Nat) (m:Option V),σ=[Z8 (.ref q),Z8 (.ref b),Z8 (.int lo),Z8 (.int hi),m]/\H2=H/\lo<=hi/\hi<=Z.length /\
   (∀(j:Nat) (z:List Int),j<lo->Y[j]?=Z8 z->_H.lexLt n z=true)/\∀(j:Nat) (z:List Int),hi<=j->Y[j]?=Z8 z->_H.lexLt n z=false)
  (fun σ _=>match σ with | [_,_,Z8 (.int lo),Z8 (.int hi),_]=>(hi-lo).toNat|_=>0) ?_ ?_ ?_
 ·refine{0,Z.length,Z7,?_,Z9,aO _,aB _,fun j z h=>Q7 h (tU _),fun j z h e=>?_}
  ·rw[ak];rfl
  ·rw[yJ (by omega)]at e
   cases e
 ·rintro σ H2 ⟨lo,hi,m,rfl,rfl,h1,h2,h3,I⟩;refine{_,Z9,_,Z9,_,_,Z9,Z9,_,Z9,?_};refine si (fun c=>?_) (fun c=>?_)
  ·have c:lo<hi:=by
    have z:=Q0 c;omega
   refine{_,Z9,_,Z9,_,_,Z9,Z9,_,_,Z9,Z9,{by decide,by decide},?_};have t:((lo:Int)+(hi:Int))/2=(((lo+hi)/2:Nat):Int):=by omega
   have d:(lo+hi)/2<Z.length:=by omega
   obtain⟨z,hz,W⟩:=L.get (aA d);have ea:(Z.map V.ref)[(lo+hi)/2]?=Z8 (.ref Z[(lo+hi)/2]):=by rw[bD,aA d];rfl
   refine{_,Z9,_,Z9,q,_,_,_,Z9,Z9,SqL.of hq,(by rw[t];exact cI ea),_,Z9,_,b,z,n,Z9,Z9,W,hb,_,Z9,?_};refine si (fun g=>?_) (fun g=>?_)
   ·refine{_,Z9,_,_,Z9,Z9,{(lo+hi)/2+1,hi,Z8 (.int (((lo:Int)+(hi:Int))/2)),?_,Z9,by omega,h2,fun j y hj e=>?_,I},?_}
    ·have U:(((lo+hi)/2+1:Nat):Int)=((lo:Int)+(hi:Int))/2+1:=by omega
     rw[U];rfl
    ·by_cases O:j=(lo+hi)/2
     ·rw[O,hz]at e
      cases e;exact g
     ·have la:j<Y.length:=(ay.mp e).1;exact _H.lx_trans g (J.at_ (by omega) e hz)
    ·show ((hi:Int)-(((lo:Int)+(hi:Int))/2+1)).toNat<((hi:Int)-(lo:Int)).toNat;omega
   ·refine{_,Z9,{lo,(lo+hi)/2,Z8 (.int (((lo:Int)+(hi:Int))/2)),?_,Z9,by omega,by omega,h3,fun j y hj e=>?_},?_}
    ·rw[<- t];rfl
    ·have g':_H.lexLt n z=false:=by
      cases e':_H.lexLt n z with
      |false=>rfl
      |true=>exact Q7 e' g
     by_cases O:j=(lo+hi)/2
     ·rw[O,hz]at e
      cases e;exact g'
     ·have z1:=J.at_ (show (lo+hi)/2<j by omega) hz e
      cases e':_H.lexLt n y with
      |false=>rfl
      |true=>
       have r:=_H.lx_trans e' z1;rw[g']at r
       cases r
    ·show ((((lo:Int)+(hi:Int))/2)-(lo:Int)).toNat<((hi:Int)-(lo:Int)).toNat;omega
  ·have e:lo=hi:=by
    have z:¬((lo:Int)<(hi:Int)):=fun z=>c (Q3 z);omega
   subst e;exact{_,Z9,k lo {by omega,h3,I}}
 ·rintro σ H2 Q1 Q2 X h;obtain⟨a1,e1,a2,U,i,j,e3,e4,b',e5,h⟩:=h;exact{a1,e1,a2,U,i,j,e3,e4,b',e5,X _ _ h}
inductive xM(vs:List V)(H:Hp)(Q:VK)(_e:XK):Prop where
 |mk(q b:ab)(as:List ab)(ns:List (List Int))(n:List Int)(_:vs=[.ref q,.ref b])(_:H q=Z8 (.l (as.map V.ref)))(_:jz H as ns)(_:tf ns)(_:H b=Z8 (.t (n.map V.int)))(_:as.length<=100000)(_:∀i:Nat,Place n ns i->Q .non (upd H q (.l ((as.take i++b::as.drop i).map V.ref)))):xM vs H Q _e
def Ab:Sp:=fun vs H Q Z=>xM vs H Q Z
theorem scPi:bU ["falling","thing"] ["falling","thing"] (aS qj):=fK
theorem Dv(D:Df K mg "put_in" qj ["falling","thing"] f fd)(Y:Df K mg "place_in" k7 ["falling","thing"] fP fdP)(B:Bl mg):bO P w K mg base CX0 2 f fd ["falling","thing"] Ab:=by
 have M:bO P w K mg base CX0 1 fP fdP ["falling","thing"] Aa:=Du Y B;refine D.F.ok scPi (fun vs H Q E h=>?_) (fun L A outer s H vs Q E U h=>?_)
 ·obtain⟨q,b,Z,W,n,rfl,_⟩:=h;rfl
 obtain⟨q,b,Z,W,n,rfl,hq,X,O,hb,V,k⟩:=h;refine{_,aJ (eL (kh bE PySem.F.slot_list_insert PySem.F.type_list_insert AM (pv 0) (bH (pcl M U Y (bH (pv 0) (bH (pv 1) ao))) (bH (pv 1) ao)))),?_};dsimp only[cxA,cxB];refine{_,Z9,.inl {Z9,_,SqL.of hq},_,Z9,_,Z9,q,b,Z,W,n,Z9,hq,X,O,hb,V,fun i p=>{_,Z9,q,_,i,_,Z9,Z9,hq,?_,?_,?_}}
 ·rw[ak];have:=p.le;have:=X.length;omega
 ·rw[ak];exact dS V (by decide)
 ·have z:=k i p;rw[cq,ig,IM,IL]at z;exact z
inductive Ad(vs:List V)(H:Hp)(Q:VK)(_e:XK):Prop where
 |mk(q:ab)(xs:List V)(_:vs=[.ref q])(_:H q=Z8 (.l xs))(_:(xs=[]->Q .non H))(_:∀v,xs[xs.length-1]?=Z8 v->Q v H):Ad vs H Q _e
def zg:Sp:=fun vs H Q Z=>Ad vs H Q Z
theorem scLo:bU ["falling"] ["falling"] (aS mf):=fK
theorem Ae(D:Df K mg "last_of" mf ["falling"] f fd):bO P w K mg base CX0 1 f fd ["falling"] zg:=by
 refine D.F.ok scLo (fun vs H Q E h=>?_) (fun X A outer s H vs Q E W h=>?_)
 ·obtain⟨q,xs,rfl,_⟩:=h;rfl
 obtain⟨q,xs,rfl,hq,Y,Z⟩:=h;refine{_,aJ (bT (BD (rT (pv 0) (fun _=>rfl)) (bJ bN (pv 0) (wO rQ au)) pq)),?_};dsimp only[cxA,cxB];refine{_,Z9,_,.inl {xs,SqL.of hq,Z9},?_}
 cases xs with
 |nil=>exact gm (Y rfl)
 |cons x r=>
  refine iq ?_;obtain⟨ys,y,e⟩:∃ys y,x::r=ys++[y]:=by
   rcases List.eq_nil_or_concat (x::r) with z|⟨ys,y,z⟩
   ·cases z
   ·exact{ys,y,by simpa using z}
  rw[e]at hq Z;refine{_,Z9,_,Z9,q,_,_,_,Z9,Z9,SqL.of hq,BY ys y,Z y ?_};rw[aL,oO,Nat.add_sub_cancel,df (aB _),rp];rfl
end
def Cal(CC:ab)(H:Hp)(c d r q:ab)(kvs:List (List Key×V)):Prop:=
 ∃(dx:ab) (Y:List ab) (Z:List (List Int)),H c=Z8 (.ins CC dx (cF d r))/\H d=Z8 (.dT kvs)/\H r=Z8 (.l [.ref q])/\H q=Z8 (.l (Y.map V.ref))/\jz H Y Z/\tf Z/\Keyed kvs Z/\r≠q
theorem Cal.stay{CC c d r q:ab}{H H':Hp}{kvs:List (List Key×V)}{ps:List ab}(h:Cal CC H c d r q kvs)(s:jq ps H H')(hn:∀b∈[c,d,r,q],¬b∈ps):Cal CC H' c d r q kvs:=by
 obtain⟨dx,Z,X,h1,h2,L,Y,W,O,U,M⟩:=h;refine{dx,Z,X,s.keep _ _ h1 (hn c (by simp)),s.keep _ _ h2 (hn d (by simp)),s.keep _ _ L (hn r (by simp)),s.keep _ _ Y (hn q (by simp)),W.keep s.tup,O,U,M}
section
variable{P:aP}{w:bF}{K:ag}{mg:Str->Option ae}{base:cz}{f fP fPl fL fR fLe fT CC:ab}{fd fdP fdPl fdL fdR fdLe fdT:bS}
def zh(CC:ab):Sp:=fun vs H Q _=>∃c dx:ab,vs=[.ref c]/\H c=Z8 (.ins CC dx [])/\∀(d r q:ab) (H':Hp),H d=Z7->H r=Z7->H q=Z7->d≠r->Cal CC H' c d r q []->jq [c] H H'->Q .non H'
theorem scCI:bU ["self"] ["self"] (aS jt):=fK
theorem Dw(F:Fun K "__init__" "Calendar.__init__" jt f fd)(I:Cls K CC)(D:eP K CC "things")(B:eP K CC "rows"):bO P w K mg base CX0 1 f fd ["self"] (zh CC):=by
 refine F.ok scCI (fun vs H Q E h=>?_) (fun y A outer s H vs Q E t h=>?_)
 ·obtain⟨c,dx,rfl,_⟩:=h;rfl
 obtain⟨c,dx,rfl,hc,k⟩:=h;refine{_,ax (gr (pv 0) sv rfl) (aJ (gr (pv 0) (dv (bH (dv ao) ao)) rfl)),?_};dsimp only[cxA,cxB];intro d O;have Y:c≠d:=aC hc O;refine{_,Z9,c,CC,dx,_,Z9,(by rw[aV Y];exact hc),I,D,(by decide),?_};refine{aO _,fun q hq=>{(by show 1<=aF;decide),fun r Z=>?_}};have U:q≠c:=fun e=>by rw[e,ai]at hq;cases hq
 have W:q≠d:=fun e=>by rw[e,aV (cE Y),ai]at hq;cases hq
 have V:r≠q:=fun e=>by rw[e,ai]at Z;cases Z
 have M:r≠c:=fun e=>by rw[e,aV (cE U),ai]at Z;cases Z
 have X:r≠d:=fun e=>by rw[e,aV (cE W),aV (cE Y),ai]at Z;cases Z
 refine{_,Z9,c,CC,dx,_,Z9,(by rw[aV (cE M),aV (cE U)];exact ai),I,B,(dS (jB _ _ _) (by decide)),?_};refine k d r q _ O ?_ ?_ (cE X) {dx,[],[],ai,?_,?_,?_,.nil,List.Pairwise.nil,Keyed.nil,V} ?_
 ·rw[aV V,aV M,aV X]at Z;exact Z
 ·rw[aV U,aV W]at hq;exact hq
 ·rw[aV (cE Y),aV (cE X),aV (cE W),aV (cE Y)];exact ai
 ·rw[aV M];exact ai
 ·rw[aV U,aV (cE V)];exact ai
 ·have L:cA H (upd H d (.dT [])):=az O _;have s2:jq [c] (upd H d (.dT [])) (upd (upd H d (.dT [])) c (.ins CC dx (aM "things" (.ref d) []))):=jq.upd (by simp) (L c _ hc) (fun xs z=>by cases z);have J:cA (upd (upd H d (.dT [])) c (.ins CC dx (aM "things" (.ref d) []))) _:=(az hq (.l [])).trans (az Z (.l [.ref q]));exact (jq.same L).trans (s2.trans ((jq.same J).trans (jq.upd (by simp) (J c _ ai) (fun xs z=>by cases z))))
theorem Fy(F:Fun K "__init__" "Calendar.__init__" jt f fd)(T:xJ K mg CC):bO P w K mg base CX0 1 f fd ["self"] (zh CC):=Dw F T.cl T.nT T.nR
inductive Dx(CC:ab)(vs:List V)(H:Hp)(Q:VK)(_e:XK):Prop where
 |mk(c dx d r q:ab)(x:V)(_:vs=[.ref c,x])(_:H c=Z8 (.ins CC dx (cF d r)))(_:H r=Z8 (.l [.ref q]))(_:Q (.ref q) H):Dx CC vs H Q _e
def GI(CC:ab):Sp:=fun vs H Q Z=>Dx CC vs H Q Z
theorem scRf:bU ["self","key"] ["self","key"] (aS gL):=fK
theorem IX(F:Fun K "row_for" "Calendar.row_for" gL f fd)(T:xJ K mg CC):bO P w K mg base CX0 1 f fd ["self","key"] (GI CC):=by
 refine F.ok scRf (fun vs H Q E h=>?_) (fun Z A outer s H vs Q E X h=>?_)
 ·obtain⟨c,dx,d,r,q,x,rfl,_⟩:=h;rfl
 obtain⟨c,dx,d,r,q,x,rfl,h1,Y,k⟩:=h;refine{_,aJ (bT (bJ bN (rY (pv 0) rfl) au)),?_};dsimp only[cxA,cxB];exact{_,Z9,c,CC,dx,_,_,Z9,h1,T.cl,T.nR,cF_r d r,r,_,_,_,Z9,Z9,SqL.of Y,Z9,k}
inductive Dy(CC:ab)(vs:List V)(H:Hp)(Q:VK)(_e:XK):Prop where
 |mk(c d r q b:ab)(n:List Int)(v:V)(kvs:List (List Key×V))(_:vs=[.ref c,.ref b,v])(_:Cal CC H c d r q kvs)(_:H b=Z8 (.t (n.map V.int)))(_:jY kvs (kI n)=Z7)(_:kvs.length<=100000)(_:∀H':Hp,Cal CC H' c d r q (jS kvs (kI n) v)->jq [d,q] H H'->Q .non H'):Dy CC vs H Q _e
def GJ(CC:ab):Sp:=fun vs H Q Z=>Dy CC vs H Q Z
theorem IY:bU ["self","key","thing"] ["self","key","thing"] (aS iX):=fK
theorem IZ(F:Fun K "put" "Calendar.put" iX f fd)(T:xJ K mg CC)(B:Bl mg)(DP:Df K mg "put_in" qj ["falling","thing"] fP fdP)(M:Df K mg "place_in" k7 ["falling","thing"] fPl fdPl)
  (FR:Fun K "row_for" "Calendar.row_for" gL fR fdR) (bR:Binds K fdR ["self","key"] []) (mR:yp K CC "row_for" fR):bO P w K mg base CX0 3 f fd ["self","key","thing"] (GJ CC):=by
 have GP:bO P w K mg base CX0 2 fP fdP ["falling","thing"] Ab:=Dv DP M B;have GR:bO P w K mg base CX0 1 fR fdR ["self","key"] (GI CC):=IX FR T;refine F.ok IY (fun vs H Q E h=>?_) (fun bP A outer s H vs Q E g h=>?_)
 ·obtain⟨c,d,r,q,b,n,v,kvs,rfl,_⟩:=h;rfl
 obtain⟨c,d,r,q,b,n,v,kvs,rfl,hC,hb,hv,hl,k⟩:=h;obtain⟨dx,Y,X,h1,h2,h3,I,U,h6,D,h8⟩:=id hC;have hu:=pd g;have O:dC 1 _:=g.mono (by decide);refine⟨_,ax (oP hu (rY (pv 0) rfl) (pv 1) (pv 2) rfl)
  (aJ (eL (pcl GP g DP (bH (ka (pv 0) T.cl mR GR O bR .nil eV (bH (pv 1) ao)) (bH (pv 1) ao))))),?_⟩
 dsimp only[cxA,cxB];have eb:H b=Z8 (.t ((kI n).map kV)):=by rw[Im];exact hb
 refine{_,Z9,_,Z9,c,CC,dx,_,_,Z9,h1,T.cl,T.nT,cF_t d r,_,Z9,d,_,Z9,rj.t (k:=kI n) h2 eb (dS hl (by decide)),?_};have Z:jq [d] H (upd H d (.dT (jS kvs (kI n) v))):=jq.upd (by simp) h2 (fun xs z=>by cases z);have ca:c≠d:=cQ h1 h2 (by intro z;cases z);have J:r≠d:=cQ h3 h2 (by intro z;cases z);have W:q≠d:=cQ I h2 (by intro z;cases z);have L:=Z.keep c _ h1 (by simpa using ca);have g3:=Z.keep r _ h3 (by simpa using J);have g4:=Z.keep q _ I (by simpa using W);have g5:jz (upd H d (.dT (jS kvs (kI n) v))) Y X:=U.keep Z.tup;have la:=U.length;have ll:=D.len;refine{_,Z9,c,dx,_,Z9,L,Dt d r (by decide +kernel) (by decide +kernel),_,Z9,c,dx,d,r,q,_,Z9,L,g3,_,Z9,q,b,Y,X,n,Z9,g4,g5,h6,Z.tup b _ hb,by omega,fun i p=>?_};have nn:¬n∈X:=D.isNone hv;have y:c≠q:=cQ h1 I (by intro z;cases z);have s2:jq [d,q] (upd H d (.dT (jS kvs (kI n) v))) (upd (upd H d (.dT (jS kvs (kI n) v))) q (.l ((Y.take i++b::Y.drop i).map V.ref))):=jq.upd (by simp) g4 (fun xs z=>by cases z);refine k _ {dx,Y.take i++b::Y.drop i,X.take i++n::X.drop i,?_,?_,?_,ai,?_,h6.put p nn,D.put hv,h8} ((Z.mono (by simp)).trans s2)
 ·rw[aV y];exact L
 ·rw[aV (cE W)];exact ai
 ·rw[aV h8];exact g3
 ·exact (((U.take i).append (.cons hb (U.drop i))).keep Z.tup).keep s2.tup
inductive xO(CC:ab)(vs:List V)(H:Hp)(Q:VK)(_e:XK):Prop where
 |mk(c d r q:ab)(kvs:List (List Key×V))(_:vs=[.ref c])(_:Cal CC H c d r q kvs)(_:(kvs=[]->Q .non H))(_:∀(a:ab) (n:List Int),H a=Z8 (.t (n.map V.int))->Least (kvs.map (·.1)) n->Q (.ref a) H):xO CC vs H Q _e
def Af(CC:ab):Sp:=fun vs H Q Z=>xO CC vs H Q Z
theorem I0:bU ["self"] ["self"] (aS iw):=fK
theorem iJ(F:Fun K "least" "Calendar.least" iw f fd)(T:xJ K mg CC)(V:Df K mg "last_of" mf ["falling"] fL fdL):bO P w K mg base CX0 2 f fd ["self"] (Af CC):=by
 have U:bO P w K mg base CX0 1 fL fdL ["falling"] zg:=Ae V;refine F.ok I0 (fun vs H Q E h=>?_) (fun z A outer s H vs Q E M h=>?_)
 ·obtain⟨c,d,r,q,kvs,rfl,_⟩:=h;rfl
 obtain⟨c,d,r,q,kvs,rfl,⟨dx,t,g,h1,h2,y,J,Z,B,Y,h8⟩,I,L⟩:=h;refine{_,aJ (bT (pcl U M V (bH (bJ bN (rY (pv 0) rfl) au) ao))),?_};dsimp only[cxA,cxB];refine{_,Z9,c,CC,dx,_,_,Z9,h1,T.cl,T.nR,cF_r d r,r,_,_,_,Z9,Z9,SqL.of y,Z9,q,_,Z9,J,fun e=>?_,fun v e=>?_}
 ·refine I (Y.empty.mp ?_);have W:=Z.length;rw[Bi]at e;rw[e]at W;exact d9.mp W.symm
 ·rw[ak,bD]at e;obtain⟨a,O,rfl⟩:=cX.mp e;obtain⟨n,X,hn⟩:=Z.get O;rw[Z.length]at X;refine L a n hn {Y.mem.mpr (aK X),fun m D=>B.last X m (Y.mem.mp D)}
end
def Ja(CM:ab)(Y:List MD)(H:Hp)(m:ab):Prop:=∃(dx Z:ab) (fs:List (Str×V)),H m=Z8 (.ins CM dx fs)/\fs.lookup ("machines":Str)=Z8 (.ref Z)/\xq (Y.length:Int) H Z Y
def LeK(ks:List (List Int))(n:List Int):Prop:=n∈ks/\∀m∈ks,_H.lexLt m n=false
def leK:List (List Int)->Option (List Int)
 | []=>Z7
 |k::ks=>match leK ks with
  |none=>Z8 k
  |some m=>if _H.lexLt k m=true then Z8 k else Z8 m
theorem pJ:∀{ks:List (List Int)} {n:List Int},leK ks=Z8 n->LeK ks n
 | [],n,h=>by cases h
 |k::ks,n,h=>by
  unfold leK at h
  cases e:leK ks with
  |none=>
   rw[e]at h
   cases h;have z:ks=[]:=by
    cases ks with
    |nil=>rfl
    |cons a b=>
     unfold leK at e
     split at e
     ·cases e
     ·split at e<;>cases e
   subst z;exact{aU,fun m Z=>by rw[aH.mp Z];exact _H.lx_irr _}
  |some m=>
   rw[e]at h;have h:(if _H.lexLt k m=true then Z8 k else Z8 m)=Z8 n:=h;obtain⟨h1,h2⟩:=pJ e
   split at h
   ·rename_i c
    cases h;refine{aU,fun x hx=>?_}
    rcases aD.mp hx with rfl|hx
    ·exact _H.lx_irr _
    ·cases g:_H.lexLt x k with
     |false=>rfl
     |true=>
      have:=h2 x hx;rw[_H.lx_trans g c]at this
      cases this
   ·rename_i c
    cases h;refine{bL _ h1,fun x hx=>?_}
    rcases aD.mp hx with rfl|hx
    ·exact Ce.mpr c
    ·exact h2 x hx
theorem vU{ks:List (List Int)}(h:leK ks=Z7):ks=[]:=by
 cases ks with
 |nil=>rfl
 |cons a b=>
  unfold leK at h
  split at h
  ·cases h
  ·split at h<;>cases h
theorem pK{ks:List (List Int)}{n:List Int}(h:LeK ks n):leK ks=Z8 n:=by
 cases e:leK ks with
 |none=>
  rw[vU e]at h
  cases h.1
 |some m=>
  obtain⟨h1,h2⟩:=pJ e;rw[_H.lx_anti (h2 n h.1) (h.2 m h1)]
theorem Ag{ks Z:List (List Int)}(h:∀k,k∈ks↔k∈Z):leK ks=leK Z:=by
 cases e:leK Z with
 |none=>
  have z:=vU e;subst z
  cases ks with
  |nil=>rfl
  |cons a b=>cases (h a).mp aU
 |some m=>
  obtain⟨h1,h2⟩:=pJ e;exact pK {(h m).mpr h1,fun x hx=>h2 x ((h x).mp hx)}
theorem Dz(xs:List (List (List Int))):leK (xs.flatMap fun ks=>(leK ks).toList)=leK xs.flatten:=by
 cases e:leK xs.flatten with
 |none=>
  have z:=vU e;have:(xs.flatMap fun ks=>(leK ks).toList)=[]:=by
   refine xP.mpr fun ks hk=>?_;have:ks=[]:=List.flatten_eq_nil_iff.mp z ks hk;rw[this];rfl
  rw[this];rfl
 |some m=>
  obtain⟨h1,h2⟩:=pJ e;obtain⟨ks,hk,X⟩:=kD.mp h1;refine pK {gT.mpr {ks,hk,?_},fun x hx=>?_}
  ·rw[pK (n:=m) {X,fun x hx=>h2 x (kD.mpr ⟨ks,hk,hx⟩)}];exact aH.mpr rfl
  ·obtain⟨Z,Y,hx⟩:=gT.mp hx
   cases e2:leK Z with
   |none=>
    rw[e2]at hx
    cases hx
   |some y=>
    rw[e2]at hx;rw[aH.mp hx];exact h2 y (kD.mpr {Z,Y,(pJ e2).1})
def KyO(H:Hp):Option (List Int)->V->Prop
 |none,v=>v=.non
 |some n,v=>∃a,v=.ref a/\H a=Z8 (.t (n.map V.int))
theorem KyO.tups{H G:Hp}(s:∀a xs,H a=Z8 (.t xs)->G a=Z8 (.t xs)):∀{o:Option (List Int)} {v:V},KyO H o v->KyO G o v
 |none,_,h=>h
 |some _,_,⟨a,e,h⟩=>{a,e,s _ _ h}
theorem KyO.same{H G:Hp}(s:cA H G){o:Option (List Int)}{v:V}(h:KyO H o v):KyO G o v:=h.tups fun a xs e=>s _ _ e
theorem tq{P:aP}{w:bF}{K:ag}{mg:Str->Option ae}{base:cz}{CX:CXT}{k:Nat}{f:ab}{fd:bS}{ps:List Str}:bO P w K mg base CX k f fd ps (fun _ _ _ _=>False):={fun _ _ _ _ h=>h.elim,fun _ _ _ _ _ _ _ _ _ _ _ _ _ h=>h.elim}
def pF(X st Y Z:V):List (Str×V):=aM "passed" (.int 0) (aM "entries" Z (aM "pending" Y (aM "states" st (aM "model" X []))))
def rF(l u:ab):List (Str×V):=aM "unheard" (.ref u) (aM "letters" (.ref l) [])
structure PtT(K:ag)(mg:Str->Option ae)(CP CR:ab):Prop where
 clP:Cls K CP
 clR:Cls K CR
 nM:eP K CP "model"
 nS:eP K CP "states"
 nP:eP K CP "pending"
 nE:eP K CP "entries"
 nA:eP K CP "passed"
 nL:eP K CR "letters"
 nU:eP K CR "unheard"
 mP:mg "Part"=Z8 (.ref CP)
 mR:mg "Road"=Z8 (.ref CR)
def PtA(CP CC:ab)(F:Hp)(v:V)(ks:List (List Int)):Prop:=∃(a dx Y Z d r q:ab) (X st:V) (kvs:List (List Key×V)),v=.ref a/\F a=Z8 (.ins CP dx (pF X st (.ref Y) (.ref Z)))/\F Z=Z8 (.l [])/\Cal CC F Y d r q kvs/\kvs.map (·.1)=ks.map kI
def RdA(CR:ab)(F:Hp)(v:V):Prop:=∃a dx l u,v=.ref a/\F a=Z8 (.ins CR dx (rF l u))/\F l=Z8 (.l [])/\F u=Z8 (.l [])
theorem Cal.but{CC c d r q p:ab}{H G:Hp}{kvs:List (List Key×V)}{o:HO}(b:But p H G)(hp:H p=Z8 o)(Z:∀x,o≠.l x)(L:∀x,o≠.t x)(U:∀x,o≠.dT x)(I:∀x y z,o≠.ins x y z)(h:Cal CC H c d r q kvs):Cal CC G c d r q kvs:=by
 have ne:∀{a u},H a=Z8 u->o≠u->a≠p:=fun {a u} e n z=>by
  rw[z,hp]at e;exact n (cv e)
 have D:∀a xs,H a=Z8 (.t xs)->G a=Z8 (.t xs):=fun a xs e=>b _ _ e (ne e (L _));obtain⟨dx,W,O,h1,h2,X,Y,M,J⟩:=h;exact{dx,W,O,b _ _ h1 (ne h1 (I _ _ _)),b _ _ h2 (ne h2 (U _)),b _ _ X (ne X (Z _)),b _ _ Y (ne Y (Z _)),M.keep D,J}
theorem Cal.same{CC c d r q:ab}{H G:Hp}{kvs:List (List Key×V)}(s:cA H G)(h:Cal CC H c d r q kvs):Cal CC G c d r q kvs:=h.stay (ps:=[]) (jq.same s) fun b _ z=>by cases z
theorem PtA.same{CP CC:ab}{H G:Hp}{v:V}{ks:List (List Int)}(s:cA H G)(h:PtA CP CC H v ks):PtA CP CC G v ks:=by
 obtain⟨a,dx,Y,Z,d,r,q,W,st,kvs,e,h1,h2,U,X⟩:=h;exact{a,dx,Y,Z,d,r,q,W,st,kvs,e,s _ _ h1,s _ _ h2,U.same s,X}
theorem PtA.dk{CP CC p:ab}{H G:Hp}{v:V}{ks:List (List Int)}{kk:List (Key×V)}(b:But p H G)(hp:H p=Z8 (.dK kk))(h:PtA CP CC H v ks):PtA CP CC G v ks:=by
 obtain⟨a,dx,Y,Z,d,r,q,W,st,kvs,e,h1,h2,U,X⟩:=h;exact{a,dx,Y,Z,d,r,q,W,st,kvs,e,b _ _ h1 (cQ h1 hp nofun),b _ _ h2 (cQ h2 hp nofun),U.but b hp nofun nofun nofun nofun,X}
theorem RdA.same{CR:ab}{H G:Hp}{v:V}(s:cA H G)(h:RdA CR H v):RdA CR G v:=by
 obtain⟨a,dx,l,u,e,h1,h2,Z⟩:=h;exact{a,dx,l,u,e,s _ _ h1,s _ _ h2,s _ _ Z}
theorem RdA.dt{CR p:ab}{H G:Hp}{v:V}{kk:List (List Key×V)}(b:But p H G)(hp:H p=Z8 (.dT kk))(h:RdA CR H v):RdA CR G v:=by
 obtain⟨a,dx,l,u,e,h1,h2,Z⟩:=h;exact{a,dx,l,u,e,b _ _ h1 (cQ h1 hp nofun),b _ _ h2 (cQ h2 hp nofun),b _ _ Z (cQ Z hp nofun)}
theorem kY{p:ab}{H G:Hp}{o:HO}(b:But p H G)(hp:H p=Z8 o):cA H (upd G p o):=fun a u e=>by
 by_cases z:a=p
 ·rw[z,hp]at e
  cases e;rw[z];exact ai
 ·rw[aV z];exact b _ _ e z
section
variable{P:aP}{w:bF}{K:ag}{mg:Str->Option ae}{base:cz}{f fL fI fC fPu CP CR CC:ab}{fd fdL fdI fdC fdPu:bS}
seal PS PSs PE PA PT PW PI PG PGs PC
abbrev nQl:List Str:=["self"]
abbrev pQl:List Str:=["self"]
theorem scQl:bU nQl pQl (aS iI):=fK
inductive GK(CP CC:ab)(vs:List V)(H:Hp)(Q:VK)(_e:XK):Prop where
 |mk(v:V)(ks:List (List Int))(_:vs=[v])(_:PtA CP CC H v ks)(_:∀v',KyO H (leK ks) v'->Q v' H):GK CP CC vs H Q _e
def Fz(CP CC:ab):Sp:=fun vs H Q Z=>GK CP CC vs H Q Z
theorem nc(F:Fun K "least" "Part.least" iI f fd)(M:Mt K CC "least" "Calendar.least" iw ["self"] fL fdL)(G:bO P w K mg base CX0 2 fL fdL ["self"] (Af CC))(TP:PtT K mg CP CR)(D:xJ K mg CC):bO P w K mg base CX0 3 f fd pQl (Fz CP CC):=by
 refine F.ok scQl (fun vs H Q E h=>?_) (fun J A outer s H vs Q E O h=>?_)
 ·obtain⟨v,ks,rfl,_⟩:=h;rfl
 obtain⟨v,ks,rfl,⟨a,dx,Z,g,d,r,q,md,st,kvs,rfl,h1,h2,V,Y⟩,k⟩:=h;have t:dC 2 _:=O;refine{_,aJ (bT (eC (cO K (by rfl) (pv 0) (by rfl)) D.cl M.m G t M.b .nil eV)),?_};obtain⟨X,_,_,I,_⟩:=id V;refine{_,Z9,a,CP,dx,_,_,Z9,h1,TP.clP,TP.nP,Z9,Z,X,_,Z9,I,Dt _ _ (by decide +kernel) (by decide +kernel),Z,d,r,q,kvs,Z9,V,fun e=>k _ ?_,fun b n hb L=>k _ ?_}
 ·have:ks=[]:=by
   cases ks with
   |nil=>rfl
   |cons x y=>
    rw[e]at Y
    cases Y
  rw[this];rfl
 ·obtain⟨W,U⟩:=L;rw[Y]at W U;have inj:∀m:List Int,m.map Sum.inl∈ks.map kI↔m∈ks:=fun m=>⟨fun z=>by
   obtain⟨x,hx,e⟩:=bY.mp z;rw[<- lK e];exact hx,fun z=>bY.mpr ⟨m,z,Z9⟩⟩
  rw[pK (n:=n) {(inj n).mp W,fun m B=>U m ((inj m).mpr B)}];exact⟨b,Z9,hb⟩
abbrev nRl:List Str:=["self"]
abbrev pRl:List Str:=["self"]
theorem scRl:bU nRl pRl (aS jL):=fK
def spRl(CR:ab):Sp:=fun vs H Q _=>∃v:V,vs=[v]/\RdA CR H v/\Q .non H
theorem uX(F:Fun K "least" "Road.least" jL f fd)(Z:Df K mg "last_of" mf ["falling"] fL fdL)(TP:PtT K mg CP CR):bO P w K mg base CX0 2 f fd pRl (spRl CR):=by
 have V:bO P w K mg base CX0 1 fL fdL ["falling"] zg:=Ae Z;refine F.ok scRl (fun vs H Q E h=>?_) (fun W A outer s H vs Q E Y h=>?_)
 ·obtain⟨v,rfl,_⟩:=h;rfl
 obtain⟨v,rfl,⟨a,dx,l,u,rfl,h1,h2,U⟩,k⟩:=h;have X:dC 1 _:=Y;refine{_,aJ (bT (pcl V X Z (bH (cO K (by rfl) (pv 0) (by rfl)) ao))),?_};exact{_,Z9,a,CR,dx,_,_,Z9,h1,TP.clR,TP.nU,Z9,u,_,Z9,U,fun _=>k,fun v e=>by cases e}
abbrev nQs:List Str:=["self"]
abbrev pQs:List Str:=["self"]
theorem scQs:bU nQs pQs (aS g8):=fK
inductive GO(CP CC:ab)(vs:List V)(H:Hp)(Q:VK)(_e:XK):Prop where
 |mk(v:V)(ks:List (List Int))(_:vs=[v])(_:PtA CP CC H v ks)(_:Q (.bl false) H):GO CP CC vs H Q _e
def spQs(CP CC:ab):Sp:=fun vs H Q Z=>GO CP CC vs H Q Z
theorem DA(F:Fun K "is_stopped" "Part.is_stopped" g8 f fd)(TP:PtT K mg CP CR)(B:Bl mg):bO P w K mg base CX0 1 f fd pQs (spQs CP CC):=by
 refine F.ok scQs (fun vs H Q E h=>?_) (fun Y A outer s H vs Q E W h=>?_)
 ·obtain⟨v,ks,rfl,_⟩:=h;rfl
 obtain⟨v,ks,rfl,⟨a,dx,X,Z,d,r,q,U,st,kvs,rfl,h1,h2,O,V⟩,k⟩:=h;refine{_,aJ (bT (BC (pY o7 (cK (dH K (by rfl)) (by rfl) B.len bV (bH (cO K (by rfl) (pv 0) (by rfl)) ao)) au) (yh (vm (j7 (cO K (by rfl) (bJ bN (cO K (by rfl) (pv 0) (by rfl)) (wO rQ au)) (by rfl))))))),?_};dsimp only[cxA,cxB];exact gF {_,Z9,a,CP,dx,_,_,Z9,h1,TP.clP,TP.nE,Z9,Z,_,Z9,.inl (SqL.of h2),_,_,Z9,Z9,_,Z9,gm k}
abbrev nQp:List Str:=["self","floor","first"]
abbrev pQp:List Str:=["self","floor"]
theorem scQp:bU nQp pQp (aS g9):=fK
inductive GQ(CP CC:ab)(vs:List V)(H:Hp)(Q:VK)(_e:XK):Prop where
 |mk(v fl:V)(ks:List (List Int))(_:vs=[v,fl])(_:PtA CP CC H v ks)(_:∀l,H l=Z7->Q (.ref l) (upd H l (.l []))):GQ CP CC vs H Q _e
def spQp(CP CC:ab):Sp:=fun vs H Q Z=>GQ CP CC vs H Q Z
theorem ok_qp(F:Fun K "pass_below" "Part.pass_below" g9 f fd)(W:Df K mg "is_below" sE ["entry","floor"] fL fdL)(U:bO P w K mg base CX0 1 fL fdL ["entry","floor"] fun _ _ _ _=>False)(TP:PtT K mg CP CR)(B:Bl mg):bO P w K mg base CX0 2 f fd pQp (spQp CP CC):=by
 refine F.ok scQp (fun vs H Q E h=>?_) (fun V A outer s H vs Q E X h=>?_)
 ·obtain⟨v,fl,ks,rfl,_⟩:=h;rfl
 obtain⟨v,fl,ks,rfl,⟨a,dx,L,Z,d,r,q,I,st,kvs,rfl,h1,h2,D,J⟩,k⟩:=h;have O:dC 1 _:=X;refine⟨_,ax (pst 2 scQp (cO K (by rfl) (pv 0) (by rfl)))
  (ax (wL bB ((lQ (cG uk (cO K (by rfl) (pv 0) (by rfl)) (cK (dH K (by rfl)) (by rfl) B.len bV (bH (cO K (by rfl) (pv 0) (by rfl)) ao))) (j8 (mB (pcl U O W (jA (bJ bN (cO K (by rfl) (pv 0) (by rfl)) (cO K (by rfl) (pv 0) (by rfl))) (aT (pv 1) ao)))))).pt) (aJ (Az (pv 0) au HY)))
  (aJ (bT (lX qb (cO K (by rfl) (pv 0) (by rfl)) (lJ (pv 2)) (lJ (cO K (by rfl) (pv 0) (by rfl))))))),?_⟩
 dsimp only[cxA,cxB];refine cB fun _ Y=>cS {_,Z9,a,CP,dx,_,_,Z9,h1,TP.clP,TP.nA,Z9,gk Y ?_};refine cB fun _ Y=>{fun m σ G=>σ=[Z8 (.ref a),Z8 fl,Z8 (.int 0)]/\G=H,{0,Z9,Z9},?_};rintro m σ G ⟨rfl,rfl⟩;refine{_,Z9,a,CP,dx,_,_,Z9,h1,TP.clP,TP.nA,Z9,_,Z9,a,CP,dx,_,_,Z9,h1,TP.clP,TP.nE,Z9,Z,_,Z9,.inl (SqL.of h2),_,_,Z9,Z9,_,Z9,gm (gm (Y _ _ ?_))};exact gF {_,Z9,a,CP,dx,_,_,Z9,h1,TP.clP,TP.nE,Z9,_,Z9,_,Z9,_,Z9,a,CP,dx,_,_,Z9,h1,TP.clP,TP.nA,Z9,_,Z9,Z,_,Z9,SqL.of h2,fun l M=>k l M}
end
def Ev.key(e:Ev):List Int:=[e.t,e.r,e.fr,e.c]
theorem hv{G:Hp}{x y:ab}{o u:HO}(h:G x=Z8 o)(n:x≠y):upd G y u x=Z8 o:=by
 rw[aV n];exact h
theorem eU{H:Hp}{l:ab}(_:H l=Z7)(o:HO):upd H l o l=Z8 o:=ai
theorem i4{a b:ab}{H G:Hp}{o:HO}(k:But a H G)(ha:G a=Z8 o)(n:G b=Z7):H b=Z7/\b≠a:=by
 have z:b≠a:=(aC ha n).symm;refine{?_,z}
 cases e:H b with
 |none=>rfl
 |some u=>
  rw[k _ _ e z]at n
  cases n
structure Pa where
 a:ab
 cal:ab
 ent:ab
 d:ab
 r:ab
 q:ab
 st:ab
def Pa.fp(x:Pa):List ab:=[x.q,x.r,x.ent,x.d]
def Pa.all(x:Pa):List ab:=[x.a,x.cal,x.ent,x.d,x.r,x.q,x.st]
structure PtG(CP CC:ab)(G:Hp)(x:Pa)(ks:List (List Int)):Prop where
 ha:∃dx md,G x.a=Z8 (.ins CP dx (pF md (.ref x.st) (.ref x.cal) (.ref x.ent)))
 hs:∃ss,G x.st=Z8 (.dK ss)
 he:G x.ent=Z8 (.l [])
 hc:∃kvs,Cal CC G x.cal x.d x.r x.q kvs/\kvs.map (·.1)=ks.map kI
 ne:x.q≠x.ent
theorem PtG.same{CP CC:ab}{G G':Hp}{x:Pa}{ks:List (List Int)}(s:cA G G')(h:PtG CP CC G x ks):PtG CP CC G' x ks:=by
 obtain⟨⟨dx,W,h1⟩,⟨X,h2⟩,U,⟨kvs,Z,Y⟩,V⟩:=h;exact{{dx,W,s _ _ h1},{X,s _ _ h2},s _ _ U,{kvs,Z.same s,Y},V}
theorem PtG.pta{CP CC:ab}{G:Hp}{x:Pa}{ks:List (List Int)}(h:PtG CP CC G x ks):PtA CP CC G (.ref x.a) ks:=by
 obtain⟨⟨dx,Z,h1⟩,_,X,⟨kvs,Y,W⟩,_⟩:=h;exact{x.a,dx,x.cal,x.ent,x.d,x.r,x.q,Z,_,kvs,Z9,h1,X,Y,W}
theorem PtG.dk{CP CC p:ab}{G G':Hp}{x:Pa}{ks:List (List Int)}{kk L:List (Key×V)}(b:But p G G')(hp:G p=Z8 (.dK kk))(Z:G' p=Z8 (.dK L))(h:PtG CP CC G x ks):PtG CP CC G' x ks:=by
 obtain⟨⟨dx,O,h1⟩,⟨U,h2⟩,Y,⟨kvs,X,W⟩,M⟩:=h;refine{{dx,O,b _ _ h1 (cQ h1 hp nofun)},?_,b _ _ Y (cQ Y hp nofun),{kvs,X.but b hp nofun nofun nofun nofun,W},M}
 by_cases z:x.st=p
 ·rw[z];exact{_,Z}
 ·exact{U,b _ _ h2 z}
theorem PtG.stay{CP CC d q:ab}{G G':Hp}{x:Pa}{ks:List (List Int)}{kk:List (List Key×V)}{l:List V}(s:jq [d,q] G G')(Z:G d=Z8 (.dT kk))(hq:G q=Z8 (.l l))(n:∀a∈x.fp,a≠d/\a≠q)(h:PtG CP CC G x ks):PtG CP CC G' x ks:=by
 obtain⟨⟨dx,J,h1⟩,⟨L,h2⟩,W,⟨kvs,Y,M⟩,I⟩:=h;have k:∀{a o},G a=Z8 o->a≠d->a≠q->G' a=Z8 o:=fun {a o} e O U=>s.keep _ _ e (by simp[O,U]);refine{{dx,J,k h1 (cQ h1 Z nofun) (cQ h1 hq nofun)},{L,k h2 (cQ h2 Z nofun) (cQ h2 hq nofun)},k W (cQ W Z nofun) (n x.ent (by simp[Pa.fp])).2,{kvs,Y.stay s fun b hb=>?_,M},I};obtain⟨D,B,y,X,_⟩:=Y;simp only[aD,aX,or_false]at hb |-;rintro z
 rcases hb with rfl|rfl|rfl|rfl
 ·rcases z with z|z
  ·exact cQ X Z nofun z
  ·exact cQ X hq nofun z
 ·have:=n x.d (by simp[Pa.fp]);exact z.elim this.1 this.2
 ·have:=n x.r (by simp[Pa.fp]);exact z.elim this.1 this.2
 ·have:=n x.q (by simp[Pa.fp]);exact z.elim this.1 this.2
section
variable{P:aP}{w:bF}{K:ag}{mg:Str->Option ae}{base:cz}{f fL fI fC fPu CP CR CC:ab}{fd fdL fdI fdC fdPu:bS}
seal PS PSs PE PA PT PW PI PG PGs PC
abbrev nRi:List Str:=["self"]
abbrev pRi:List Str:=["self"]
theorem scRi:bU nRi pRi (aS oE):=fK
def spRi(CR:ab):Sp:=fun vs H Q _=>∃a dx:ab,vs=[.ref a]/\H a=Z8 (.ins CR dx [])/\∀G:Hp,RdA CR G (.ref a)->But a H G->(∃l u,G a=Z8 (.ins CR dx (rF l u))/\H l=Z7/\H u=Z7)->Q .non G
theorem ok_ri(F:Fun K "__init__" "Road.__init__" oE f fd)(TP:PtT K mg CP CR):bO P w K mg base CX0 1 f fd pRi (spRi CR):=by
 refine F.ok scRi (fun vs H Q E h=>?_) (fun O A outer s H vs Q E M h=>?_)
 ·obtain⟨a,dx,rfl,_⟩:=h;rfl
 obtain⟨a,dx,rfl,h1,k⟩:=h;refine⟨_,ax (gr (pv 0) (dv ao) rfl)
  (aJ (gr (pv 0) (dv ao) rfl)),?_⟩
 dsimp only[cxA,cxB];refine cB fun _ U=>{aO _,fun l V=>{_,Z9,a,CR,dx,[],Z9,(az V _) _ _ h1,TP.clR,TP.nL,(by show 0<1000;decide),U _ _ ?_}};have Y:l≠a:=(aC h1 V).symm;refine{aO _,fun u Z=>{_,Z9,a,CR,dx,_,Z9,(az Z _) _ _ ai,TP.clR,TP.nU,(dS (jB _ _ _) (by decide)),?_}};have X:u≠a:=(aC ai Z).symm;have W:u≠l:=fun z=>by
  rw[z,aV Y,ai]at Z
  cases Z
 have b:But a H (upd (upd (upd (upd H l (.l [])) a (.ins CR dx (aM "letters" (.ref l) []))) u (.l [])) a (.ins CR dx (aM "unheard" (.ref u) (aM "letters" (.ref l) [])))):=fun c o e n=>hv ((az Z _) _ _ (hv ((az V _) _ _ e) n)) n;refine k _ {a,dx,l,u,Z9,ai,hv (hv (hv ai Y) W.symm) Y,hv ai X} b {l,u,ai,V,?_};rw[aV X,aV W]at Z;exact Z
abbrev nQi:List Str:=["self","model"]
abbrev pQi:List Str:=["self","model"]
theorem scQi:bU nQi pQi (aS oC):=fK
inductive GU(CP CC:ab)(vs:List V)(H:Hp)(Q:VK)(_e:XK):Prop where
 |mk(a dx:ab)(md:V)(_:vs=[.ref a,md])(_:H a=Z8 (.ins CP dx []))(_:∀(x:Pa) (G:Hp),x.a=a->PtG CP CC G x []->G x.st=Z8 (.dK [])->But a H G->(∀b∈x.all,b=a\/H b=Z7)->Q .non G):GU CP CC vs H Q _e
def spQi(CP CC:ab):Sp:=fun vs H Q Z=>GU CP CC vs H Q Z
theorem ok_qi(F:Fun K "__init__" "Part.__init__" oC f fd)(MC:Mk K CC fC)(GC:bO P w K mg base CX0 1 fC fdC ["self"] (zh CC))(bC:Binds K fdC ["self"] [])(TC:xJ K mg CC)(TP:PtT K mg CP CR):bO P w K mg base CX0 3 f fd pQi (spQi CP CC):=by
 refine F.ok scQi (fun vs H Q E h=>?_) (fun cc A outer s H vs Q E hr h=>?_)
 ·obtain⟨a,dx,Y,rfl,_⟩:=h;rfl
 obtain⟨a,dx,Y,rfl,h1,k⟩:=h;have r2:dC 2 _:=hr;refine⟨_,ax (gr (pv 0) (pv 1) rfl)
  (ax (gr (pv 0) qc rfl)
  (ax (gr (pv 0) (wU MC GC r2 (by rfl) TC.mgC bC .nil eV) rfl)
  (ax (gr (pv 0) (dv ao) rfl)
  (aJ (gr (pv 0) au rfl))))),?_⟩
 dsimp only[cxA,cxB];refine cB fun _ L=>{_,Z9,_,Z9,a,CP,dx,[],Z9,h1,TP.clP,TP.nM,(by show 0<1000;decide),L _ _ ?_};have B:But a H (upd H a (.ins CP dx (aM "model" Y []))):=But.upd _ _ _;have a1:upd H a (.ins CP dx (aM "model" Y [])) a=Z8 (.ins CP dx (aM "model" Y [])):=ai;revert B a1;generalize upd H a (.ins CP dx (aM "model" Y []))=G1;intro B a1;refine cB fun _ L=>fun st O=>{_,Z9,a,CP,dx,_,Z9,(az O _) _ _ a1,TP.clP,TP.nS,(dS (jB _ _ _) (by decide)),L _ _ ?_};obtain⟨cd,U⟩:=i4 B a1 O;have J:But a H (upd (upd G1 st (.dK [])) a (.ins CP dx (aM "states" (.ref st) (aM "model" Y [])))):=fun c o e n=>hv ((az O _) _ _ (B _ _ e n)) n;have a2:upd (upd G1 st (.dK [])) a (.ins CP dx (aM "states" (.ref st) (aM "model" Y []))) a=Z8 (.ins CP dx (aM "states" (.ref st) (aM "model" Y []))):=ai;have s2:upd (upd G1 st (.dK [])) a (.ins CP dx (aM "states" (.ref st) (aM "model" Y []))) st=Z8 (.dK []):=hv ai U;revert J a2 s2;generalize upd (upd G1 st (.dK [])) a (.ins CP dx (aM "states" (.ref st) (aM "model" Y [])))=G2;intro J a2 s2;clear B a1 O;refine cB fun _ L=>qM fun Z D W g cs=>?_;obtain⟨cp,co⟩:=i4 J a2 W;have sA:cA G2 (upd (upd G2 D (.own Z)) Z (.ins CC D [])):=fun b o e=>hv (hv e (aC e g)) (aC e W);refine{Z,D,Z9,ai,fun d r q y hd t hq ck hC sC=>{Z9,?_}};have k3:∀{b o},G2 b=Z8 o->y b=Z8 o:=fun {b o} e=>sC.keep _ _ (sA _ _ e) (by simp[aC e W]);have fr:∀{b},upd (upd G2 D (.own Z)) Z (.ins CC D []) b=Z7->H b=Z7/\b≠a:=fun {b} e=>i4 (fun c o e n=>sA _ _ (J _ _ e n)) (sA _ _ a2) e;obtain⟨d0,cl⟩:=fr hd;obtain⟨r0,ci⟩:=fr t;obtain⟨q0,ce⟩:=fr hq;refine{_,Z9,a,CP,dx,_,Z9,k3 a2,TP.clP,TP.nP,(by have:=jv "states" (.ref st) (aM "model" Y []);have:=jv "model" Y [];simp only[cU]at *;omega),L _ _ ?_};have b4:But a H (upd y a (.ins CP dx (aM "pending" (.ref Z) (aM "states" (.ref st) (aM "model" Y []))))):=fun c o e n=>hv (k3 (J _ _ e n)) n;have c4:Cal CC (upd y a (.ins CP dx (aM "pending" (.ref Z) (aM "states" (.ref st) (aM "model" Y []))))) Z d r q []:=hC.stay (ps:=[a]) (jq.upd (by simp) (k3 a2) nofun) fun b hb=>by
  simp only[aD,aX,or_false]at hb |-
  rcases hb with rfl|rfl|rfl|rfl<;>assumption
 have s4:=hv (u:=.ins CP dx (aM "pending" (.ref Z) (aM "states" (.ref st) (aM "model" Y [])))) (k3 s2) U;have a4:upd y a (.ins CP dx (aM "pending" (.ref Z) (aM "states" (.ref st) (aM "model" Y [])))) a=Z8 (.ins CP dx (aM "pending" (.ref Z) (aM "states" (.ref st) (aM "model" Y [])))):=ai;revert b4 c4 s4 a4;generalize upd y a (.ins CP dx (aM "pending" (.ref Z) (aM "states" (.ref st) (aM "model" Y []))))=G4;intro b4 c4 s4 a4;clear hd t hq fr hC sC k3 sA W g cs J a2 s2;refine cB fun _ L=>{aO _,fun X V=>{_,Z9,a,CP,dx,_,Z9,(az V _) _ _ a4,TP.clP,TP.nE,(by have:=jv "pending" (.ref Z) (aM "states" (.ref st) (aM "model" Y []));have:=jv "states" (.ref st) (aM "model" Y []);have:=jv "model" Y [];simp only[cU]at *;omega),L _ _ ?_}};obtain⟨cn,M⟩:=i4 b4 a4 V;refine{_,Z9,a,CP,dx,_,Z9,ai,TP.clP,TP.nA,(by have:=jv "entries" (.ref X) (aM "pending" (.ref Z) (aM "states" (.ref st) (aM "model" Y [])));have:=jv "pending" (.ref Z) (aM "states" (.ref st) (aM "model" Y []));have:=jv "states" (.ref st) (aM "model" Y []);have:=jv "model" Y [];simp only[cU]at *;omega),?_};have cr:q≠X:=by
  obtain⟨_,as,_,_,_,_,z,_⟩:=c4;exact aC z V
 have I:∀{b o},G4 b=Z8 o->b≠a->upd (upd (upd G4 X (.l [])) a (.ins CP dx (aM "entries" (.ref X) (aM "pending" (.ref Z) (aM "states" (.ref st) (aM "model" Y [])))))) a (.ins CP dx (aM "passed" (.int 0) (aM "entries" (.ref X) (aM "pending" (.ref Z) (aM "states" (.ref st) (aM "model" Y [])))))) b=Z8 o:=fun {b o} e n=>hv (hv ((az V _) _ _ e) n) n;have tF:∀b xs,G4 b=Z8 (.t xs)->upd (upd (upd G4 X (.l [])) a (.ins CP dx (aM "entries" (.ref X) (aM "pending" (.ref Z) (aM "states" (.ref st) (aM "model" Y [])))))) a (.ins CP dx (aM "passed" (.int 0) (aM "entries" (.ref X) (aM "pending" (.ref Z) (aM "states" (.ref st) (aM "model" Y [])))))) b=Z8 (.t xs):=fun b xs e=>I e (cQ e a4 nofun);refine k ⟨a,Z,X,d,r,q,st⟩ _ rfl {⟨dx,Y,ai⟩,{[],I s4 U},hv (hv ai M) M,{[],c4.stay (ps:=[a]) {fun b o e n=>I e (by simpa using n),tF} fun b hb=>?_,Z9},cr} (I s4 U) (fun c o e n=>I (b4 _ _ e n) n) fun b hb=>?_
 ·simp only[aD,aX,or_false]at hb |-
  rcases hb with rfl|rfl|rfl|rfl<;>assumption
 ·simp only[Pa.all,aD,aX,or_false]at hb
  rcases hb with rfl|rfl|rfl|rfl|rfl|rfl|rfl
  ·exact .inl rfl
  all_goals exact .inr (by assumption)
abbrev nQa:List Str:=["self","happening"]
abbrev pQa:List Str:=["self","happening"]
theorem scQa:bU nQa pQa (aS ix):=fK
inductive GV(CP CC:ab)(vs:List V)(H:Hp)(Q:VK)(_e:XK):Prop where
 |mk(v:V)(e:Ev)(x:Pa)(ks:List (List Int))(_:vs=[.ref x.a,v])(_:PtG CP CC H x ks)(_:oJ H v e)(_:e.key∉ks)(_:ks.length<=1000)(_:∀G:Hp,PtG CP CC G x (ks++[e.key])->jq [x.d,x.q] H G->Q .non G):GV CP CC vs H Q _e
def spQa(CP CC:ab):Sp:=fun vs H Q Z=>GV CP CC vs H Q Z
theorem ok_qa(F:Fun K "await_one" "Part.await_one" ix f fd)(M:Mt K CC "put" "Calendar.put" iX ["self","key","thing"] fPu fdPu)(W:bO P w K mg base CX0 3 fPu fdPu ["self","key","thing"] (GJ CC))(D:xJ K mg CC)(TP:PtT K mg CP CR):bO P w K mg base CX0 4 f fd pQa (spQa CP CC):=by
 refine F.ok scQa (fun vs H Q E h=>?_) (fun bo A outer s H vs Q E hr h=>?_)
 ·obtain⟨v,e,x,ks,rfl,_⟩:=h;rfl
 obtain⟨v,e,x,ks,rfl,hp,⟨t,kk,rfl,e1,e2⟩,hn,hl,k⟩:=h;have r3:dC 3 _:=hr;refine{_,aJ (eL (ka (cO K (by rfl) (pv 0) (by rfl)) D.cl M.m W r3 M.b .nil eV (jA (bJ dX (pv 1) au) (aT (pv 1) ao)))),?_};dsimp only[cxA,cxB];obtain⟨⟨dx,B,h1⟩,⟨ss,h2⟩,I,⟨kvs,U,X⟩,L⟩:=id hp;obtain⟨V,_,_,c1,_⟩:=id U;have Z:jY kvs (kI e.key)=Z7:=by
  cases z:jY kvs (kI e.key) with
  |none=>rfl
  |some v=>
   have m:=zF z;rw[X]at m;obtain⟨y,hy,ey⟩:=bY.mp m;rw[lK ey]at hy;exact Q7 hy hn
 have hk:kvs.length=ks.length:=by
  have:=congrArg jJ X
  rwa[ak,ak]at this
 refine{_,Z9,x.a,CP,dx,_,_,Z9,h1,TP.clP,TP.nP,Z9,x.cal,V,_,Z9,c1,Dt _ _ (by decide +kernel) (by decide +kernel),_,Z9,t,_,_,_,Z9,Z9,SqT.of e1,Z9,_,Z9,x.cal,x.d,x.r,x.q,kk,e.key,_,kvs,Z9,U,e2,Z,by omega,fun G g Y=>?_};obtain⟨_,as,_,_,O,_,J,_⟩:=id U;refine k G {{dx,B,Y.keep _ _ h1 ?_},{ss,Y.keep _ _ h2 ?_},Y.keep _ _ I ?_,{_,g,?_},L} Y
 ·simp only[aD,aX,or_false];exact fun z=>z.elim (cQ h1 O nofun) (cQ h1 J nofun)
 ·simp only[aD,aX,or_false];exact fun z=>z.elim (cQ h2 O nofun) (cQ h2 J nofun)
 ·simp only[aD,aX,or_false];exact fun z=>z.elim (cQ I O nofun) (cE L)
 ·rw[oA _ Z,cq,cq,X];rfl
end
def mX(Z:List Int)(xs:List Pa):List (Key×V):=List.zipWith (fun n x=>(Sum.inl n,V.ref x.a)) Z xs
structure Pts(CP CC:ab)(H G:Hp)(mb:ab)(nums:List Int)(xs:List Pa)(f:Int->List (List Int)):Prop where
 ln:xs.length=nums.length
 dk:G mb=Z8 (.dK (mX nums xs))
 pt:∀(i:Nat) (x:Pa) (n:Int),xs[i]?=Z8 x->nums[i]?=Z8 n->PtG CP CC G x (f n)
 ap:∀(i j:Nat) (x y:Pa),xs[i]?=Z8 x->xs[j]?=Z8 y->i≠j->∀a∈x.fp,a∉y.fp
 fr:∀x∈xs,∀a∈x.all,H a=Z7
 fm:H mb=Z7
 ns:∀x∈xs,x.st≠mb
theorem zi:∀{Z:List Int} {xs:List Pa} {i:Nat} {n:Int} {x:Pa},Z.Nodup->Z[i]?=Z8 n->xs[i]?=Z8 x->jY (mX Z xs) (.inl n)=Z8 (.ref x.a)
 | [],_,i,n,x,_,h,_=>by cases h
 |_::_,[],i,n,x,_,_,h=>by cases h
 |m::Y,y::ys,0,n,x,X,h,h'=>by
  cases h
  cases h';exact oq rfl
 |m::Y,y::ys,i+1,n,x,X,h,h'=>by
  have h:Y[i]?=Z8 n:=h;have h':ys[i]?=Z8 x:=h';show jY ((Sum.inl m,V.ref y.a)::mX Y ys) (.inl n)=_;rw[oy]
  ·exact zi (hW.mp X).2 h h'
  ·intro z
   cases z;exact (hW.mp X).1 (aK h)
theorem FA{Z:List Int}{xs:List Pa}{n:Int}(h:n∉Z):jY (mX Z xs) (.inl n)=Z7:=by
 cases e:jY (mX Z xs) (.inl n) with
 |none=>rfl
 |some v=>
  have m:=zF e;exfalso;revert m;unfold mX;clear e
  induction Z generalizing xs with
  |nil=>intro m;cases m
  |cons a X Y=>
   cases xs with
   |nil=>intro m;cases m
   |cons x xs=>
    intro m
    rcases aD.mp m with z|z
    ·cases z;exact h aU
    ·exact Y (fun q=>h (bL _ q)) z
theorem FB{Z:List Int}{xs:List Pa}(l:xs.length=Z.length)(n:Int)(x:Pa):mX (Z++[n]) (xs++[x])=mX Z xs++[(.inl n,.ref x.a)]:=by
 unfold mX;rw[List.zipWith_append l.symm];rfl
theorem Pts.same{CP CC Y:ab}{H G G':Hp}{Z:List Int}{xs:List Pa}{f:Int->List (List Int)}(s:cA G G')(h:Pts CP CC H G Y Z xs f):Pts CP CC H G' Y Z xs f:=
 {h.ln,s _ _ h.dk,fun i x n a b=>(h.pt i x n a b).same s,h.ap,h.fr,h.fm,h.ns}
theorem Pts.more{CP CC V:ab}{H G G' M:Hp}{Z:List Int}{xs:List Pa}{n:Int}{x:Pa}(h:Pts CP CC H G V Z xs fun _=>[])(J:cA H G)(s:cA G G')(hp:PtG CP CC G' x [])(fr:∀a∈x.all,G a=Z7)(b:But V G' M)(U:M V=Z8 (.dK (mX Z xs++[(.inl n,.ref x.a)]))):Pts CP CC H M V (Z++[n]) (xs++[x]) fun _=>[]:=by
 have Y:=s _ _ h.dk;have old:∀{i:Nat} {y:Pa},(xs++[x])[i]?=Z8 y->(i<xs.length/\xs[i]?=Z8 y)\/(i=xs.length/\y=x):=fun {i y} e=>by
  by_cases c:i<xs.length
  ·rw[dy c]at e;exact .inl ⟨c,e⟩
  ·have l:=(ay.mp e).1;rw[aL]at l;have l:i<xs.length+1:=l;have z:i=xs.length:=by omega
   subst z;rw[df (aB _),rp]at e
   cases e;exact .inr ⟨Z9,Z9⟩
 have X:∀y:Pa,∀a∈y.fp,a∈y.all:=fun y a m=>by
  simp only[Pa.fp,Pa.all,aD,aX,or_false]at m |-
  rcases m with m|m|m|m<;>simp[m]
 have there:∀{i:Nat} {y:Pa},xs[i]?=Z8 y->∀a∈y.fp,G a≠Z7:=fun {i y} e a m z=>by
  have t:i<Z.length:=by
   rw[<- h.ln];exact (ay.mp e).1
  have q:=h.pt i y _ e (aA t);obtain⟨kvs,⟨_,_,_,_,I,B,r,_⟩,_⟩:=q.hc;have D:=q.he;simp only[Pa.fp,aD,aX,or_false]at m
  rcases m with rfl|rfl|rfl|rfl
  ·rw[r]at z;cases z
  ·rw[B]at z;cases z
  ·rw[D]at z;cases z
  ·rw[I]at z;cases z
 refine{by rw[aL,aL,h.ln];rfl,by rw[FB h.ln];exact U,fun i y m e1 W=>?_,fun i j y z e1 W ne a m=>?_,fun y m a ha=>?_,h.fm,fun y m=>?_}
 ·rcases old e1 with⟨l,e⟩|⟨rfl,rfl⟩
  ·rw[dy (by rw[<- h.ln];exact l)]at W;exact ((h.pt i y m e W).same s).dk b Y U
  ·exact hp.dk b Y U
 ·rcases old e1 with⟨f,L⟩|⟨rfl,rfl⟩
  ·rcases old W with⟨g,O⟩|⟨rfl,rfl⟩
   ·exact h.ap i j y z L O ne a m
   ·exact fun q=>there L a m (fr a (X _ a q))
  ·rcases old W with⟨g,O⟩|⟨rfl,rfl⟩
   ·exact fun q=>there O a q (fr a (X _ a m))
   ·exact Q7 rfl ne
 ·rcases cj.mp m with m|m
  ·exact h.fr y m a ha
  ·rw[aH.mp m]at ha;exact none_of J (fr a ha)
 ·rcases cj.mp m with m|m
  ·exact h.ns y m
  ·rw[aH.mp m];intro z;have:=fr x.st (by simp[Pa.all]);rw[z,h.dk]at this
   cases this
theorem Pts.put{CP CC Y:ab}{H G:Hp}{Z:List Int}{xs:List Pa}{f:Int->List (List Int)}(h:Pts CP CC H G Y Z xs f){x:Pa}(hx:x∈xs){X W:List (Key×V)}(hs:G x.st=Z8 (.dK X)):Pts CP CC H (upd G x.st (.dK W)) Y Z xs f:=
 {h.ln,hv h.dk (h.ns x hx).symm,fun i y n a b=>(h.pt i y n a b).dk (But.upd _ _ _) hs ai,h.ap,h.fr,h.fm,h.ns}
section
variable{P:aP}{w:bF}{K:ag}{mg:Str->Option ae}{base:cz}{f fF fI fR CP CR CC CM CS:ab}{fd fdF fdI fdR:bS}
seal PS PSs PE PA PT PW PI PG PGs PC
abbrev nPb:List Str:=["model","parting","parts","number","at"]
abbrev pPb:List Str:=["model","parting"]
theorem FC:bU nPb pPb (aS gb):=fK
inductive GW(CM CP CC:ab)(vs:List V)(H:Hp)(Q:VK)(_e:XK):Prop where
 |mk(Ms:List MD)(m pl:ab)(pt:List Int)(_:vs=[.ref m,.ref pl])(_:Ja CM Ms H m)(_:H pl=Z8 (.l (pt.map V.int)))(_:pt.length=Ms.length)(_:Ms.length<=9)(_:∀(G:Hp) (mb:ab) (nums:List Int) (xs:List Pa),cA H G->Pts CP CC H G mb nums xs (fun _=>[])->nums.Pairwise (·<·)->(∀n,n∈nums↔n∈pt)->nums.length<=9->Q (.ref mb) G):GW CM CP CC vs H Q _e
def spPb(CM CP CC:ab):Sp:=fun vs H Q Z=>GW CM CP CC vs H Q Z
theorem ok_pb(D:Df K mg "parts_by_number" gb pPb f fd)(MP:Mk K CP fI)(er:bO P w K mg base CX0 3 fI fdI ["self","model"] (spQi CP CC))(bP:Binds K fdI ["self","model"] [])(DF:Df K mg "first_state" jg ["model","at"] fF fdF)(GF:bO P w K mg base CX0 3 fF fdF ["model","at"] (sF CM CS))(TP:PtT K mg CP CR)(TM:MdT K mg CM CS)(B:Bl mg)(MS:mg "sorted"=Z7)(em:mg "set"=Z7):bO P w K mg base CX0 5 f fd pPb (spPb CM CP CC):=by
 refine D.F.ok FC (fun vs H Q E h=>?_) (fun fv A outer s H vs Q E hr h=>?_)
 ·obtain⟨Ms,m,pl,pt,rfl,_⟩:=h;rfl
 obtain⟨Ms,m,pl,pt,rfl,hM,eH,lp,l9,k⟩:=h;have r:=pd hr;have r3:dC 3 _:=hr.mono (by decide);have r4:dC 4 _:=hr;refine⟨_,ax (pst 2 FC qc)
  (ax (e9 bB rfl (eM (cK (sW rfl) (by rfl) MS q9 (ie (i6 (Bg rfl) (by rfl) em boot_set (aT (pv 1) ao)) ao))) (pgn 3 FC) (aJ (oP r (pv 2) (pv 3) (p8 MP er r4 (by rfl) TP.mP bP .nil eV (aT (pv 0) ao)) rfl)))
  (ax (e9 bB rfl (gG (by rfl) B.range (ie (cK (dH K (by rfl)) (by rfl) B.len bV (bH (cO K (by rfl) (pv 0) (by rfl)) ao)) ao)) (pgn 4 FC) (aJ (oP r (cO K (by rfl) (rD r (pv 2) (bJ bN (pv 1) (pv 4))) (by rfl)) (pv 4) (pcl GF r3 DF (aT (pv 0) (aT (pv 4) ao))) rfl)))
  (aJ (bT (pv 2))))),?_⟩
 dsimp only[cxA,cxB];have big:=ef;refine cB fun _ zK=>cS fun O ge=>gk zK ?_;have s0:=az ge (.dK []);refine cB fun _ zK=>{_,Z9,pl,pt,Z9,s0 _ _ eH,(by have:1000<jG:=(by decide);omega),fun sa l d nl ml ll=>{sa,l,Z9,ai,by omega,fun sb Y X pm up=>?_}};have s1:=s0.trans ((az d (ze _ sa l)).trans (az X (.l (Y.map V.int))));refine{sb,Z9,{_,SqL.of ai},?_};have U:upd (upd (upd H O (.dK [])) sa (ze (vw CX0 P w K mg base nPb "parts_by_number" (aS gb) f fv A outer s H E).nox sa l)) sb (.l (Y.map V.int)) O=Z8 (.dK []):=((az d _).trans (az X _)) _ _ ai;have L:upd (upd (upd H O (.dK [])) sa (ze (vw CX0 P w K mg base nPb "parts_by_number" (aS gb) f fv A outer s H E).nox sa l)) sb (.l (Y.map V.int)) sb=Z8 (.l (Y.map V.int)):=ai;have ga:Y.Nodup:=pm.nodup_iff.mpr nl;have eq:Y.length<=9:=by
  have:=pm.length_eq;omega
 have eo:Y.Pairwise (·<·):=List.Pairwise.imp₂ (fun a b h1 h2=>by omega) up ga;have I:∀n,n∈Y↔n∈pt:=fun n=>pm.mem_iff.trans (ml n);revert s1 U L;generalize upd (upd (upd H O (.dK [])) sa _) sb (.l (Y.map V.int))=G1;intro s1 U L;clear d X pm up nl ml ll s0;refine iM (K:=K) (a:=sb) (xs:=Y.map V.int) (fun i σ G=>∃(g u4:Option V) (xs:List Pa),σ=[Z8 (.ref m),Z8 (.ref pl),Z8 (.ref O),g,u4]/\cA H G/\Pts CP CC H G O (Y.take i) xs (fun _=>[])/\G sb=Z8 (.l (Y.map V.int))/\∀x∈xs,G x.st=Z8 (.dK [])) {_,_,[],Z9,s1,{Z9,U,(fun i x n e=>by cases e),(fun i j x y e=>by cases e),(fun x m=>by cases m),ge,fun x m=>by cases m},L,fun x m=>by cases m} ?_ ?_ ?_
 ·rintro i σ G _ ⟨_,_,_,rfl,_,_,h,_⟩;exact SqL.of h
 ·rintro zN zB zH i v σ G hi ⟨g,u4,xs,rfl,Z,W,X,hS⟩;rw[bD]at hi;obtain⟨n,hn,rfl⟩:=cX.mp hi;have li:i<Y.length:=(ay.mp hn).1;refine bK ?_;refine qM {_,Z9,fun a dx ha et ei=>{a,dx,_,Z9,ai,fun x G2 ex hp ek b2 fr=>{Z9,?_}}};have sA:cA G (upd (upd G dx (.own a)) a (.ins CP dx [])):=fun b o e=>hv (hv e (aC e et)) (aC e ha);have s2:cA G G2:=fun b o e=>b2 _ _ (sA _ _ e) (aC e ha);have fw:∀b∈x.all,G b=Z7:=fun b hb=>(fr b hb).elim (fun z=>by rw[z];exact ha) fun z=>none_of sA z;have J:=s2 _ _ W.dk;have nm:n∉Y.take i:=fun z=>by
   obtain⟨j,hj⟩:=cP z;have lj:j<i:=by
    have:=(ay.mp hj).1;rw[dB]at this;omega
   rw[mn lj]at hj;have:=(mm (by omega) ga).mp (hj.trans hn.symm);omega
  have eg:(mX (Y.take i) xs).length<=9:=by
   unfold mX;rw[List.length_zipWith,dB];omega
  refine{_,Z9,_,Z9,O,_,Z9,rj.k (k:=Sum.inl n) J (by omega),zH _ _ _ {_,_,xs++[x],Z9,iA (Z.trans s2) ge _,?_,?_,?_}}
  ·rw[eJ,hn];refine W.more Z s2 hp fw (But.upd _ _ _) ?_;rw[ai,oA _ (FA nm),ex]
  ·exact hv (s2 _ _ X) (cQ (s2 _ _ X) J nofun)
  ·intro y hy
   rcases cj.mp hy with hy|hy
   ·exact hv (s2 _ _ (hS y hy)) (W.ns y hy)
   ·rw[aH.mp hy];exact hv ek fun z=>by
     have:=fw x.st (by simp[Pa.all]);rw[z,W.dk]at this
     cases this
 rintro σ G ⟨g,u4,xs,rfl,Z,W,X,hS⟩;rw[ak,eX]at W;refine zK _ _ ?_;obtain⟨fa,ml,fs,hm,ev,vs,ew,ey⟩:=hM;have lv:vs.length=Ms.length:=bQ ey;refine cB fun _ zK=>{_,Z9,m,CM,fa,_,_,Z9,Z _ _ hm,TM.clM,TM.nM,ev,ml,vs,Z9,.inl (SqL.of (Z _ _ ew)),(vs.length:Int),Z9,by omega,by omega,?_};refine mT (n:=(vs.length:Int).toNat) (fun i σ G=>∃g u4:Option V,σ=[Z8 (.ref m),Z8 (.ref pl),Z8 (.ref O),g,u4]/\cA H G/\Pts CP CC H G O Y xs (fun _=>[])/\∀x∈xs,∃q:List (Key×V),G x.st=Z8 (.dK q)/\q.length<=i) {_,_,Z9,Z,W,fun x hx=>{[],hS x hx,aB _}} ?_ ?_
 ·rintro zN zB zH j σ G hj ⟨g,u4,rfl,Z,W,hS⟩;rw[dE]at hj;rw[zj];obtain⟨v,fz⟩:∃v,vs[j]?=Z8 v:={_,aA hj};obtain⟨M,ej,z⟩:=jo ey fz;have zq:=z.lq;have zb:=z.lb;have zk:=congrArg jJ z.kb;rw[ak]at zk;obtain⟨t,bl,ql,n0,x3,x4,vb,rfl,e1,e2,e3,e4⟩:=z.fs;refine bK ?_;refine{_,Z9,_,Z9,m,fa,ml,t,bl,ql,fs,n0,x3,x4,j,vs,vb,M.ps,M.qs,Z9,Z _ _ hm,ev,Z _ _ ew,fz,Z _ _ e1,Z _ _ e2,e3.same Z,by omega,Z _ _ e4,by omega,fun st ed bd qd ls G2 nw=>?_};have s2:=nw.same;obtain⟨n,hn⟩:∃n,pt[j]?=Z8 n:={_,aA (by omega)};obtain⟨i,hi⟩:=cP ((I n).mpr (aK hn));have li:i<xs.length:=by
   rw[W.ln];exact (ay.mp hi).1
  obtain⟨x,hx⟩:∃x,xs[i]?=Z8 x:={_,aA li};have mx:=aK hx;have gd:=W.same s2;obtain⟨⟨el,md,g1⟩,_⟩:=gd.pt i x n hx hi;obtain⟨q,hq,lq⟩:=hS x mx;have ez:=s2 _ _ hq;refine{_,Z9,_,Z9,_,Z9,pl,_,_,_,Z9,Z9,SqL.of (s2 _ _ (Z _ _ eH)),cI (by rw[bD,hn];rfl),O,.ref x.a,Z9,(by have z:=oZ.k (k:=Sum.inl n) gd.dk;rw[zi ga hi hx]at z;exact z),x.a,CP,el,_,_,Z9,g1,TP.clP,TP.nS,Z9,_,Z9,x.st,_,Z9,rj.k (k:=Sum.inl (j:Int)) ez (by omega),zH _ _ _ {_,_,Z9,iA (Z.trans s2) (W.fr x mx x.st (by simp[Pa.all])) _,gd.put mx ez,fun y hy=>?_}}
  by_cases c:y.st=x.st
  ·rw[c];refine{_,ai,?_};have:=jC q (Sum.inl (j:Int)) (V.ref st);omega
  ·obtain⟨q',en,ee⟩:=hS y hy;exact{q',hv (s2 _ _ en) c,by omega}
 ·rintro σ G ⟨g,u4,rfl,Z,W,_⟩;exact zK _ _ (gF {_,Z9,k G O Y xs Z W eo I eq})
abbrev nRe:List Str:=["numbers","roads","number","other"]
abbrev pRe:List Str:=["numbers"]
theorem FD:bU nRe pRe (aS ju):=fK
inductive Ha(CR:ab)(vs:List V)(H:Hp)(Q:VK)(_e:XK):Prop where
 |mk(nl:ab)(nums:List Int)(_:vs=[.ref nl])(_:H nl=Z8 (.l (nums.map V.int)))(_:nums.length<=9)(_:∀(G:Hp) (rd:ab) (rk:List (List Key×V)),cA H G->H rd=Z7->G rd=Z8 (.dT rk)->(∀q∈rk,RdA CR G q.2/\∃a dx l u,q.2=.ref a/\G a=Z8 (.ins CR dx (rF l u))/\H a=Z7/\H l=Z7/\H u=Z7)->rk.length<=81->Q (.ref rd) G):Ha CR vs H Q _e
def spRe(CR:ab):Sp:=fun vs H Q Z=>Ha CR vs H Q Z
theorem ok_re(D:Df K mg "roads_by_ends" ju pRe f fd)(MR:Mk K CR fR)(g:bO P w K mg base CX0 1 fR fdR ["self"] (spRi CR))(bR:Binds K fdR ["self"] [])(TP:PtT K mg CP CR):bO P w K mg base CX0 3 f fd pRe (spRe CR):=by
 refine D.F.ok FD (fun vs H Q E h=>?_) (fun cs A outer s H vs Q E hr h=>?_)
 ·obtain⟨U,Z,rfl,_⟩:=h;rfl
 obtain⟨U,Z,rfl,Y,l9,k⟩:=h;have B:=pd hr;have r2:dC 2 _:=hr;refine⟨_,ax (pst 1 FD sv)
  (ax (e9 bB rfl (eM (pv 0)) (pgn 2 FD) (aJ (e9 bB rfl (eM (pv 0)) (pgn 3 FD) (aJ (dW (cG BN (pv 3) (pv 2)) (aJ (oP B (pv 1) (dR (aT (pv 2) (aT (pv 3) ao))) (wU MR g r2 (by rfl) TP.mR bR .nil eV) rfl)) cD)))))
  (aJ (bT (pv 1)))),?_⟩
 dsimp only[cxA,cxB];have big:=ef;refine cB fun _ zK=>cS fun O hrd=>gk zK ?_;have s0:=az hrd (.dT []);refine cB fun _ zK=>{_,Z9,U,Z9,{_,SqL.of (s0 _ _ Y)},?_};have cx:U≠O:=aC Y hrd
 let RI:Nat->Hp->Prop:=fun c G=>cA H G/\∃W:List (List Key×V),G O=Z8 (.dT W)/\(∀q∈W,RdA CR G q.2/\∃a dx l u,q.2=.ref a/\G a=Z8 (.ins CR dx (rF l u))/\H a=Z7/\H l=Z7/\H u=Z7)/\W.length<=c
 refine iM (K:=K) (a:=U) (xs:=Z.map V.int) (fun i σ G=>∃u2 L:Option V,σ=[Z8 (.ref U),Z8 (.ref O),u2,L]/\RI (i*Z.length) G) {_,_,Z9,iA (cA.refl _) hrd _,[],ai,(fun q m=>by cases m),aO _} ?_ ?_ ?_
 ·rintro i σ G _ ⟨_,_,rfl,s,_⟩;exact SqL.of (s _ _ Y)
 ·rintro zN zB zH i v σ G hi ⟨u2,L,rfl,I⟩;rw[bD]at hi;obtain⟨n,hn,rfl⟩:=cX.mp hi;have li:i<Z.length:=(ay.mp hn).1;refine bK ?_;refine{_,Z9,U,Z9,{_,SqL.of (I.1 _ _ Y)},?_};refine iM (K:=K) (a:=U) (xs:=Z.map V.int) (fun j σ G=>∃L:Option V,σ=[Z8 (.ref U),Z8 (.ref O),Z8 (.int n),L]/\RI (i*Z.length+j) G) {_,Z9,I} ?_ ?_ ?_
  ·rintro j σ G _ ⟨_,rfl,s,_⟩;exact SqL.of (s _ _ Y)
  ·rintro yN yB yH j v σ G hj ⟨L,rfl,M,W,h1,h2,h3⟩;rw[bD]at hj;obtain⟨o,ho,rfl⟩:=cX.mp hj;have lj:j<Z.length:=(ay.mp ho).1;refine bK ?_;refine ic {_,Z9,_,Z9,Z9,_,Z9,?_}
   by_cases c:o=n
   ·refine lS (b:=false) (by subst c;simp) (gm (yH _ _ _ {_,Z9,M,W,h1,h2,by omega}))
   ·refine lS (b:=true) (by simp[c]) (iq ?_);refine qM fun a dx ha r cu=>{a,dx,Z9,ai,fun J dc b2 ⟨l,u,ga,hl,hu⟩=>{Z9,?_}};have y:cA G (upd (upd G dx (.own a)) a (.ins CR dx [])):=fun b o e=>hv (hv e (aC e r)) (aC e ha);have s2:cA G J:=fun b o e=>b2 _ _ (y _ _ e) (aC e ha);have d:=none_of (M.trans y) hl;have da:=none_of (M.trans y) hu;refine{_,Z9,_,Z9,_,Z9,(by show 2<=aF;decide),fun t ht=>?_};have st:=az ht (.t [.int n,.int o]);have X:=st _ _ (s2 _ _ h1);refine{O,_,Z9,rj.t (k:=[.inl n,.inl o]) X (by exact ai) (by have:(i*Z.length)<=8*9:=Jb (by omega) (by omega);omega),yH _ _ _ {_,Z9,iA (M.trans (s2.trans st)) hrd _,_,ai,fun q m=>?_,?_}}
    ·have kk:∀{q:V},RdA CR J q->RdA CR (upd (upd J t (.t [.int n,.int o])) O (.dT (jS W [.inl n,.inl o] (.ref a)))) q:=fun z=>(z.same st).dt (But.upd _ _ _) X;have ki:∀{b C dx fs},J b=Z8 (.ins C dx fs)->upd (upd J t (.t [.int n,.int o])) O (.dT (jS W [.inl n,.inl o] (.ref a))) b=Z8 (.ins C dx fs):=fun e=>hv (st _ _ e) (cQ (st _ _ e) X nofun)
     rcases Ct m with m|rfl
     ·obtain⟨z1,a',db,l',u',e,z2,z3⟩:=h2 q m;exact{kk (z1.same s2),a',db,l',u',e,ki (s2 _ _ z2),z3}
     ·exact{kk dc,a,dx,l,u,Z9,ki ga,none_of M ha,d,da}
    ·have:=jC W [.inl n,.inl o] (.ref a);omega
  ·rintro σ G ⟨L,rfl,I⟩;refine zH _ _ _ {_,_,Z9,?_};rw[ak]at I;rw[Nat.succ_mul];exact I
 ·rintro σ G ⟨u2,L,rfl,M,W,h1,h2,h3⟩;rw[ak]at h3;exact zK _ _ (gF {_,Z9,k G O W M hrd h1 h2 (dh h3 (Jb l9 l9))})
end
def pnd(pt:List Int)(es:List Ev)(n:Int):List (List Int):=(es.filter fun e=>decide (pt[e.to.toNat]?=Z8 n)).map Ev.key
structure DOk(es:List Ev)(pt:List Int):Prop where
 to:∀e∈es,∃n,pt[e.to.toNat]?=Z8 n
 kn:(es.map Ev.key).Nodup
 le:es.length<=20
 n5:∀n∈pt,0<=n/\n<=5
structure HFs(fs:List (Str×V))(mb rd ce:ab)(ah en:V):Prop where
 ah:fs.lookup ("ahead":Str)=Z8 ah
 mb:fs.lookup ("members":Str)=Z8 (.ref mb)
 rd:fs.lookup ("roads":Str)=Z8 (.ref rd)
 ce:fs.lookup ("certain":Str)=Z8 (.ref ce)
 en:fs.lookup ("ending":Str)=Z8 en
 bc:fs.lookup ("back_count":Str)=Z8 (.int 0)
 no:∀m∈(["actions","possible_doings","may_do","possible_hearings","step","floor","settle","over","outcome","settled","log","taken_back"]:List Str),fs.lookup m=Z7
structure HaT(K:ag)(mg:Str->Option ae)(CH:ab):Prop where
 cl:Cls K CH
 nM:eP K CH "model"
 nP:eP K CH "parting"
 nA:eP K CH "ahead"
 nB:eP K CH "members"
 nR:eP K CH "roads"
 nC:eP K CH "certain"
 nE:eP K CH "ending"
 nK:eP K CH "back_count"
 mH:mg "Hall"=Z8 (.ref CH)
def HaI(CH CP CR CC:ab)(es:List Ev)(pt:List Int)(O M:V)(F:Hp)(h:ab):Prop:=∃(dx U X W:ab) (fs:List (Str×V)) (Z:List Int) (kvs:List (Key×V)) (Y:List (List Key×V)),F h=Z8 (.ins CH dx fs)/\HFs fs U X W O M/\F U=Z8 (.dK kvs)/\bM (fun (q:Key×V) (n:Int)=>q.1=.inl n/\PtA CP CC F q.2 (pnd pt es n)) kvs Z/\Z.Pairwise (·<·)/\(∀n,n∈Z↔n∈pt)/\Z.length<=9/\F X=Z8 (.dT Y)/\(∀q∈Y,RdA CR F q.2)/\Y.length<=81/\F W=Z8 (.l [])
theorem HaI.same{CH CP CR CC h:ab}{es:List Ev}{pt:List Int}{Y X:V}{F G:Hp}(s:cA F G)(x:HaI CH CP CR CC es pt Y X F h):HaI CH CP CR CC es pt Y X G h:=by
 obtain⟨dx,r,W,U,fs,Z,kvs,L,h1,h2,g,M,J,D,I,y,B,t,O⟩:=x;exact{dx,r,W,U,fs,Z,kvs,L,s _ _ h1,h2,s _ _ g,Paired.mono (fun _ _ z=>{z.1,z.2.same s}) M,J,D,I,s _ _ y,fun q m=>(B q m).same s,t,s _ _ O}
theorem FE{es:List Ev}{pt Z:List Int}(d:DOk es pt)(m:∀n,n∈Z↔n∈pt):∀k,k∈(Z.map (pnd pt es)).flatten↔k∈es.map Ev.key:=fun k=>by
 constructor
 ·intro h;obtain⟨l,X,hk⟩:=kD.mp h;obtain⟨n,hn,rfl⟩:=bY.mp X;obtain⟨e,Y,rfl⟩:=bY.mp hk;exact bY.mpr {e,(eQ.mp Y).1,Z9}
 ·intro h;obtain⟨e,Y,rfl⟩:=bY.mp h;obtain⟨n,hn⟩:=d.to e Y;exact kD.mpr {_,bY.mpr {n,(m n).mpr (aK hn),Z9},bY.mpr {e,eQ.mpr {Y,Q3 hn},Z9}}
theorem j5{K:ag}{n:Nat}{X:TE}{g:TG}{tc:_L.TT}{te:TE}{σ:St}{H:Hp}{Q:VK}{a:ab}{xs:List V}(hi:∀R:VK,R (.ref a) H->X σ H R)(hx:SqL K H a xs)(Y:Nat->List V->Hp->Prop)(h0:Y 0 [] H)(O:∀i ys H,i<=xs.length->Y i ys H->SqL K H a xs/\ys.length<aF)
  (hs:∀i x ys H,xs[i]?=Z8 x->Y i ys H->g x (aQ n Z7++σ) H fun Z H2=>Z.drop n=σ/\tc Z H2 fun b W=>if b=true then te Z W fun y M=>Y (i+1) (ys++[y]) M else Y (i+1) ys W)
  (U:∀ys H,Y xs.length ys H->∀p,H p=Z7->Q (.ref p) (upd H p (.l ys))):m5 n (wN K X) g tc te σ H Q:=
 hi _ {a,Z9,⟨xs,hx⟩,lZ Y h0 O hs U}
theorem zl{X:Cx}{n:Nat}{to:TE}{g:TG}{tc:_L.TT}{te:TE}{σ:St}{H:Hp}{Q:VK}{d:ab}{kvs:List ((Key)×V)}(hi:∀R:VK,R (.ref d) H->to σ H R)(M:H d=Z8 (.dK kvs))(L:∀B u,X.H₀ d≠Z8 (.frz B u))(W:Obj->Nat->List V->Hp->Prop)(h0:∀Z,W Z 0 [] (upd H d (.frz Z (.dK kvs))))(I:∀Z i ys H,i<=kvs.length->W Z i ys H->H d=Z8 (.frz Z (.dK kvs))/\ys.length<aF)
  (hs:∀Z i U ys G,kvs[i]?=Z8 U->W Z i ys G->g U.2 (aQ n Z7++σ) G fun Y H2=>Y.drop n=σ/\tc Y H2 fun b O=>if b=true then te Y O fun y D=>W Z (i+1) (ys++[y]) D else W Z (i+1) ys O)
  (J:∀Z ys G,W Z kvs.length ys G->∀p,G p=Z7->Q (.ref p) (upd G p (.l ys))):m5 n (GG X to) g tc te σ H Q:=
 hi _ {d,kvs,Z9,M,L,fun Z=>A1 (W Z) (h0 Z) (I Z) (hs Z) (J Z)}
theorem xQ{X:Cx}{n:Nat}{to:TE}{g:TG}{tc:_L.TT}{te:TE}{σ:St}{H:Hp}{Q:VK}{d:ab}{kvs:List ((List Key)×V)}(hi:∀R:VK,R (.ref d) H->to σ H R)(M:H d=Z8 (.dT kvs))(L:∀B u,X.H₀ d≠Z8 (.frz B u))(W:Obj->Nat->List V->Hp->Prop)(h0:∀Z,W Z 0 [] (upd H d (.frz Z (.dT kvs))))(I:∀Z i ys H,i<=kvs.length->W Z i ys H->H d=Z8 (.frz Z (.dT kvs))/\ys.length<aF)
  (hs:∀Z i U ys G,kvs[i]?=Z8 U->W Z i ys G->g U.2 (aQ n Z7++σ) G fun Y H2=>Y.drop n=σ/\tc Y H2 fun b O=>if b=true then te Y O fun y D=>W Z (i+1) (ys++[y]) D else W Z (i+1) ys O)
  (J:∀Z ys G,W Z kvs.length ys G->∀p,G p=Z7->Q (.ref p) (upd G p (.l ys))):m5 n (C4 X to) g tc te σ H Q:=
 hi _ {d,kvs,Z9,M,L,fun Z=>yZ (W Z) (h0 Z) (I Z) (hs Z) (J Z)}
theorem tu{Z Y:Type}{R:Z->Y->Prop}:∀{xs:List Z} {ys:List Y} {us:List Z} {vs:List Y},bM R xs ys->bM R us vs->bM R (xs++us) (ys++vs)
 |_,_,_,_,.nil,h=>h
 |_,_,_,_,.cons a b,h=>.cons a (tu b h)
theorem Ah(G:Hp):∀n,bM (fun v o=>KyO G o v) (aQ n V.non) (aQ n Z7)
 |0=>.nil
 |n+1=>.cons rfl (Ah G n)
theorem zm{G:Hp}:∀{ys:List V} {Y:List (Option (List Int))},bM (fun v o=>KyO G o v) ys Y->∃Z:List ab,(ys.filter fun v=>!decide (v=.non))=Z.map V.ref/\jz G Z (Y.flatMap uY)
 |_,_,.nil=>{[],Z9,.nil}
 |y::_,Z7::_,.cons a b=>by
  obtain⟨Z,e,h⟩:=zm b;have a:y=.non:=a;subst a;exact⟨Z,e,h⟩
 |y::_,Z8 n::_,.cons ⟨c,e1,h1⟩ b=>by
  obtain⟨Z,e,h⟩:=zm b;subst e1;refine{c::Z,?_,.cons h1 h};rw[iF (by simp),e];rfl
section
variable{P:aP}{w:bF}{K:ag}{mg:Str->Option ae}{base:cz}{f fQl fRl fQs fQp fFl fMd fPd fPh fOv fAc fKo fRo fDi fHo CH CP CR CC:ab}{fd fdQl fdRl fdQs fdQp fdFl fdMd fdPd fdPh fdOv fdAc fdKo fdRo fdDi fdHo:bS}
seal PS PSs PE PA PT PW PI PG PGs PC
abbrev nHf:List Str:=["self","found"]
abbrev pHf:List Str:=["self"]
theorem scHf:bU nHf pHf (aS fG):=fK
theorem ndHf:((["member"]:List Str)++nHf).Nodup:=by decide +kernel
theorem ndHf2:((["road"]:List Str)++nHf).Nodup:=by decide +kernel
theorem ndHf3:((["key"]:List Str)++nHf).Nodup:=by decide +kernel
inductive Hb(CH CP CR CC:ab)(vs:List V)(H:Hp)(Q:VK)(_e:XK):Prop where
 |mk(h:ab)(es:List Ev)(pt:List Int)(ah en:V)(_:vs=[.ref h])(_:HaI CH CP CR CC es pt ah en H h)(_:DOk es pt)(_:∀(G:Hp) (v:V),cA H G->KyO G (leK (es.map Ev.key)) v->Q v G):Hb CH CP CR CC vs H Q _e
def FF(CH CP CR CC:ab):Sp:=fun vs H Q Z=>Hb CH CP CR CC vs H Q Z
theorem uZ(F:Fun K "floor" "Hall.floor" fG f fd)(ML:Mt K CP "least" "Part.least" iI pQl fQl fdQl)(GL:bO P w K mg base CX0 3 fQl fdQl pQl (Fz CP CC))(g:Mt K CR "least" "Road.least" jL pRl fRl fdRl)(ee:bO P w K mg base CX0 2 fRl fdRl pRl (spRl CR))(TH:HaT K mg CH)(TP:PtT K mg CP CR)(B:Bl mg)(MM:mg "min"=Z7):bO P w K mg base CX0 4 f fd pHf (FF CH CP CR CC):=by
 refine F.ok scHf (fun vs H Q E h=>?_) (fun dw A outer s H vs Q E hr h=>?_)
 ·obtain⟨h,es,pt,ah,en,rfl,_⟩:=h;rfl
 obtain⟨h,es,pt,ah,en,rfl,hH,ei,k⟩:=h;have dL:=AJ hr;have h3:=dS (lH (by decide:2<=50) _) (AJ hr);have r3:dC 3 _:=hr;have r2:dC 2 _:=hr.mono (by decide);refine⟨_,ax (vK (rG (i:=1) ["member"] (fq.open (NN:=nHf) (N:=nHf) (sc:=aS fG) rfl rfl (by decide +kernel) rfl (by decide +kernel) (by decide +kernel) rfl (by decide +kernel)) rfl scHf.nd rfl (Or.inl rfl) (z5 (cO K (by rfl) (pv 0) (by rfl))) (fun _ _ _ _=>eZ (i:=0) ndHf rfl (Or.inl rfl)) (fun _ _ _ _=>gP) (fun _ _ _ _=>eC (pv 0) TP.clP ML.m GL r3 ML.b .nil eV)))
  (ax (eL (kh bE ub uc uy (pv 1) (bH (C7 (ij ["road"] (fq.open (NN:=nHf) (N:=nHf) (sc:=aS fG) rfl rfl (by decide +kernel) rfl (by decide +kernel) (by decide +kernel) rfl (by decide +kernel)) rfl (C5 (cO K (by rfl) (pv 0) (by rfl))) (fun _ _ _ _=>eZ (i:=0) ndHf2 rfl (Or.inl rfl)) (fun _ _ _ _=>gP) (fun _ _ _ _=>eC (pv 0) TP.clR g.m ee r2 g.b .nil eV))) ao)))
  (aJ (bT (Fj h3 rfl (by rfl) MM (bH (ij ["key"] (fq.open (NN:=nHf) (N:=nHf) (sc:=aS fG) rfl rfl (by decide +kernel) rfl (by decide +kernel) (by decide +kernel) rfl (by decide +kernel)) rfl (eM (pv 1)) (fun _ _ _ _=>eZ (i:=0) ndHf3 rfl (Or.inl rfl)) (fun _ _ _ _=>zI (jx (j7 (pv 0)))) (fun _ _ _ _=>pv 0)) ao) pq)))),?_⟩
 dsimp only[cxA,cxB];have big:=ef;obtain⟨dx,W,M,ce,fs,Y,kvs,Z,h1,hf,O,h4,h5,h6,h7,h8,h9,hA,hB⟩:=hH;have lk:=bQ h4;refine cB fun _ zK=>cS ?_;refine zl (kvs:=kvs) (fun R z=>{_,Z9,h,CH,dx,_,_,Z9,h1,TH.cl,TH.nB,hf.mb,z}) O (fun ob u z=>nomatch O.symm.trans z) (fun U i ys G=>G=upd H W (.frz U (.dK kvs))/\bM (fun v o=>KyO G o v) ys ((Y.take i).map fun n=>leK (pnd pt es n))) (fun U=>{Z9,.nil}) ?_ ?_ ?_
 ·rintro U i ys G hi ⟨rfl,p⟩;have:=bQ p;rw[ak,dB]at this;exact{ai,by omega}
 ·rintro U i kv ys G hk ⟨rfl,p⟩;obtain⟨n,hn,e,z⟩:=jo h4 hk;have t:PtA CP CC (upd H W (.frz U (.dK kvs))) kv.2 (pnd pt es n):=z.dk (But.upd _ _ _) O;obtain⟨a,ec,dz,dF,d,r,q,md,st,dV,ea,I,_⟩:=id t;refine bK {Z9,?_};unfold qe;refine iq {_,Z9,a,ec,_,ea,I,Z9,_,_,Z9,t,fun v' ed=>{Z9,?_}};rw[eJ,hn,cq];exact hU p ed
 rintro U ys G0 ⟨rfl,p⟩ q hq;rw[nJ (by omega)]at p;have nq:W≠q:=aC ai hq;have b1:But W H (upd (upd H W (.frz U (.dK kvs))) q (.l ys)):=fun c o e n=>hv (hv e n) (aC (hv e n) hq);refine bK {W,U,kvs,hv ai nq,(fun ob u z=>nomatch O.symm.trans z),zK _ _ ?_};have D:=kY b1 O;have I:upd (upd (upd H W (.frz U (.dK kvs))) q (.l ys)) W (.dK kvs) q=Z8 (.l ys):=hv ai nq.symm;have p1:bM (fun v o=>KyO (upd (upd (upd H W (.frz U (.dK kvs))) q (.l ys)) W (.dK kvs)) o v) ys (Y.map fun n=>leK (pnd pt es n)):=Paired.mono (fun _ _ z=>z.tups fun a xs e=>hv ((az hq _) _ _ e) fun z=>by rw[z,ai]at e;cases e) p;have q0:H q=Z7:=by
  rw[aV nq.symm]at hq;exact hq
 revert D I p1;clear b1 p hq nq;generalize upd (upd (upd H W (.frz U (.dK kvs))) q (.l ys)) W (.dK kvs)=G1;intro D I p1;have hrd:=D _ _ h8;refine cB fun _ zK=>{_,Z9,.inl {Z9,_,SqL.of I},?_};dsimp only[ib,C6];refine xQ (kvs:=Z) (fun R z=>{_,Z9,h,CH,dx,_,_,Z9,D _ _ h1,TH.cl,TH.nR,hf.rd,z}) hrd (by exact fun ob u z=>nomatch h8.symm.trans z) (fun X i ys G=>G=upd G1 M (.frz X (.dT Z))/\ys=aQ i V.non) (fun U=>⟨Z9,Z9⟩) ?_ ?_ ?_
 ·rintro X i ys G hi ⟨rfl,rfl⟩;exact{ai,by rw[fA];omega}
 ·rintro X i kv ys G hk ⟨rfl,rfl⟩;have t:RdA CR (upd G1 M (.frz X (.dT Z))) kv.2:=((h9 kv (aK hk)).same D).dt (But.upd _ _ _) hrd;obtain⟨a,eb,l,u,ea,g2,_⟩:=id t;refine bK {Z9,?_};unfold qe;refine iq {_,Z9,a,eb,_,ea,g2,Z9,_,Z9,t,Z9,?_};rw[List.replicate_succ']
 rintro X zs G0 ⟨rfl,rfl⟩ y J;have L:M≠y:=aC ai J;have b2:But M G1 (upd (upd G1 M (.frz X (.dT Z))) y (.l (aQ Z.length V.non))):=fun c o e n=>hv (hv e n) (aC (hv e n) J);refine{M,X,Z,hv ai L,(fun ob u z=>nomatch h8.symm.trans z),?_};have s2:=kY b2 hrd;have g3:upd (upd (upd G1 M (.frz X (.dT Z))) y (.l (aQ Z.length V.non))) M (.dT Z) y=Z8 (.l (aQ Z.length V.non)):=hv ai L.symm;revert s2 g3;clear b2 J L;generalize upd (upd (upd G1 M (.frz X (.dT Z))) y (.l (aQ Z.length V.non))) M (.dT Z)=G2;intro s2 g3;have ly:=bQ p1;rw[ak]at ly;refine{q,y,ys,_,Z9,Z9,s2 _ _ I,g3,by rw[fA];omega,zK _ _ ?_};have s3:cA H (upd G2 q (.l (ys++aQ Z.length V.non))):=iA (D.trans s2) q0 _;have p3:bM (fun v o=>KyO (upd G2 q (.l (ys++aQ Z.length V.non))) o v) (ys++aQ Z.length V.non) ((Y.map fun n=>leK (pnd pt es n))++aQ Z.length Z7):=by
  refine tu (Paired.mono (fun _ _ z=>z.tups fun a xs e=>hv (s2 _ _ e) (cQ (s2 _ _ e) (s2 _ _ I) nofun)) p1) (Ah _ _)
 have g4:upd G2 q (.l (ys++aQ Z.length V.non)) q=Z8 (.l (ys++aQ Z.length V.non)):=ai;revert s3 p3 g4;generalize upd G2 q (.l (ys++aQ Z.length V.non))=G3;intro s3 p3 g4;refine gF ?_;dsimp only[GH,ib];refine j5 (K:=K) (a:=q) (xs:=ys++aQ Z.length V.non) (fun R z=>{_,Z9,z}) (SqL.of g4) (fun i zs G=>G=G3/\zs=((ys++aQ Z.length V.non).take i).filter fun v=>!decide (v=.non)) ⟨Z9,Z9⟩ ?_ ?_ ?_
 ·rintro i zs G hi ⟨rfl,rfl⟩;have:=oW (fun v:V=>!decide (v=.non)) ((ys++aQ Z.length V.non).take i);rw[dB,aL,fA]at this;exact{SqL.of g4,by omega}
 ·rintro i v zs G hi ⟨rfl,rfl⟩;refine bK {Z9,_,Z9,_,Z9,?_};rw[eJ,hi,qy]
  by_cases c:v=.non
  ·refine lS (b:=false) (by simp[c]) (gm {Z9,?_});rw[show (Z8 v).toList.filter (fun v:V=>!decide (v=.non))=[] from jQ (by simp[c]),eB]
  ·refine lS (b:=true) (by simp[c]) (iq {_,Z9,Z9,?_});rw[show (Z8 v).toList.filter (fun v:V=>!decide (v=.non))=[v] from iF (by simp[c])]
 rintro zs G ⟨rfl,rfl⟩ q4 eg;rw[eX];obtain⟨as,e,tp⟩:=zm p3;have s4:=az eg (.l (as.map V.ref));have fl:((Y.map fun n=>leK (pnd pt es n))++aQ Z.length Z7).flatMap uY=(Y.map (pnd pt es)).flatMap fun ks=>(leK ks).toList:=by
  rw[lG,show (aQ Z.length (Z7:Option (List Int))).flatMap uY=[] from xP.mpr fun x hx=>by rw[(List.mem_replicate.mp hx).2];rfl,eB,Ej,Ej]
 have key:leK ((Y.map (pnd pt es)).flatMap fun ks=>(leK ks).toList)=leK (es.map Ev.key):=(Dz _).trans (Ag (FE ei h6));rw[fl]at tp;rw[e];refine{q4,Z9,as,_,ai,tp.keep fun a xs e=>s4 _ _ e,fun z=>k _ _ (s3.trans s4) ?_,fun a n _ hn ha le=>k _ _ (s3.trans s4) ?_}
 ·rw[<- key,z];rfl
 ·rw[<- key,pK ⟨hn,le⟩];exact⟨a,Z9,ha⟩
end
def ahA:V->Option Int
 |.int a=>Z8 a
 |_=>Z7
def zo(Z:V)(k o:Option (List Int)):Bool:=match k with
 |none=>false
 |some k=>match ahA Z with
  |none=>true
  |some a=>decide (k.headD 0<=(o.getD []).headD 0+a)
def acP(es:List Ev)(pt:List Int)(Y:V)(Z:List Int):List (Int×List Int):=Z.flatMap fun n=>match leK (pnd pt es n) with
 |none=>[]
 |some k=>if zo Y (Z8 k) (leK (es.map Ev.key))=true then [(n,k)] else []
def DoT(G:Hp)(v:V)(q:Int×List Int):Prop:=∃t a,v=.ref t/\G t=Z8 (.t [.str "do",.int q.1,.ref a])/\G a=Z8 (.t (q.2.map V.int))
theorem DoT.same{G G':Hp}(s:cA G G'){v:V}{q:Int×List Int}(h:DoT G v q):DoT G' v q:=by
 obtain⟨t,a,e,h1,h2⟩:=h;exact{t,a,e,s _ _ h1,s _ _ h2}
theorem DoT.tups{G G':Hp}(s:∀a xs,G a=Z8 (.t xs)->G' a=Z8 (.t xs)){v:V}{q:Int×List Int}(h:DoT G v q):DoT G' v q:=by
 obtain⟨t,a,e,h1,h2⟩:=h;exact{t,a,e,s _ _ h1,s _ _ h2}
theorem u0{κ:Type}[DecidableEq κ]:∀{kvs:List (κ×V)} {k:κ} {v:V},jY kvs k=Z8 v->(k,v)∈kvs
 | [],_,_,h=>by cases h
 |q::r,k,v,h=>by
  by_cases c:q.1=k
  ·rw[oq c]at h
   cases h;rw[<- c];exact aU
  ·rw[oy c]at h;exact bL _ (u0 h)
theorem DG{es:List Ev}{pt:List Int}{n:Int}{k:List Int}(h:leK (pnd pt es n)=Z8 k):∃e∈es,e.key=k:=by
 obtain⟨e,Z,z⟩:=bY.mp (pJ h).1;exact{e,(eQ.mp Z).1,z}
theorem rN{es:List Ev}(h:es≠[]):∃e∈es,leK (es.map Ev.key)=Z8 e.key:=by
 cases z:leK (es.map Ev.key) with
 |none=>
  have:=vU z;exact Q7 (Bi.mp this) h
 |some k=>
  obtain⟨e,Z,rfl⟩:=bY.mp (pJ z).1;exact⟨e,Z,Z9⟩
section
variable{P:aP}{w:bF}{K:ag}{mg:Str->Option ae}{base:cz}{f fQl fRl fQs fQp fFl fMd fPd fPh fOv fAc fKo fRo fDi fHo CH CP CR CC:ab}{fd fdQl fdRl fdQs fdQp fdFl fdMd fdPd fdPh fdOv fdAc fdKo fdRo fdDi fdHo:bS}
seal PS PSs PE PA PT PW PI PG PGs PC
abbrev nHo:List Str:=["self"]
abbrev pHo:List Str:=["self"]
theorem scHo:bU nHo pHo (aS jE):=fK
inductive Hc(CH CP CR CC:ab)(vs:List V)(H:Hp)(Q:VK)(_e:XK):Prop where
 |mk(h:ab)(es:List Ev)(pt:List Int)(ah en:V)(_:vs=[.ref h])(_:HaI CH CP CR CC es pt ah en H h)(_:Q (.bl (!decide (en=.non))) H):Hc CH CP CR CC vs H Q _e
def Jc(CH CP CR CC:ab):Sp:=fun vs H Q Z=>Hc CH CP CR CC vs H Q Z
theorem xR(F:Fun K "over" "Hall.over" jE f fd)(Y:HaT K mg CH):bO P w K mg base CX0 1 f fd pHo (Jc CH CP CR CC):=by
 refine F.ok scHo (fun vs H Q E h=>?_) (fun V A outer s H vs Q E O h=>?_)
 ·obtain⟨h,es,pt,W,U,rfl,_⟩:=h;rfl
 obtain⟨h,es,pt,W,U,rfl,⟨dx,I,M,L,fs,Z,kvs,J,h1,X,_⟩,k⟩:=h;refine{_,aJ (bT (vm (j7 (cO K (by rfl) (pv 0) (by rfl))))),?_};exact gF {_,Z9,h,CH,dx,_,_,Z9,h1,Y.cl,Y.nE,X.en,k}
abbrev nHu:List Str:=["self"]
abbrev pHu:List Str:=["self"]
theorem scHu:bU nHu pHu (aS iY):=fK
inductive Hd(CH CP CR CC:ab)(vs:List V)(H:Hp)(Q:VK)(_e:XK):Prop where
 |mk(h:ab)(es:List Ev)(pt:List Int)(ah en:V)(_:vs=[.ref h])(_:HaI CH CP CR CC es pt ah en H h)(_:Q en H):Hd CH CP CR CC vs H Q _e
def spHu(CH CP CR CC:ab):Sp:=fun vs H Q Z=>Hd CH CP CR CC vs H Q Z
theorem He(F:Fun K "outcome" "Hall.outcome" iY f fd)(Y:HaT K mg CH):bO P w K mg base CX0 1 f fd pHu (spHu CH CP CR CC):=by
 refine F.ok scHu (fun vs H Q E h=>?_) (fun V A outer s H vs Q E O h=>?_)
 ·obtain⟨h,es,pt,W,U,rfl,_⟩:=h;rfl
 obtain⟨h,es,pt,W,U,rfl,⟨dx,I,M,L,fs,Z,kvs,J,h1,X,_⟩,k⟩:=h;refine{_,aJ (bT (cO K (by rfl) (pv 0) (by rfl))),?_};exact gF {_,Z9,h,CH,dx,_,_,Z9,h1,Y.cl,Y.nE,X.en,k}
abbrev nHb:List Str:=["self"]
abbrev pHb:List Str:=["self"]
theorem scHb:bU nHb pHb (aS hJ):=fK
inductive Hf(CH CP CR CC:ab)(vs:List V)(H:Hp)(Q:VK)(_e:XK):Prop where
 |mk(h:ab)(es:List Ev)(pt:List Int)(ah en:V)(_:vs=[.ref h])(_:HaI CH CP CR CC es pt ah en H h)(_:Q (.int 0) H):Hf CH CP CR CC vs H Q _e
def spHb(CH CP CR CC:ab):Sp:=fun vs H Q Z=>Hf CH CP CR CC vs H Q Z
theorem Hg(F:Fun K "taken_back" "Hall.taken_back" hJ f fd)(Y:HaT K mg CH):bO P w K mg base CX0 1 f fd pHb (spHb CH CP CR CC):=by
 refine F.ok scHb (fun vs H Q E h=>?_) (fun V A outer s H vs Q E O h=>?_)
 ·obtain⟨h,es,pt,W,U,rfl,_⟩:=h;rfl
 obtain⟨h,es,pt,W,U,rfl,⟨dx,I,M,L,fs,Z,kvs,J,h1,X,_⟩,k⟩:=h;refine{_,aJ (bT (cO K (by rfl) (pv 0) (by rfl))),?_};exact gF {_,Z9,h,CH,dx,_,_,Z9,h1,Y.cl,Y.nK,X.bc,k}
abbrev nHs:List Str:=["self"]
abbrev pHs:List Str:=["self"]
theorem scHs:bU nHs pHs (aS iz):=fK
theorem ndHs:((["entry"]:List Str)++nHs).Nodup:=by decide +kernel
inductive Hh(CH CP CR CC:ab)(vs:List V)(H:Hp)(Q:VK)(_e:XK):Prop where
 |mk(h:ab)(es:List Ev)(pt:List Int)(ah en:V)(_:vs=[.ref h])(_:HaI CH CP CR CC es pt ah en H h)(_:∀l,H l=Z7->Q (.ref l) (upd H l (.l []))):Hh CH CP CR CC vs H Q _e
def spHs(CH CP CR CC:ab):Sp:=fun vs H Q Z=>Hh CH CP CR CC vs H Q Z
theorem Hi(F:Fun K "settled" "Hall.settled" iz f fd)(Y:Df K mg "record_of" qZ ["entry"] fRo fdRo)(Z:bO P w K mg base CX0 1 fRo fdRo ["entry"] fun _ _ _ _=>False)(V:HaT K mg CH):bO P w K mg base CX0 2 f fd pHs (spHs CH CP CR CC):=by
 refine F.ok scHs (fun vs H Q E h=>?_) (fun B A outer s H vs Q E J h=>?_)
 ·obtain⟨h,es,pt,I,O,rfl,_⟩:=h;rfl
 obtain⟨h,es,pt,I,O,rfl,⟨dx,q,rd,U,fs,W,kvs,t,h1,M,h3,g,y,h6,d,r,h9,hA,X⟩,k⟩:=h;have L:dC 1 _:=J;refine{_,aJ (bT (ij ["entry"] (fq.open (NN:=nHs) (N:=nHs) (sc:=aS iz) rfl rfl (by decide +kernel) rfl (by decide +kernel) (by decide +kernel) rfl (by decide +kernel)) rfl (eM (cO K (by rfl) (pv 0) (by rfl))) (fun _ _ _ _=>eZ (i:=0) ndHs rfl (Or.inl rfl)) (fun _ _ _ _=>gP) (fun _ _ _ _=>pcl Z L Y (aT (pv 0) ao)))),?_};dsimp only[cxA,cxB];refine gF ?_;refine j5 (K:=K) (a:=U) (xs:=[]) (fun R z=>{_,Z9,h,CH,dx,_,_,Z9,h1,V.cl,V.nC,M.ce,z}) (SqL.of X) (fun i ys G=>G=H/\ys=[]) ⟨Z9,Z9⟩ ?_ ?_ ?_
 ·rintro i ys G _ ⟨rfl,rfl⟩;exact{SqL.of X,by decide}
 ·intro i v ys G hi
  cases hi
 ·rintro ys G ⟨rfl,rfl⟩ l D;exact k l D
abbrev nHl:List Str:=["self","part"]
abbrev pHl:List Str:=["self","part"]
theorem scHl:bU nHl pHl (aS j2):=fK
theorem ndHl:((["entry"]:List Str)++nHl).Nodup:=by decide +kernel
inductive Hj(CH CP CR CC:ab)(vs:List V)(H:Hp)(Q:VK)(_e:XK):Prop where
 |mk(h:ab)(es:List Ev)(pt:List Int)(ah en:V)(n:Int)(_:vs=[.ref h,.int n])(_:HaI CH CP CR CC es pt ah en H h)(_:∀l,H l=Z7->Q (.ref l) (upd H l (.l []))):Hj CH CP CR CC vs H Q _e
def spHl(CH CP CR CC:ab):Sp:=fun vs H Q Z=>Hj CH CP CR CC vs H Q Z
theorem Hk(F:Fun K "log" "Hall.log" j2 f fd)(W:Df K mg "key_of" xj ["entry"] fKo fdKo)(M:bO P w K mg base CX0 1 fKo fdKo ["entry"] fun _ _ _ _=>False)(Y:HaT K mg CH)(TP:PtT K mg CP CR):bO P w K mg base CX0 2 f fd pHl (spHl CH CP CR CC):=by
 refine F.ok scHl (fun vs H Q E h=>?_) (fun ca A outer s H vs Q E B h=>?_)
 ·obtain⟨h,es,pt,ah,en,n,rfl,_⟩:=h;rfl
 obtain⟨h,es,pt,ah,en,n,rfl,⟨dx,J,rd,ce,fs,D,kvs,rk,h1,I,y,h4,h5,h6,h7,h8,h9,hA,hB⟩,k⟩:=h;have Z:=pd B;have r1:dC 1 _:=B;refine⟨_,ax (dW (jx (AG Z (pv 1) (cO K (by rfl) (pv 0) (by rfl)))) (aJ (bT (dv ao))) cD)
  (aJ (bT (ij ["entry"] (fq.open (NN:=nHl) (N:=nHl) (sc:=aS j2) rfl rfl (by decide +kernel) rfl (by decide +kernel) (by decide +kernel) rfl (by decide +kernel)) rfl (eM (cO K (by rfl) (rD Z (cO K (by rfl) (pv 0) (by rfl)) (pv 1)) (by rfl))) (fun _ _ _ _=>eZ (i:=0) ndHl rfl (Or.inl rfl)) (fun _ _ _ _=>gP) (fun _ _ _ _=>pcl M r1 W (aT (pv 0) ao))))),?_⟩
 dsimp only[cxA,cxB];refine cB fun _ zK=>ic {_,Z9,_,Z9,h,CH,dx,_,_,Z9,h1,Y.cl,Y.nB,I.mb,J,_,Z9,oZ.k (k:=Sum.inl n) y,_,Z9,?_}
 cases e:jY kvs (Sum.inl n) with
 |none=>exact iq (gF {aO _,fun l O=>k l O})
 |some v=>
  refine gm (zK _ _ (gF ?_));obtain⟨i,hi⟩:∃i:Nat,kvs[i]?=Z8 (Sum.inl n,v):=by
   have m:=u0 e;exact cP m
  obtain⟨n',_,_,z⟩:=jo h4 hi;obtain⟨a,U,cb,X,d,r,q,md,st,t,V,g,L,_⟩:=z;have V:v=.ref a:=V;subst V;refine j5 (K:=K) (a:=X) (xs:=[]) (fun R z=>{_,Z9,h,CH,dx,_,_,Z9,h1,Y.cl,Y.nB,I.mb,_,Z9,J,_,Z9,(by have z:=oZ.k (k:=Sum.inl n) y;rw[e]at z;exact z),a,CP,U,_,_,Z9,g,TP.clP,TP.nE,Z9,z}) (SqL.of L) (fun i ys G=>G=H/\ys=[]) ⟨Z9,Z9⟩ ?_ ?_ ?_
  ·rintro i ys G _ ⟨rfl,rfl⟩;exact{SqL.of L,by decide}
  ·intro i v ys G hi
   cases hi
  ·rintro ys G ⟨rfl,rfl⟩ l O;exact k l O
abbrev nHm:List Str:=["self","member","floor","key"]
abbrev pHm:List Str:=["self","member","floor"]
theorem scHm:bU nHm pHm (aS jh):=fK
inductive Hl(CH CP CC:ab)(vs:List V)(H:Hp)(Q:VK)(_e:XK):Prop where
 |mk(h dx:ab)(fs:List (Str×V))(ah v fl:V)(ks:List (List Int))(o:Option (List Int))(_:vs=[.ref h,v,fl])(_:H h=Z8 (.ins CH dx fs))(_:fs.lookup ("ahead":Str)=Z8 ah)(_:(ah=.non\/∃a,ah=.int a))(_:PtA CP CC H v ks)(_:KyO H o fl)(_:(∀k,leK ks=Z8 k->k≠[]/\∃m,o=Z8 m/\m≠[]))(_:Q (.bl (zo ah (leK ks) o)) H):Hl CH CP CC vs H Q _e
def spHm(CH CP CC:ab):Sp:=fun vs H Q Z=>Hl CH CP CC vs H Q Z
theorem DH(F:Fun K "may_do" "Hall.may_do" jh f fd)(M:Mt K CP "least" "Part.least" iI pQl fQl fdQl)(GL:bO P w K mg base CX0 3 fQl fdQl pQl (Fz CP CC))(X:Mt K CP "is_stopped" "Part.is_stopped" g8 pQs fQs fdQs)(O:bO P w K mg base CX0 1 fQs fdQs pQs (spQs CP CC))(V:HaT K mg CH)(TP:PtT K mg CP CR):bO P w K mg base CX0 4 f fd pHm (spHm CH CP CC):=by
 refine F.ok scHm (fun vs H Q E h=>?_) (fun bx A outer s H vs Q E J h=>?_)
 ·obtain⟨h,dx,fs,ah,v,fl,ks,o,rfl,_⟩:=h;rfl
 obtain⟨h,dx,fs,ah,v,fl,ks,o,rfl,h1,h2,h3,U,B,h6,k⟩:=h;have t:dC 3 _:=J;have r1:dC 1 _:=J.mono (by decide);refine⟨_,ax (pst 3 scHm (eC (pv 1) TP.clP M.m GL t M.b .nil eV))
  (ax (dW ((pV (jx (nZ (pv 3))) (px (mB (eC (pv 1) TP.clP X.m O r1 X.b .nil eV)))).pt) (aJ (bT rP)) cD)
  (aJ (bT (pe_or (vm (nZ (cO K (by rfl) (pv 0) (by rfl)))) (yh (pY FS (bJ dX (pv 3) au) (cV il (bJ dX (pv 2) au) (cO K (by rfl) (pv 0) (by rfl))))))))),?_⟩
 dsimp only[cxA,cxB];obtain⟨a,Y,g,y,d,r,q,md,st,I,rfl,L,_⟩:=id U;refine cB fun _ W=>cS {_,Z9,a,Y,_,Z9,L,Z9,_,ks,Z9,U,fun z Z=>gk W ?_}
 cases e:leK ks with
 |none=>
  rw[e]at Z k;have Z:z=.non:=Z;subst Z;exact cB fun _ W=>ic {_,Z9,_,Z9,iq (iq (gF k))}
 |some n=>
  rw[e]at Z k;obtain⟨b,rfl,hb⟩:=Z;obtain⟨nn,m,rfl,nm⟩:=h6 n e;obtain⟨c,rfl,hc⟩:=B;refine cB fun _ W=>ic {_,Z9,_,Z9,gm {_,Z9,a,Y,_,Z9,L,Z9,_,ks,Z9,U,_,Z9,gm (W _ _ ?_)}};refine gF {_,Z9,h,CH,dx,_,_,Z9,h1,V.cl,V.nA,h2,_,Z9,?_}
  rcases h3 with rfl|⟨x,rfl⟩
  ·exact iq k
  ·obtain⟨D,nr,rfl⟩:=va nn;obtain⟨m0,mr,rfl⟩:=va nm;exact gm {_,Z9,b,_,_,_,Z9,Z9,SqT.of hb,(show atI _ 0=Z8 (.int D) from cI (j:=0) rfl),_,Z9,c,_,_,_,Z9,Z9,SqT.of hc,(show atI _ 0=Z8 (.int m0) from cI (j:=0) rfl),_,Z9,h,CH,dx,_,_,Z9,h1,V.cl,V.nA,h2,_,_,Z9,Z9,_,_,Z9,Z9,k}
end
theorem HFs.put{fs:List (Str×V)}{U Z Y:ab}{X O:V}(h:HFs fs U Z Y X O)(v:V):HFs (aM "ending" v fs) U Z Y X v:=by
 have k:∀{m:Str},m≠"ending"->(aM "ending" v fs).lookup m=fs.lookup m:=fun n=>by rw[fJ,Q5 n]
 refine{(k (by decide +kernel)).trans h.ah,(k (by decide +kernel)).trans h.mb,(k (by decide +kernel)).trans h.rd,(k (by decide +kernel)).trans h.ce,by rw[fJ,Q6 rfl],(k (by decide +kernel)).trans h.bc,fun m W=>?_};refine (k fun z=>?_).trans (h.no m W);subst z;revert W;decide +kernel
theorem vV:∀{xs ys:List Int},xs.Pairwise (·<·)->ys.Pairwise (·<·)->(∀n,n∈xs↔n∈ys)->xs=ys
 | [],[],_,_,_=>rfl
 | [],y::ys,_,_,h=>by cases (h y).mpr aU
 |x::xs,[],_,_,h=>by cases (h x).mp aU
 |x::xs,y::ys,hx,hy,h=>by
  obtain⟨a1,a2⟩:=lN.mp hx;obtain⟨Z,Y⟩:=lN.mp hy;have e:x=y:=by
   rcases aD.mp ((h x).mp aU) with z|z
   ·exact z
   ·rcases aD.mp ((h y).mpr aU) with w|w
    ·exact w.symm
    ·have:=Z x z;have:=a1 y w;omega
  subst e;rw[vV a2 Y fun n=>?_]
  constructor
  ·intro m;have:=a1 n m
   rcases aD.mp ((h n).mp (bL _ m)) with z|z
   ·omega
   ·exact z
  ·intro m;have:=Z n m
   rcases aD.mp ((h n).mpr (bL _ m)) with z|z
   ·omega
   ·exact z
section
variable{P:aP}{w:bF}{K:ag}{mg:Str->Option ae}{base:cz}{f fQl fRl fQs fQp fFl fMd fPd fPh fOv fAc fKo fRo fDi fHo CH CP CR CC:ab}{fd fdQl fdRl fdQs fdQp fdFl fdMd fdPd fdPh fdOv fdAc fdKo fdRo fdDi fdHo:bS}
seal PS PSs PE PA PT PW PI PG PGs PC
abbrev nHh:List Str:=["self","found","ends","road","letter"]
abbrev pHh:List Str:=["self"]
theorem DI:bU nHh pHh (aS eI):=fK
inductive Hm(CH CP CR CC:ab)(vs:List V)(H:Hp)(Q:VK)(_e:XK):Prop where
 |mk(h:ab)(es:List Ev)(pt:List Int)(ah en:V)(_:vs=[.ref h])(_:HaI CH CP CR CC es pt ah en H h)(_:∀(G:Hp) (l:ab),cA H G->H l=Z7->G l=Z8 (.l [])->Q (.ref l) G):Hm CH CP CR CC vs H Q _e
def spHh(CH CP CR CC:ab):Sp:=fun vs H Q Z=>Hm CH CP CR CC vs H Q Z
theorem DJ(F:Fun K "possible_hearings" "Hall.possible_hearings" eI f fd)(q:HaT K mg CH)(TP:PtT K mg CP CR):bO P w K mg base CX0 1 f fd pHh (spHh CH CP CR CC):=by
 refine F.ok DI (fun vs H Q E h=>?_) (fun cn A outer s H vs Q E hr h=>?_)
 ·obtain⟨h,es,pt,ah,en,rfl,_⟩:=h;rfl
 obtain⟨h,es,pt,ah,en,rfl,⟨dx,mb,Y,ce,fs,r,kvs,U,h1,hf,h3,h4,h5,h6,h7,L,h9,hA,hB⟩,k⟩:=h;refine⟨_,ax (pst 1 DI (dv ao))
  (ax (xu (e9 bB rfl (A4 (cO K (by rfl) (pv 0) (by rfl))) (n6 rfl (e7 (pgn 2 DI) (e7 (pgn 3 DI) kR))) (aJ (dW (rT (cO K (by rfl) (pv 3) (by rfl)) (fun _=>rfl)) (ax (pst 4 DI (bJ bN (cO K (by rfl) (pv 3) (by rfl)) au))
  (aJ (eL (kh bE bZ cg fZ (pv 1) (j3 (dR (cR eO (jA (bJ dX (pv 2) au) (jA (bJ dX (pv 2) au) (jA (bJ dX (bJ dX (pv 4) au) au) (jA (bJ dX (pv 4) au) ao)))))) ao) (hs:=jO))))) cD))))
  (aJ (bT (pv 1)))),?_⟩
 dsimp only[cxA,cxB];refine cB fun _ J=>cS {aO _,fun l D=>gk J ?_};have Z:=az D (.l []);have hrd:=Z _ _ L;have I:=eU D (.l []);revert Z hrd I;generalize upd H l (.l [])=G0;intro Z hrd I;refine cB fun _ J=>{_,Z9,h,CH,dx,_,_,Z9,Z _ _ h1,q.cl,q.nR,hf.rd,Y,U,Z9,hrd,(by exact fun ob u z=>nomatch L.symm.trans z),fun y=>?_};refine yY (fun i σ G=>∃u2 O X:Option V,σ=[Z8 (.ref h),Z8 (.ref l),u2,O,X]/\G Y=Z8 (.frz y (.dT U))/\But Y G0 G) {_,_,_,Z9,ai,But.upd _ _ _} ?_ ?_ ?_
 ·rintro i σ G _ ⟨_,_,_,rfl,z,_⟩;exact z
 ·rintro i M t k' σ G hk ⟨u2,O,X,rfl,W,b⟩ ht co;have st:=az ht (.t [.ref k',M.2]);have d:RdA CR G M.2:=((h9 M (aK hk)).same Z).dt b hrd;obtain⟨a,B,ll,uu,ea,g2,g3,_⟩:=d;refine{t,_,Z9,SqT.of ai,Z9,_,_,Z9,bK {_,_,Z9,bK {Z9,?_}}};refine ic {_,Z9,a,CR,B,_,_,ea,st _ _ g2,TP.clR,TP.nL,Z9,_,.inl {[],SqL.of (st _ _ g3),Z9},gm {_,_,_,Z9,st _ _ W,fun c o e n=>st _ _ (b _ _ e n)}}
 ·rintro σ G ⟨u2,O,X,rfl,W,b⟩;refine{Y,y,U,W,(by exact fun ob u z=>nomatch L.symm.trans z),J _ _ ?_};have g:=kY b hrd;exact gF {_,Z9,k _ l (Z.trans g) D (g _ _ I)}
abbrev nHd:List Str:=["self","floor","found","number","member"]
abbrev pHd:List Str:=["self"]
theorem DK:bU nHd pHd (aS fb):=fK
inductive Hn(CH CP CR CC:ab)(vs:List V)(H:Hp)(Q:VK)(_e:XK):Prop where
 |mk(h:ab)(es:List Ev)(pt nums:List Int)(ah en:V)(_:vs=[.ref h])(_:HaI CH CP CR CC es pt ah en H h)(_:DOk es pt)(_:(ah=.non\/∃a,ah=.int a))(_:nums.Pairwise (·<·))(_:(∀n,n∈nums↔n∈pt))(_:∀(G:Hp) (l:ab) (ts:List V),cA H G->H l=Z7->G l=Z8 (.l ts)->bM (DoT G) ts (acP es pt ah nums)->Q (.ref l) G):Hn CH CP CR CC vs H Q _e
def spHd(CH CP CR CC:ab):Sp:=fun vs H Q Z=>Hn CH CP CR CC vs H Q Z
theorem DO(F:Fun K "possible_doings" "Hall.possible_doings" fb f fd)(ML:Mt K CP "least" "Part.least" iI pQl fQl fdQl)(GL:bO P w K mg base CX0 3 fQl fdQl pQl (Fz CP CC))(MF:Mt K CH "floor" "Hall.floor" fG pHf fFl fdFl)(ew:bO P w K mg base CX0 4 fFl fdFl pHf (FF CH CP CR CC))(fa:Mt K CH "may_do" "Hall.may_do" jh pHm fMd fdMd)(ev:bO P w K mg base CX0 4 fMd fdMd pHm (spHm CH CP CC))(TH:HaT K mg CH)(TP:PtT K mg CP CR):bO P w K mg base CX0 5 f fd pHd (spHd CH CP CR CC):=by
 refine F.ok DK (fun vs H Q E h=>?_) (fun ei A outer s H vs Q E hr h=>?_)
 ·obtain⟨h,es,pt,eH,M,en,rfl,_⟩:=h;rfl
 obtain⟨h,es,pt,X,M,en,rfl,hH,et,er,ey,ga,k⟩:=h;have r4:dC 4 _:=hr;have r3:dC 3 _:=hr.mono (by decide);refine⟨_,ax (pst 1 DK (eC (pv 0) TH.cl MF.m ew r4 MF.b .nil eV))
  (ax (pst 2 DK (dv ao))
  (ax (vK (e9 bB rfl (Cg (cO K (by rfl) (pv 0) (by rfl))) (n6 rfl (e7 (pgn 3 DK) (e7 (pgn 4 DK) kR))) (aJ (dW (mB (ka (pv 0) TH.cl fa.m ev r4 fa.b .nil eV (aT (pv 4) (aT (pv 1) ao)))) (aJ (eL (kh bE bZ cg fZ (pv 2) (j3 (dR (cR eO (aT (pv 3) (ie (eC (pv 4) TP.clP ML.m GL r3 ML.b .nil eV) ao)))) ao) (hs:=jO)))) cD))))
  (aJ (bT (pv 2))))),?_⟩
 dsimp only[cxA,cxB];have big:=ef;obtain⟨dx,mb,rd,ce,fs,eH,kvs,rk,h1,hf,h3,h4,h5,h6,h7,h8,h9,hA,hB⟩:=id hH;obtain rfl:=vV ey h5 fun n=>(ga n).trans (h6 n).symm;have lk:=bQ h4;refine cB fun _ zK=>cS {_,Z9,h,dx,fs,Z9,h1,hf.no _ (by decide +kernel),h,es,pt,M,en,Z9,hH,et,fun G1 fl s1 ky=>gk zK ?_};refine cB fun _ zK=>cS {aO _,fun l hl=>gk zK ?_};have s2:=s1.trans (az hl (.l []));have l0:=none_of s1 hl;have D:=eU hl (.l []);have g:=ky.same (az hl (.l []));revert s2 D g;generalize upd G1 l (.l [])=G2;intro s2 D g;have B:=s2 _ _ h3;refine cB fun _ zK=>{_,Z9,h,CH,dx,_,_,Z9,s2 _ _ h1,TH.cl,TH.nB,hf.mb,mb,kvs,Z9,B,(by exact fun ob u z=>nomatch h3.symm.trans z),fun od=>?_};refine AN (fun i σ G=>∃(u3 u4:Option V) (O:List V),σ=[Z8 (.ref h),Z8 fl,Z8 (.ref l),u3,u4]/\G mb=Z8 (.frz od (.dK kvs))/\But mb H G/\G l=Z8 (.l O)/\bM (DoT G) O (acP es pt M (X.take i))/\O.length<=i/\KyO G (leK (es.map Ev.key)) fl) {_,_,[],Z9,ai,(fun c o e n=>hv (s2 _ _ e) n),hv D (cQ D B nofun),.nil,aB _,g.tups fun a xs e=>hv e (cQ e B nofun)} ?_ ?_ ?_
 ·rintro i σ G _ ⟨_,_,_,rfl,z,_⟩;exact z
 ·rintro i kv t σ G hk ⟨u3,u4,O,rfl,fz,b,D,L,lt,ky⟩ ht;obtain⟨n,hn,e,z⟩:=jo h4 hk;have st:=az ht (.t [kV kv.1,kv.2]);have zG:=(z.dk b h3).same st;have fv:G h=Z8 (.ins CH dx fs):=b _ _ h1 (cQ h1 h3 nofun);have eg:i<kvs.length:=(ay.mp hk).1;refine{t,_,Z9,SqT.of ai,Z9,_,_,Z9,bK {_,_,Z9,bK {Z9,?_}}};rw[e];have Y:=st _ _ fz;have b2:But mb H (upd G t (.t [kV kv.1,kv.2])):=fun c o e n=>st _ _ (b _ _ e n);have Z:=st _ _ D;have U:=Paired.mono (fun _ _ z=>DoT.same st z) L;have W:=ky.same st;have I:=st _ _ fv;rw[e]at Y b2 Z U W I zG;revert Y b2 Z U W I zG;generalize upd G t (.t [kV (Sum.inl n),kv.2])=Ga;intro zG Y b2 Z U W I;clear st ky L D b fz ht fv z e;have ez:∀k,leK (pnd pt es n)=Z8 k->k≠[]/\∃m,leK (es.map Ev.key)=Z8 m/\m≠[]:=fun k hk=>by
   obtain⟨e,he,rfl⟩:=DG hk;obtain⟨e',_,z⟩:=rN (es:=es) (fun z=>by rw[z]at he;cases he);exact{(fun z=>by cases z),e'.key,z,fun z=>by cases z}
  have ac:acP es pt M (X.take (i+1))=acP es pt M (X.take i)++acP es pt M [n]:=by
   unfold acP;rw[eJ,hn,lG];rfl
  rw[ac];refine ic {_,Z9,h,dx,fs,Z9,I,hf.no _ (by decide +kernel),_,Z9,_,Z9,h,dx,fs,M,_,fl,_,_,Z9,I,hf.ah,er,zG,W,ez,_,Z9,?_}
  cases ek:leK (pnd pt es n) with
  |none=>
   have e0:acP es pt M [n]=[]:=by
    unfold acP;rw[dZ,ek];rfl
   rw[e0,eB];exact gm {_,_,O,Z9,Y,b2,Z,U,by omega,W}
  |some k'=>
   cases em:zo M (Z8 k') (leK (es.map Ev.key)) with
   |false=>
    have e0:acP es pt M [n]=[]:=by
     unfold acP;rw[dZ,ek];simp only[em];rfl
    rw[e0,eB];exact gm {_,_,O,Z9,Y,b2,Z,U,by omega,W}
   |true=>
    have e1:acP es pt M [n]=[(n,k')]:=by
     unfold acP;rw[dZ,ek];simp only[em];rfl
    rw[e1];obtain⟨a,el,ej,ed,d,r,q,md,st,ee,ea,g1,_⟩:=id zG;refine iq {_,Z9,.inl {Z9,_,SqL.of Z},_,Z9,_,Z9,a,el,_,ea,g1,Z9,_,_,Z9,zG,fun v' fw=>{(by show 3<=aF;decide),fun t2 y=>{l,O,.ref t2,Z9,Z9,?_,by omega,?_}}}
    ·exact az y _ _ _ Z
    rw[ek]at fw;obtain⟨c,rfl,hc⟩:=fw;have J:=az y (.t [.str "do",.int n,.ref c]);have eq:=J _ _ Z;have kt:∀a xs,Ga a=Z8 (.t xs)->upd (upd Ga t2 (.t [.str "do",.int n,.ref c])) l (.l (O++[.ref t2])) a=Z8 (.t xs):=fun a xs e=>hv (J _ _ e) (cQ (J _ _ e) eq nofun);have eo:mb≠l:=cQ Y Z nofun;refine{_,_,O++[.ref t2],Z9,hv (J _ _ Y) eo,(fun c o e n=>hv (J _ _ (b2 _ _ e n)) (aC e l0)),ai,hU (Paired.mono (fun _ _ z=>DoT.tups kt z) U) {t2,c,Z9,hv ai (aC Z y).symm,kt _ _ hc},by rw[aL];show O.length+1<=_;omega,W.tups kt}
 ·rintro σ G ⟨u3,u4,O,rfl,fz,b,D,L,lt,ky⟩;refine{mb,od,kvs,fz,(by exact fun ob u z=>nomatch h3.symm.trans z),zK _ _ ?_};have s3:=kY b h3;rw[nJ (by omega)]at L;exact gF {_,Z9,k _ l O s3 l0 (hv D (cQ D fz nofun)) (Paired.mono (fun _ _ z=>DoT.tups (fun a xs e=>hv e (cQ e fz nofun)) z) L)}
abbrev nHt:List Str:=["self","floor","found","member","entry"]
abbrev pHt:List Str:=["self"]
theorem DQ:bU nHt pHt (aS ji):=fK
def EnO(G:Hp)(es:List Ev)(Z:V):Prop:=(es=[]/\∃t,Z=.ref t/\G t=Z8 (.t [.str "empty"]))\/(es≠[]/\Z=.non)
theorem EnO.same{G G':Hp}(s:cA G G'){es:List Ev}{Z:V}(h:EnO G es Z):EnO G' es Z:=by
 rcases h with⟨a,t,e,h⟩|h
 ·exact .inl {a,t,e,s _ _ h}
 ·exact .inr h
inductive Ho(CH CP CR CC:ab)(vs:List V)(H:Hp)(Q:VK)(_e:XK):Prop where
 |mk(h dx mb rd ce:ab)(fs:List (Str×V))(es:List Ev)(pt:List Int)(ah:V)(_:vs=[.ref h])(_:HaI CH CP CR CC es pt ah .non H h)(_:H h=Z8 (.ins CH dx fs))(_:HFs fs mb rd ce ah .non)(_:fs.length<1000)(_:DOk es pt)(_:∀(G:Hp) (fs':List (Str×V)) (en:V),But h H G->G h=Z8 (.ins CH dx fs')->HFs fs' mb rd ce ah en->EnO G es en->Q .non G):Ho CH CP CR CC vs H Q _e
def spHt(CH CP CR CC:ab):Sp:=fun vs H Q Z=>Ho CH CP CR CC vs H Q Z
theorem ok_ht{ko:ab}(F:Fun K "settle" "Hall.settle" ji f fd)(MF:Mt K CH "floor" "Hall.floor" fG pHf fFl fdFl)(ei:bO P w K mg base CX0 4 fFl fdFl pHf (FF CH CP CR CC))(J:Mt K CP "pass_below" "Part.pass_below" g9 pQp fQp fdQp)(ee:bO P w K mg base CX0 2 fQp fdQp pQp (spQp CP CC))(eg:mg "key_of"=Z8 (.ref ko))(U:HaT K mg CH)(TP:PtT K mg CP CR)(MS:mg "sorted"=Z7):bO P w K mg base CX0 5 f fd pHt (spHt CH CP CR CC):=by
 refine F.ok DQ (fun vs H Q E h=>?_) (fun dq A outer s H vs Q E hr h=>?_)
 ·obtain⟨h,dx,X,rd,ce,fs,es,pt,ah,rfl,_⟩:=h;rfl
 obtain⟨h,dx,X,rd,ce,fs,es,pt,ah,rfl,hH,h1,O,lf,ek,k⟩:=h;have r4:dC 4 _:=hr;have r2:dC 2 _:=hr.mono (by decide);refine⟨_,ax (pst 1 DQ (eC (pv 0) U.cl MF.m ei r4 MF.b .nil eV))
  (ax (pst 2 DQ (dv ao))
  (ax (vK (e9 bB rfl (z5 (cO K (by rfl) (pv 0) (by rfl))) (pgn 3 DQ) (aJ (eL (kh bE ub uc uy (pv 2) (ie (ka (pv 3) TP.clP J.m ee r2 J.b .nil eV (aT (pv 1) ao)) ao))))))
  (ax (e9 bB rfl (eM (Da (by rfl) MS (aT (pv 2) ao) (Em (by rfl) eg rfl))) (pgn 4 DQ) (aJ (dW (jx (nZ (cO K (by rfl) (pv 0) (by rfl)))) (ax (gr (pv 0) (cO K (by rfl) (pv 4) (by rfl)) rfl)
  (aJ (dW (jx (j7 (cO K (by rfl) (pv 4) (by rfl)))) (aJ (eL (kh bE bZ cg fZ (cO K (by rfl) (pv 0) (by rfl)) (aT (pv 4) ao)))) cD))) cD)))
  (aJ (dW ((lQ (jx (nZ (pv 1))) (j8 (jx (nZ (cO K (by rfl) (pv 0) (by rfl)))))).pt) (aJ (gr (pv 0) (dR (cR eO ao)) rfl)) cD))))),?_⟩
 dsimp only[cxA,cxB];obtain⟨dw,dr,dF,du,fs',eb,kvs,rk,I,ej,g,h4,h5,h6,h7,h8,h9,hA,hB⟩:=id hH;rw[h1]at I
 cases I;have em:=O.mb.symm.trans ej.mb
 cases em;have lk:=bQ h4;refine cB fun _ W=>cS {_,Z9,h,dx,fs,Z9,h1,O.no _ (by decide +kernel),h,es,pt,ah,_,Z9,hH,ek,fun G1 fl s1 ky=>gk W ?_};have fn:(es=[]/\fl=.non)\/(es≠[]/\fl≠.non):=by
  by_cases c:es=[]
  ·subst c;exact .inl ⟨Z9,ky⟩
  ·obtain⟨e,_,z⟩:=rN c;rw[z]at ky;obtain⟨a,rfl,_⟩:=ky;exact .inr {c,fun z=>by cases z}
 refine cB fun _ W=>cS {aO _,fun l hl=>gk W ?_};have s2:=s1.trans (az hl (.l []));have l0:=none_of s1 hl;have Z:=eU hl (.l []);revert s2 Z;generalize upd G1 l (.l [])=G2;intro s2 Z;have B:=s2 _ _ g;refine cB fun _ W=>{_,Z9,h,CH,dx,_,_,Z9,s2 _ _ h1,U.cl,U.nB,O.mb,X,kvs,Z9,B,(by exact fun ob u z=>nomatch g.symm.trans z),fun od=>?_};refine C1 (fun i σ G=>∃u3 u4:Option V,σ=[Z8 (.ref h),Z8 fl,Z8 (.ref l),u3,u4]/\G X=Z8 (.frz od (.dK kvs))/\But X H G/\G l=Z8 (.l [])) {_,_,Z9,ai,(fun c o e n=>hv (s2 _ _ e) n),hv Z (cQ Z B nofun)} ?_ ?_ ?_
 ·rintro i σ G _ ⟨_,_,rfl,z,_⟩;exact z
 ·rintro i kv σ G hk ⟨u3,u4,rfl,L,b,Z⟩;obtain⟨n,hn,e,z⟩:=jo h4 hk;have zG:=z.dk b g;obtain⟨a,ed,dz,dL,d,r,q,md,st,dV,ea,g1,_⟩:=id zG;refine bK {_,Z9,.inl {Z9,_,SqL.of Z},_,Z9,a,ed,_,ea,g1,Z9,_,Z9,_,fl,_,Z9,zG,fun l2 ec=>?_};have y:=az ec (.l []);exact{l,l2,[],[],Z9,Z9,y _ _ Z,ai,aO _,_,_,Z9,hv (y _ _ L) (cQ (y _ _ L) (y _ _ Z) nofun),(fun c o e n=>hv (y _ _ (b _ _ e n)) (aC e l0)),ai}
 rintro σ G ⟨u3,u4,rfl,L,b,Z⟩;refine{X,od,kvs,L,(by exact fun ob u z=>nomatch g.symm.trans z),W _ _ ?_};have s3:=kY b g;have Y:upd G X (.dK kvs) l=Z8 (.l []):=hv Z (cQ Z L nofun);revert s3 Y;generalize upd G X (.dK kvs)=G3;intro s3 Y;refine cB fun _ W=>{_,Z9,l,Z9,Y,fun l3 M=>{l3,Z9,{[],SqL.of ai},?_}};have D:=s3.trans (az M (.l []));have g4:=eU M (.l []);revert D g4;generalize upd G3 l3 (.l [])=G4;intro D g4;refine iM (K:=K) (a:=l3) (xs:=[]) (fun i σ G=>σ=[Z8 (.ref h),Z8 fl,Z8 (.ref l),u3,u4]/\G=G4) ⟨Z9,Z9⟩ ?_ ?_ ?_
 ·rintro i σ G _ ⟨rfl,rfl⟩;exact SqL.of g4
 ·intro _ _ _ i v σ G hi
  cases hi
 rintro σ G ⟨rfl,rfl⟩;refine W _ _ ?_;have hh:=D _ _ h1
 rcases fn with⟨c,rfl⟩|⟨c,n⟩
 ·refine ic {_,Z9,_,Z9,iq {_,Z9,h,CH,dx,_,_,Z9,hh,U.cl,U.nE,O.en,_,Z9,iq {(by show 1<=aF;decide),fun t ht=>?_}}};have st:=az ht (.t [.str "empty"]);exact{_,Z9,h,CH,dx,fs,Z9,st _ _ hh,U.cl,U.nE,lf,k _ _ (.ref t) (fun c o e n=>hv (st _ _ (D _ _ e)) n) ai (O.put _) (.inl {c,t,Z9,hv ai (aC hh ht).symm})}
 ·refine ic {_,Z9,_,Z9,lS (b:=false) (by simp[n]) (gm (gm (k G fs .non (fun c o e _=>D _ _ e) hh O (.inr ⟨c,Z9⟩))))}
end
def MoT(CM:ab)(Y:List MD)(H:Hp)(m:ab):Prop:=∃(dx Z:ab) (fs:List (Str×V)),H m=Z8 (.ins CM dx fs)/\fs.lookup ("machines":Str)=Z8 (.ref Z)/\xq (Y.length:Int) H Z Y/\Tree H 29 (.ref Z)
def evs(es:List Ev):List Ev:=es.mapIdx fun i e=>atP e i
section
variable{P:aP}{w:bF}{K:ag}{mg:Str->Option ae}{base:cz}{f fQa fPb fRe fPaf fSt fMI fFl fMd fPd fPh fOv fAc fKo fRo fDi fHo CH CP CR CC CM CS:ab}{fd fdQa fdPb fdRe fdPaf fdSt fdMI fdFl fdMd fdPd fdPh fdOv fdAc fdKo fdRo fdDi fdHo:bS}
seal PS PSs PE PA PT PW PI PG PGs PC
abbrev nHa:List Str:=["self"]
abbrev pHa:List Str:=["self"]
theorem scHa:bU nHa pHa (aS iy):=fK
def acE(es:List Ev)(pt:List Int)(Y X:V)(Z:List Int):List (Int×List Int):=if X=.non then acP es pt Y Z else []
inductive Hq(CH CP CR CC:ab)(vs:List V)(H:Hp)(Q:VK)(_e:XK):Prop where
 |mk(h:ab)(es:List Ev)(pt nums:List Int)(ah en:V)(_:vs=[.ref h])(_:HaI CH CP CR CC es pt ah en H h)(_:DOk es pt)(_:(ah=.non\/∃a,ah=.int a))(_:nums.Pairwise (·<·))(_:(∀n,n∈nums↔n∈pt))(_:nums.length<=9)(_:∀(G:Hp) (l:ab) (ts:List V),cA H G->H l=Z7->G l=Z8 (.l ts)->bM (DoT G) ts (acE es pt ah en nums)->Q (.ref l) G):Hq CH CP CR CC vs H Q _e
def Jd(CH CP CR CC:ab):Sp:=fun vs H Q Z=>Hq CH CP CR CC vs H Q Z
theorem vW(es:List Ev)(pt:List Int)(Y:V):∀Z:List Int,(acP es pt Y Z).length<=Z.length
 | []=>aB _
 |n::X=>by
  have:=vW es pt Y X;unfold acP at this |-;rw[dZ,aL,cY]
  split
  ·simp only[cU];omega
  ·split
   ·simp only[cY,cU];omega
   ·simp only[cU];omega
theorem DR(F:Fun K "actions" "Hall.actions" iy f fd)(V:Mt K CH "over" "Hall.over" jE pHo fOv fdOv)(g:bO P w K mg base CX0 1 fOv fdOv pHo (Jc CH CP CR CC))(W:Mt K CH "possible_doings" "Hall.possible_doings" fb pHd fPd fdPd)(r:bO P w K mg base CX0 5 fPd fdPd pHd (spHd CH CP CR CC))(U:Mt K CH "possible_hearings" "Hall.possible_hearings" eI pHh fPh fdPh)(y:bO P w K mg base CX0 1 fPh fdPh pHh (spHh CH CP CR CC))(d:HaT K mg CH):bO P w K mg base CX0 6 f fd pHa (Jd CH CP CR CC):=by
 refine F.ok scHa (fun vs H Q E h=>?_) (fun ck A outer s H vs Q E hr h=>?_)
 ·obtain⟨h,es,pt,Z,M,O,rfl,_⟩:=h;rfl
 obtain⟨h,es,pt,Z,M,O,rfl,J,I,B,up,mem,l9,k⟩:=h;have r5:dC 5 _:=hr;have r1:dC 1 _:=hr.mono (by decide);refine⟨_,ax (dW (mB (eC (pv 0) d.cl V.m g r1 V.b .nil eV)) (aJ (bT (dv ao))) cD)
  (aJ (bT (cV sh (eC (pv 0) d.cl W.m r r5 W.b .nil eV) (eC (pv 0) d.cl U.m y r1 U.b .nil eV)))),?_⟩
 have big:=ef;obtain⟨dx,mb,rd,ce,fs,_,_,_,h1,q,_⟩:=id J;refine cB fun _ zK=>ic {_,Z9,h,dx,fs,Z9,h1,q.no _ (by decide +kernel),h,es,pt,M,O,Z9,J,_,Z9,?_}
 by_cases c:O=.non
 ·refine lS (b:=false) (by simp[c]) (gm (zK _ _ (gF ?_)));refine{_,Z9,h,dx,fs,Z9,h1,q.no _ (by decide +kernel),h,es,pt,Z,M,O,Z9,J,I,B,up,mem,fun G1 l D s1 nl gl L=>?_};refine{_,Z9,h,dx,fs,Z9,s1 _ _ h1,q.no _ (by decide +kernel),h,es,pt,M,O,Z9,J.same s1,fun G2 l2 s2 cn t=>?_};have lt:=bQ L;have la:=vW es pt M Z;refine{l,l2,D,[],Z9,Z9,s2 _ _ gl,t,by simp only[cU];omega,fun l3 Y=>?_};have s3:=az Y (.l (D++[]));have X:=s1.trans s2;refine k _ l3 D (X.trans s3) (none_of X Y) (by rw[ai,eB]) ?_;rw[acE,Q6 c];exact Paired.mono (fun _ _ z=>DoT.same (s2.trans s3) z) L
 ·refine lS (b:=true) (by simp[c]) (iq (gF {aO _,fun l hl=>k _ l [] (az hl _) hl ai ?_}));rw[acE,Q5 c];exact .nil
abbrev nHp:List Str:=["self","number","possible","action"]
abbrev pHp:List Str:=["self","number"]
theorem Je:bU nHp pHp (aS kl):=fK
inductive Hs(CH CP CR CC:ab)(vs:List V)(H:Hp)(Q:VK)(_e:XK):Prop where
 |mk(h:ab)(es:List Ev)(pt nums:List Int)(ah en:V)(n:Int)(_:vs=[.ref h,.int n])(_:HaI CH CP CR CC es pt ah en H h)(_:DOk es pt)(_:(ah=.non\/∃a,ah=.int a))(_:nums.Pairwise (·<·))(_:(∀n,n∈nums↔n∈pt))(_:nums.length<=9)(_:acE es pt ah en nums=[])(_:∀G:Hp,cA H G->Q .non G):Hs CH CP CR CC vs H Q _e
def spHp(CH CP CR CC:ab):Sp:=fun vs H Q Z=>Hs CH CP CR CC vs H Q Z
theorem ok_hp(F:Fun K "step" "Hall.step" kl f fd)(X:Mt K CH "actions" "Hall.actions" iy pHa fAc fdAc)(I:bO P w K mg base CX0 6 fAc fdAc pHa (Jd CH CP CR CC))(Y:Mt K CH "do_in" "Hall.do_in" mQ ["self","number"] fDi fdDi)(J:bO P w K mg base CX0 1 fDi fdDi ["self","number"] fun _ _ _ _=>False)(W:Mt K CH "hear_on" "Hall.hear_on" lA ["self","ends"] fHo fdHo)(M:bO P w K mg base CX0 1 fHo fdHo ["self","ends"] fun _ _ _ _=>False)(L:HaT K mg CH)(B:Bl mg):bO P w K mg base CX0 7 f fd pHp (spHp CH CP CR CC):=by
 refine F.ok Je (fun vs H Q E h=>?_) (fun bG A outer s H vs Q E t h=>?_)
 ·obtain⟨h,es,pt,Z,r,D,n,rfl,_⟩:=h;rfl
 obtain⟨h,es,pt,Z,r,D,n,rfl,q,U,O,up,mem,g,e0,k⟩:=h;have d:dC 6 _:=t;have z:dC 1 _:=t.mono (by decide);refine⟨_,ax (pst 2 Je (eC (pv 0) L.cl X.m I d X.b .nil eV))
  (ax (dW (BB (rT (pv 2) (fun _=>rfl))) (aJ (bT pq)) cD)
  (ax (pst 3 Je (bJ bN (pv 2) (cV oe (pv 1) (cK (dH K (by rfl)) (by rfl) B.len bV (aT (pv 2) ao)))))
  (ax (dW (cG iS (bJ dX (pv 3) au) eO) (aJ (eL (ka (pv 0) L.cl Y.m J z Y.b .nil eV (jA (bJ dX (pv 3) au) ao)))) (aJ (eL (ka (pv 0) L.cl W.m M z W.b .nil eV (j3 (dR (jA (bJ dX (pv 3) au) (jA (bJ dX (pv 3) au) ao))) ao)))))
  (aJ (bT (pv 3)))))),?_⟩
 dsimp only[cxA,cxB];obtain⟨dx,mb,rd,ce,fs,_,_,_,h1,hf,_⟩:=id q;refine cB fun _ y=>cS {_,Z9,h,dx,fs,Z9,h1,hf.no _ (by decide +kernel),h,es,pt,Z,r,D,Z9,q,U,O,up,mem,g,fun G l ts s1 nl gl V=>gk y ?_};rw[e0]at V
 cases V;exact cB fun _ y=>ic {_,Z9,_,.inl {[],SqL.of gl,Z9},iq (gF (k G s1))}
end
open Classical in
noncomputable def Nh(h:ab)(H G:Hp):Hp:=fun a=>if a=h\/H a=Z7\/(∃xs,G a=Z8 (.t xs)) then G a else Z7
theorem DU{h:ab}{H G:Hp}:cA (Nh h H G) G:=fun a o e=>by
 unfold Nh at e
 split at e
 ·exact e
 ·cases e
theorem kM{h a:ab}{H G:Hp}{o:HO}(n:H a=Z7)(e:G a=Z8 o):Nh h H G a=Z8 o:=by
 unfold Nh;rw[Q6 (.inr (.inl n))];exact e
theorem nh_at{h:ab}{H G:Hp}{o:HO}(e:G h=Z8 o):Nh h H G h=Z8 o:=by
 unfold Nh;rw[Q6 (.inl rfl)];exact e
theorem DV{h a:ab}{H G:Hp}{xs:List V}(e:G a=Z8 (.t xs)):Nh h H G a=Z8 (.t xs):=by
 unfold Nh;rw[Q6 (.inr (.inr {_,e}))];exact e
theorem PtG.far{CP CC p:ab}{G G':Hp}{x:Pa}{ks:List (List Int)}{o:HO}(b:But p G G')(hp:G p=Z8 o)(W:∀xs,o≠.t xs)(fr:∀a∈x.all,a≠p)(h:PtG CP CC G x ks):PtG CP CC G' x ks:=by
 obtain⟨⟨Y,B,h1⟩,⟨D,h2⟩,q,⟨kvs,⟨Z,X,O,I,U,L,r,M,V⟩,J⟩,y⟩:=h;have t:∀a xs,G a=Z8 (.t xs)->G' a=Z8 (.t xs):=fun a xs e=>b _ _ e (cQ e hp fun z=>W _ z.symm);exact{{Y,B,b _ _ h1 (fr _ (by simp[Pa.all]))},{D,b _ _ h2 (fr _ (by simp[Pa.all]))},b _ _ q (fr _ (by simp[Pa.all])),{kvs,{Z,X,O,b _ _ I (fr _ (by simp[Pa.all])),b _ _ U (fr _ (by simp[Pa.all])),b _ _ L (fr _ (by simp[Pa.all])),b _ _ r (fr _ (by simp[Pa.all])),M.keep t,V},J},y}
theorem PtG.nh{CP CC h:ab}{H G:Hp}{x:Pa}{ks:List (List Int)}(p:PtG CP CC G x ks)(fr:∀a∈x.all,H a=Z7):PtA CP CC (Nh h H G) (.ref x.a) ks:=by
 obtain⟨⟨Y,I,h1⟩,_,B,⟨kvs,⟨Z,X,U,J,V,M,D,O,W⟩,L⟩,z⟩:=p;exact{x.a,Y,x.cal,x.ent,x.d,x.r,x.q,I,_,kvs,Z9,kM (fr _ (by simp[Pa.all])) h1,kM (fr _ (by simp[Pa.all])) B,{Z,X,U,kM (fr _ (by simp[Pa.all])) J,kM (fr _ (by simp[Pa.all])) V,kM (fr _ (by simp[Pa.all])) M,kM (fr _ (by simp[Pa.all])) D,O.keep fun a xs e=>DV e,W},L}
theorem DW{m:Int}{H H2:Hp}{Y:ab}{W:List MD}{X:V}(h:xq m H Y W)(t:Tree H 29 (.ref Y))(U:Alike H H2 29 (.ref Y) X):∃Z,X=.ref Z/\xq m H2 Z W:=by
 obtain⟨xs,h0,p⟩:=h;obtain⟨Z,ys,rfl,h1,O⟩:=mh h0 U;refine{Z,Z9,ys,h1,oU (R:=MoI m H) (S:=Alike H H2 28) (T:=Tree H 28) (fun v M X z b c=>?_) p O fun x hx=>?_}
 ·exact{z.ma.alike c b,z.fs.alike b,z.kb,z.nb,z.nq,z.lb,z.lq,z.ld,z.lh,z.wb,z.hk}
 ·rcases t with t|⟨q,zs,e,e1,L,e3⟩
  ·cases t
  ·cases e
   rcases e1 with e1|e1
   ·rw[h0]at e1
    cases e1;exact e3 x hx
   ·rw[h0]at e1
    cases e1
theorem Alike.keep{H H1 H2:Hp}(s:∀a o,H1 a=Z8 o->(∀C dx fs,o≠.ins C dx fs)->H2 a=Z8 o):∀{n:Nat} {v X:V},Alike H H1 n v X->Alike H H2 n v X
 |0,_,_,h=>h
 |n+1,v,X,h=>by
  rcases h with h|⟨p,Z,xs,ys,e1,Y,h1,h2,r⟩|⟨p,Z,xs,ys,e1,Y,h1,h2,r⟩
  ·exact .inl h
  ·exact .inr (.inl {p,Z,xs,ys,e1,Y,h1,s _ _ h2 (fun _ _ _ z=>by cases z),_L.Paired.imp' (fun _ _ z=>Alike.keep s z) r})
  ·exact .inr (.inr {p,Z,xs,ys,e1,Y,h1,s _ _ h2 (fun _ _ _ z=>by cases z),_L.Paired.imp' (fun _ _ z=>Alike.keep s z) r})
theorem Pts.far{CP CC Y p:ab}{H G G':Hp}{Z:List Int}{xs:List Pa}{f:Int->List (List Int)}{o:HO}(h:Pts CP CC H G Y Z xs f)(b:But p G G')(hp:G p=Z8 o)(X:∀xs,o≠.t xs)(n:H p≠Z7):Pts CP CC H G' Y Z xs f:=by
 refine{h.ln,b _ _ h.dk fun z=>n (by rw[<- z];exact h.fm),fun i x m e1 W=>(h.pt i x m e1 W).far b hp X fun a ha z=>n (by rw[<- z];exact h.fr x (aK e1) a ha),h.ap,h.fr,h.fm,h.ns}
theorem vX:∀{Z:List Int} {xs:List Pa},xs.length=Z.length->((mX Z xs).map fun x=>kV x.1)=Z.map V.int
 | [],_,_=>rfl
 |n::Y,[],h=>by cases h
 |n::Y,x::xs,h=>by
  show kV (Sum.inl n)::((mX Y xs).map fun x=>kV x.1)=_;rw[vX (pT h)];rfl
structure HiS(CP CR CC h l2 mb rd:ab)(pt nums:List Int)(xs:List Pa)(f:Int->List (List Int))(rk:List (List Key×V))(H H4 Hr G:Hp):Prop where
 b:But h H G
 pl:G l2=Z8 (.l (pt.map V.int))
 ps:Pts CP CC H4 G mb nums xs f
 rd:G rd=Z8 (.dT rk)
 rr:∀q∈rk,∃a dx l u,q.2=.ref a/\G a=Z8 (.ins CR dx (rF l u))/\G l=Z8 (.l [])/\G u=Z8 (.l [])/\Hr a=Z7/\Hr l=Z7/\Hr u=Z7
theorem HiS.keep{CP CR CC h D I W:ab}{pt Z:List Int}{xs:List Pa}{f:Int->List (List Int)}{M:List (List Key×V)}{H U X G G':Hp}{C dx:ab}{fs:List (Str×V)}(x:HiS CP CR CC h D I W pt Z xs f M H U X G)(b:But h G G')(Y:G h=Z8 (.ins C dx fs))(d:U h≠Z7)(y:X h≠Z7)(t:X W=Z7):HiS CP CR CC h D I W pt Z xs f M H U X G':=by
 refine{fun c o e n=>b _ _ (x.b _ _ e n) n,b _ _ x.pl (cQ x.pl Y nofun),x.ps.far b Y nofun d,b _ _ x.rd (cQ x.rd Y nofun),fun q hq=>?_};obtain⟨a,dx,l,u,e,g,L,O,J,B,r⟩:=x.rr q hq;exact{a,dx,l,u,e,b _ _ g (fun z=>y (by rw[<- z];exact J)),b _ _ L (cQ L Y nofun),b _ _ O (cQ O Y nofun),J,B,r}
theorem Pts.aw{CP CC O:ab}{H G G':Hp}{Z:List Int}{xs:List Pa}{f W:Int->List (List Int)}{j:Nat}{x:Pa}{n:Int}(h:Pts CP CC H G O Z xs f)(hx:xs[j]?=Z8 x)(hn:Z[j]?=Z8 n)(J:Z.Nodup)(hp:PtG CP CC G' x (W n))(st:jq [x.d,x.q] G G')(L:∀Y,Y≠n->W Y=f Y):Pts CP CC H G' O Z xs W:=by
 obtain⟨kvs,⟨_,I,_,_,U,_,V,_⟩,_⟩:=(h.pt j x n hx hn).hc;have dk:=h.dk;refine{h.ln,st.keep _ _ dk ?_,fun i y Y e1 X=>?_,h.ap,h.fr,h.fm,h.ns}
 ·simp only[aD,aX,or_false];exact fun z=>z.elim (cQ dk U nofun) (cQ dk V nofun)
 ·by_cases c:i=j
  ·subst c;rw[hx]at e1;rw[hn]at X
   cases e1
   cases X;exact hp
  ·have M:Y≠n:=fun z=>by
    subst z;exact c ((mm (ay.mp X).1 J).mp (X.trans hn.symm))
   rw[L Y M];refine (h.pt i y Y e1 X).stay st U V fun a ha=>?_;have:=h.ap i j y x e1 hx c a ha;simp only[Pa.fp,aD,aX,or_false,not_or]at this;exact⟨this.2.2.2,this.1⟩
theorem qR{R:V->Int->Prop}:∀{Z:List Int} {xs:List Pa},xs.length=Z.length->(∀(i:Nat) (x:Pa) (n:Int),xs[i]?=Z8 x->Z[i]?=Z8 n->R (.ref x.a) n)->bM (fun (q:Key×V) (n:Int)=>q.1=.inl n/\R q.2 n) (mX Z xs) Z
 | [],[],_,_=>.nil
 | [],_::_,h,_=>by cases h
 |_::_,[],h,_=>by cases h
 |n::X,x::xs,h,k=>.cons {Z9,k 0 x n rfl rfl} (qR (pT h) fun i y m e1 Y=>k (i+1) y m e1 Y)
theorem DX{es:List Ev}{pt:List Int}(l:es.length<=20)(W:∀n∈pt,0<=n/\n<=5)(to:∀e∈es,0<=e.to/\e.to<(pt.length:Int)):DOk (evs es) pt:=by
 refine{fun e V=>?_,?_,by unfold evs;rw[lO];exact l,W}
 ·obtain⟨i,hi⟩:=cP V;unfold evs at hi;rw[pj]at hi;obtain⟨Z,h1,rfl⟩:=cX.mp hi;have:=to Z (aK h1);have lt:Z.to.toNat<pt.length:=by omega
  exact{pt[Z.to.toNat],aA lt}
 ·rw[List.Nodup,jm];intro i j hi Y lt z;have g:∀(i:Nat) (hi:i<((evs es).map Ev.key).length),∃e,((evs es).map Ev.key)[i]=(atP e i).key:=fun i hi=>by
   have O:i<es.length:=by
    rw[ak]at hi;unfold evs at hi;rw[lO]at hi;exact hi
   refine{es[i],?_};rw[List.getElem_map];unfold evs;rw[List.getElem_mapIdx]
  obtain⟨e1,X⟩:=g i hi;obtain⟨M,U⟩:=g j Y;rw[X,U]at z;simp only[Ev.key,atP,List.cons.injEq,and_true]at z;omega
def hF(U O W Z Y X M:V):List (Str×V):=aM "back_count" (.int 0) (aM "ending" M (aM "certain" Y (aM "roads" Z (aM "members" W (aM "ahead" X (aM "parting" O (aM "model" U [])))))))
theorem Ht(M L:V)(O Z Y:ab)(W X:V):HFs (hF M L (.ref O) (.ref Z) (.ref Y) W X) O Z Y W X:=by
 refine{Z9,Z9,Z9,Z9,Z9,Z9,fun m U=>?_};simp only[aD,aX,or_false]at U
 rcases U with rfl|rfl|rfl|rfl|rfl|rfl|rfl|rfl|rfl|rfl|rfl|rfl<;>rfl
theorem xT{pt:List Int}{es:List Ev}{i:Nat}{e:Ev}(h:es[i]?=Z8 e)(n:Int):pnd pt (es.take (i+1)) n=pnd pt (es.take i) n++(if pt[e.to.toNat]?=Z8 n then [e.key] else []):=by
 unfold pnd;rw[eJ,h,qy,cq]
 congr 1
 by_cases c:pt[e.to.toNat]?=Z8 n
 ·rw[Q6 c,show (Z8 e).toList.filter (fun e=>decide (pt[e.to.toNat]?=Z8 n))=[e] from iF (Q3 c)];rfl
 ·rw[Q5 c,show (Z8 e).toList.filter (fun e=>decide (pt[e.to.toNat]?=Z8 n))=[] from jQ (by rw[Q4 c];decide)];rfl
section
variable{P:aP}{w:bF}{K:ag}{mg:Str->Option ae}{base:cz}{f fQa fPb fRe fPaf fSt fMI CH CP CR CC CM CS:ab}{fd fdQa fdPb fdRe fdPaf fdSt fdMI:bS}
seal PS PSs PE PA PT PW PI PG PGs PC
abbrev nHi:List Str:=["self","model","signs","parting","ahead","happening"]
abbrev pHi:List Str:=["self","model","signs","parting","ahead"]
theorem scHi:bU nHi pHi (aS oF):=fK
inductive Hu(CH CP CR CC CM:ab)(vs:List V)(H:Hp)(Q:VK)(_e:XK):Prop where
 |mk(h dx m sg pl:ab)(ah:V)(Ms:List MD)(svs:List V)(es:List Ev)(pt:List Int)(_:vs=[.ref h,.ref m,.ref sg,.ref pl,ah])(_:H h=Z8 (.ins CH dx []))(_:MoT CM Ms H m)(_:Ms.length<=9)(_:H sg=Z8 (.l svs))(_:bM (mj H) svs es)(_:(∀e∈es,0<=e.to/\e.to<(Ms.length:Int)))(_:es.length<=20)(_:H pl=Z8 (.l (pt.map V.int)))(_:pt.length=Ms.length)(_:(∀n∈pt,0<=n/\n<=5))(_:∀(G:Hp) (en:V),But h H G->HaI CH CP CR CC (evs es) pt ah en (Nh h H G) h->EnO (Nh h H G) (evs es) en->Q .non G):Hu CH CP CR CC CM vs H Q _e
def spHi(CH CP CR CC CM:ab):Sp:=fun vs H Q Z=>Hu CH CP CR CC CM vs H Q Z
theorem ok_hi(F:Fun K "__init__" "Hall.__init__" oF f fd)(hS:Mk K CM fMI)(im:bO P w K mg base CX0 31 fMI fdMI ["self","machines"] (Iy CM 29))(jl:Binds K fdMI ["self","machines"] [])(io:Df K mg "parts_by_number" gb pPb fPb fdPb)(hT:bO P w K mg base CX0 5 fPb fdPb pPb (spPb CM CP CC))(kq:Df K mg "roads_by_ends" ju pRe fRe fdRe)(ih:bO P w K mg base CX0 3 fRe fdRe pRe (spRe CR))(lv:Df K mg "pending_at_first" gM ["signs"] fPaf fdPaf)(mr:bO P w K mg base CX0 1 fPaf fdPaf ["signs"] Gm)(lw:Mt K CP "await_one" "Part.await_one" ix pQa fQa fdQa)(kG:bO P w K mg base CX0 4 fQa fdQa pQa (spQa CP CC))(lq:Mt K CH "settle" "Hall.settle" ji pHt fSt fdSt)(jp:bO P w K mg base CX0 5 fSt fdSt pHt (spHt CH CP CR CC))(J:HaT K mg CH)(TP:PtT K mg CP CR)(TM:MdT K mg CM CS)(B:Bl mg):bO P w K mg base CX0 33 f fd pHi (spHi CH CP CR CC CM):=by
 refine F.ok scHi (fun vs H Q E h=>?_) (fun hK A outer s H vs Q E hr h=>?_)
 ·obtain⟨h,dx,m,sg,pl,X,Ms,mR,es,pt,rfl,_⟩:=h;rfl
 obtain⟨h,dx,m,sg,pl,X,Ms,mR,es,pt,rfl,h1,hM,l9,mc,kF,ls,ki,mq,ll,n5,k⟩:=h;have ld:=pd hr;have js:dC 32 _:=hr;have r5:dC 5 _:=hr.mono (by decide);have r4:dC 4 _:=hr.mono (by decide);have r3:dC 3 _:=hr.mono (by decide);have r1:dC 1 _:=hr.mono (by decide);refine⟨_,ax (gr (pv 0) (p8 hS im js (by rfl) TM.mM jl .nil eV (bH (cO K (by rfl) (pv 1) (by rfl)) ao)) rfl)
  (ax (gr (pv 0) (i6 (sI K (by rfl)) (by rfl) B.list boot_list (aT (pv 3) ao)) rfl)
  (ax (gr (pv 0) (pv 4) rfl)
  (ax (gr (pv 0) (pcl hT r5 io (bH (cO K (by rfl) (pv 0) (by rfl)) (bH (cO K (by rfl) (pv 0) (by rfl)) ao))) rfl)
  (ax (gr (pv 0) (pcl ih r3 kq (ie (i6 (zf rfl) (by rfl) B.list boot_list (bH (cO K (by rfl) (pv 0) (by rfl)) ao)) ao)) rfl)
  (ax (gr (pv 0) (dv ao) rfl)
  (ax (gr (pv 0) pq rfl)
  (ax (gr (pv 0) au rfl)
  (ax (e9 bB rfl (eM (pcl mr r1 lv (aT (pv 2) ao))) (pgn 5 scHi) (aJ (eL (ka (rD ld (cO K (by rfl) (pv 0) (by rfl)) (bJ bN (cO K (by rfl) (pv 0) (by rfl)) (bJ dX (pv 5) au))) TP.clP lw.m kG r4 lw.b .nil eV (aT (pv 5) ao)))))
  (aJ (eL (eC (pv 0) J.cl lq.m jp r5 lq.b .nil eV))))))))))),?_⟩
 dsimp only[cxA,cxB];have big:=ef;obtain⟨kt,ml,hI,hm,hY,lf,mF⟩:=hM;have D:∀(g:Str) (v:V) (fs:List (Str×V)) (n:Nat),fs.length<=n->(aM g v fs).length<=n+1:=fun g v fs n z=>dh (jB g v fs) (by omega);refine cB fun _ r=>qM {_,Z9,m,CM,kt,_,_,Z9,hm,TM.clM,TM.nM,hY,fun Z O nj mS my=>?_};have sA:cA H (upd (upd H O (.own Z)) Z (.ins CM O [])):=fun b o e=>hv (hv e (aC e mS)) (aC e nj);have mA:upd (upd H O (.own Z)) Z (.ins CM O []) Z=Z8 (.ins CM O []):=ai;refine{Z,O,.ref ml,Z9,ai,mF.same sA,fun v' G1 s1 al=>{Z9,?_}};have lm:Z≠h:=(aC h1 nj).symm;have sB:cA H (upd G1 Z (.ins CM O (aM "machines" v' []))):=iA (sA.trans s1) nj _;refine{_,Z9,h,CH,dx,_,Z9,sB _ _ h1,J.cl,J.nM,(by show 0<1000;decide),r _ _ ?_};have f1:(aM "model" (.ref Z) []:List (Str×V)).length<=1:=D _ _ _ 0 (aB _);have lx:G1 Z=Z8 (.ins CM O []):=s1 _ _ mA;have ms:G1 h=Z8 (.ins CH dx []):=s1 _ _ (sA _ _ h1);have b2:But h H (upd (upd G1 Z (.ins CM O (aM "machines" v' []))) h (.ins CH dx (aM "model" (.ref Z) []))):=fun c o e n=>hv (sB _ _ e) n;have a2:upd (upd G1 Z (.ins CM O (aM "machines" v' []))) h (.ins CH dx (aM "model" (.ref Z) [])) h=Z8 (.ins CH dx (aM "model" (.ref Z) [])):=ai;have k2:∀a o,G1 a=Z8 o->(∀C dx fs,o≠.ins C dx fs)->upd (upd G1 Z (.ins CM O (aM "machines" v' []))) h (.ins CH dx (aM "model" (.ref Z) [])) a=Z8 o:=fun a o e n=>hv (hv e (cQ e lx (n _ _ _))) (cQ e ms (n _ _ _));have e2:upd (upd G1 Z (.ins CM O (aM "machines" v' []))) h (.ins CH dx (aM "model" (.ref Z) [])) Z=Z8 (.ins CM O (aM "machines" v' [])):=hv ai lm;revert b2 a2 k2 e2;generalize upd (upd G1 Z (.ins CM O (aM "machines" v' []))) h (.ins CH dx (aM "model" (.ref Z) []))=G2;intro b2 a2 k2 e2;have ke:pl≠h:=cQ mq h1 nofun;refine cB fun _ r=>{_,Z9,pl,_,Z9,.inl (SqL.of (b2 _ _ mq ke)),fun Y no=>{_,Z9,h,CH,dx,_,Z9,(az no _) _ _ a2,J.cl,J.nP,by omega,r _ _ ?_}};have f2:(aM "parting" (.ref Y) (aM "model" (.ref Z) []):List (Str×V)).length<=2:=D _ _ _ 1 f1;have mP:Y≠h:=(aC a2 no).symm;refine cB fun _ r=>{_,Z9,_,Z9,h,CH,dx,_,Z9,ai,J.cl,J.nA,by omega,r _ _ ?_};have f3:(aM "ahead" X (aM "parting" (.ref Y) (aM "model" (.ref Z) [])):List (Str×V)).length<=3:=D _ _ _ 2 f2;have kk:∀{a o},G2 a=Z8 o->a≠h->upd (upd (upd G2 Y (.l (pt.map V.int))) h (.ins CH dx (aM "parting" (.ref Y) (aM "model" (.ref Z) [])))) h (.ins CH dx (aM "ahead" X (aM "parting" (.ref Y) (aM "model" (.ref Z) [])))) a=Z8 o:=fun {a o} e n=>hv (hv ((az no _) _ _ e) n) n;have b4:But h H (upd (upd (upd G2 Y (.l (pt.map V.int))) h (.ins CH dx (aM "parting" (.ref Y) (aM "model" (.ref Z) [])))) h (.ins CH dx (aM "ahead" X (aM "parting" (.ref Y) (aM "model" (.ref Z) []))))):=fun c o e n=>kk (b2 _ _ e n) n;have a4:upd (upd (upd G2 Y (.l (pt.map V.int))) h (.ins CH dx (aM "parting" (.ref Y) (aM "model" (.ref Z) [])))) h (.ins CH dx (aM "ahead" X (aM "parting" (.ref Y) (aM "model" (.ref Z) [])))) h=Z8 (.ins CH dx (aM "ahead" X (aM "parting" (.ref Y) (aM "model" (.ref Z) [])))):=ai;have p4:upd (upd (upd G2 Y (.l (pt.map V.int))) h (.ins CH dx (aM "parting" (.ref Y) (aM "model" (.ref Z) [])))) h (.ins CH dx (aM "ahead" X (aM "parting" (.ref Y) (aM "model" (.ref Z) [])))) Y=Z8 (.l (pt.map V.int)):=hv (hv ai mP) mP;have M4:Ja CM Ms (upd (upd (upd G2 Y (.l (pt.map V.int))) h (.ins CH dx (aM "parting" (.ref Y) (aM "model" (.ref Z) [])))) h (.ins CH dx (aM "ahead" X (aM "parting" (.ref Y) (aM "model" (.ref Z) []))))) Z:=by
  obtain⟨ik,e,lg⟩:=DW (lf.same sA) (mF.same sA) (Alike.keep (H2:=upd (upd (upd G2 Y (.l (pt.map V.int))) h (.ins CH dx (aM "parting" (.ref Y) (aM "model" (.ref Z) [])))) h (.ins CH dx (aM "ahead" X (aM "parting" (.ref Y) (aM "model" (.ref Z) []))))) (fun a o e n=>kk (k2 a o e n) (cQ (k2 a o e n) a2 (n _ _ _))) al);subst e;exact{O,ik,_,kk e2 lm,by rw[fJ,Q6 rfl],lg}
 revert b4 a4 p4 M4;generalize upd (upd (upd G2 Y (.l (pt.map V.int))) h (.ins CH dx (aM "parting" (.ref Y) (aM "model" (.ref Z) [])))) h (.ins CH dx (aM "ahead" X (aM "parting" (.ref Y) (aM "model" (.ref Z) []))))=G4;intro b4 a4 p4 M4;clear kk k2 e2 a2 b2 no lx ms al s1 sA sB mA nj mS my lf mF;refine cB fun _ r=>{_,Z9,h,CH,dx,_,_,Z9,a4,J.cl,J.nM,Z9,_,Z9,h,CH,dx,_,_,Z9,a4,J.cl,J.nP,Z9,Ms,Z,Y,pt,Z9,M4,p4,ll,l9,fun G5 U W xs s5 y up mem mL=>{_,Z9,h,CH,dx,_,Z9,s5 _ _ a4,J.cl,J.nB,by omega,r _ _ ?_}};have f4:(aM "members" (.ref U) (aM "ahead" X (aM "parting" (.ref Y) (aM "model" (.ref Z) []))):List (Str×V)).length<=4:=D _ _ _ 3 f3;have n4:G4 h≠Z7:=fun z=>by
  rw[a4]at z
  cases z
 have nw:Pts CP CC G4 (upd G5 h (.ins CH dx (aM "members" (.ref U) (aM "ahead" X (aM "parting" (.ref Y) (aM "model" (.ref Z) [])))))) U W xs (fun _=>[]):=y.far (But.upd _ _ _) (s5 _ _ a4) nofun n4;have b6:But h H (upd G5 h (.ins CH dx (aM "members" (.ref U) (aM "ahead" X (aM "parting" (.ref Y) (aM "model" (.ref Z) [])))))):=fun c o e n=>hv (s5 _ _ (b4 _ _ e n)) n;have a6:upd G5 h (.ins CH dx (aM "members" (.ref U) (aM "ahead" X (aM "parting" (.ref Y) (aM "model" (.ref Z) []))))) h=Z8 (.ins CH dx (aM "members" (.ref U) (aM "ahead" X (aM "parting" (.ref Y) (aM "model" (.ref Z) []))))):=ai;have p6:=hv (u:=.ins CH dx (aM "members" (.ref U) (aM "ahead" X (aM "parting" (.ref Y) (aM "model" (.ref Z) []))))) (s5 _ _ p4) mP;revert nw b6 a6 p6;generalize upd G5 h (.ins CH dx (aM "members" (.ref U) (aM "ahead" X (aM "parting" (.ref Y) (aM "model" (.ref Z) [])))))=G6;intro nw b6 a6 p6;clear y s5 M4;refine cB fun _ r=>{_,Z9,h,CH,dx,_,_,Z9,a6,J.cl,J.nB,Z9,U,_,Z9,nw.dk,fun nl mH=>?_};have sn:=az mH (.l ((mX W xs).map fun x=>kV x.1));have gn:=eU mH (.l ((mX W xs).map fun x=>kV x.1));rw[vX nw.ln]at sn gn;rw[vX nw.ln];have aR:=sn _ _ a6;have nu:=nw.same sn;have pR:=sn _ _ p6;have bR:But h H (upd G6 nl (.l (W.map V.int))):=fun c o e n=>sn _ _ (b6 _ _ e n);revert aR nu pR bR gn;generalize upd G6 nl (.l (W.map V.int))=Hr;intro gn aR nu pR bR;clear sn mH nw a6 b6 p6;refine{nl,W,Z9,gn,mL,fun G7 M rk s7 ns lz lP mD=>{_,Z9,h,CH,dx,_,Z9,s7 _ _ aR,J.cl,J.nR,by omega,r _ _ ?_}};have f5:(aM "roads" (.ref M) (aM "members" (.ref U) (aM "ahead" X (aM "parting" (.ref Y) (aM "model" (.ref Z) [])))):List (Str×V)).length<=5:=D _ _ _ 4 f4;have nR:Hr h≠Z7:=fun z=>by
  rw[aR]at z
  cases z
 have I7:HiS CP CR CC h Y U M pt W xs (fun _=>[]) rk H G4 Hr G7:=⟨fun c o e n=>s7 _ _ (bR _ _ e n),s7 _ _ pR,nu.same s7,lz,fun q hq=>by
  obtain⟨⟨a',hO,l',u',e',nf,lb,kc⟩,a,hG,l,u,e,g1,g2,g3,g4⟩:=lP q hq;rw[e']at e
  cases e;rw[nf]at g1;have g1:=cv g1;injection g1 with _ g1 nf;have r1:(rF l' u').lookup ("letters":Str)=(rF l u).lookup ("letters":Str):=by rw[nf]
  have r2:(rF l' u').lookup ("unheard":Str)=(rF l u).lookup ("unheard":Str):=by rw[nf]
  have r1:Z8 (V.ref l')=Z8 (V.ref l):=r1;have r2:Z8 (V.ref u')=Z8 (V.ref u):=r2
  cases r1
  cases r2;exact{a',hO,l',u',e',by assumption,lb,kc,g2,g3,g4}⟩
 have a7:=s7 _ _ aR;have I8:=I7.keep (G':=upd G7 h (.ins CH dx (aM "roads" (.ref M) (aM "members" (.ref U) (aM "ahead" X (aM "parting" (.ref Y) (aM "model" (.ref Z) []))))))) (But.upd _ _ _) a7 n4 nR ns;have a8:upd G7 h (.ins CH dx (aM "roads" (.ref M) (aM "members" (.ref U) (aM "ahead" X (aM "parting" (.ref Y) (aM "model" (.ref Z) [])))))) h=Z8 (.ins CH dx (aM "roads" (.ref M) (aM "members" (.ref U) (aM "ahead" X (aM "parting" (.ref Y) (aM "model" (.ref Z) [])))))):=ai;have r8:cA Hr G7:=s7;revert I8 a8;have k8:But h Hr (upd G7 h (.ins CH dx (aM "roads" (.ref M) (aM "members" (.ref U) (aM "ahead" X (aM "parting" (.ref Y) (aM "model" (.ref Z) []))))))):=fun c o e n=>hv (s7 _ _ e) n;revert k8;generalize upd G7 h (.ins CH dx (aM "roads" (.ref M) (aM "members" (.ref U) (aM "ahead" X (aM "parting" (.ref Y) (aM "model" (.ref Z) []))))))=G8;intro k8 I8 a8;clear I7 a7 r8 lP lz s7;refine cB fun _ r=>{aO _,fun L nt=>{_,Z9,h,CH,dx,_,Z9,(az nt _) _ _ a8,J.cl,J.nC,by omega,r _ _ ?_}};have f6:(aM "certain" (.ref L) (aM "roads" (.ref M) (aM "members" (.ref U) (aM "ahead" X (aM "parting" (.ref Y) (aM "model" (.ref Z) []))))):List (Str×V)).length<=6:=D _ _ _ 5 f5;refine cB fun _ r=>{_,Z9,h,CH,dx,_,Z9,ai,J.cl,J.nE,by omega,r _ _ ?_};have f7:(aM "ending" .non (aM "certain" (.ref L) (aM "roads" (.ref M) (aM "members" (.ref U) (aM "ahead" X (aM "parting" (.ref Y) (aM "model" (.ref Z) [])))))):List (Str×V)).length<=7:=D _ _ _ 6 f6;refine cB fun _ r=>{_,Z9,h,CH,dx,_,Z9,ai,J.cl,J.nK,by omega,r _ _ ?_};have f8:=D "back_count" (.int 0) _ 7 f7;obtain⟨lh,na⟩:=i4 k8 a8 nt;have b9:But h G8 (upd (upd (upd (upd G8 L (.l [])) h (.ins CH dx (aM "certain" (.ref L) (aM "roads" (.ref M) (aM "members" (.ref U) (aM "ahead" X (aM "parting" (.ref Y) (aM "model" (.ref Z) [])))))))) h (.ins CH dx (aM "ending" .non (aM "certain" (.ref L) (aM "roads" (.ref M) (aM "members" (.ref U) (aM "ahead" X (aM "parting" (.ref Y) (aM "model" (.ref Z) []))))))))) h (.ins CH dx (hF (.ref Z) (.ref Y) (.ref U) (.ref M) (.ref L) X .non))):=fun c o e n=>hv (hv (hv ((az nt _) _ _ e) n) n) n;have a9:(upd (upd (upd (upd G8 L (.l [])) h (.ins CH dx (aM "certain" (.ref L) (aM "roads" (.ref M) (aM "members" (.ref U) (aM "ahead" X (aM "parting" (.ref Y) (aM "model" (.ref Z) [])))))))) h (.ins CH dx (aM "ending" .non (aM "certain" (.ref L) (aM "roads" (.ref M) (aM "members" (.ref U) (aM "ahead" X (aM "parting" (.ref Y) (aM "model" (.ref Z) []))))))))) h (.ins CH dx (hF (.ref Z) (.ref Y) (.ref U) (.ref M) (.ref L) X .non))) h=Z8 (.ins CH dx (hF (.ref Z) (.ref Y) (.ref U) (.ref M) (.ref L) X .non)):=ai;have c9:(upd (upd (upd (upd G8 L (.l [])) h (.ins CH dx (aM "certain" (.ref L) (aM "roads" (.ref M) (aM "members" (.ref U) (aM "ahead" X (aM "parting" (.ref Y) (aM "model" (.ref Z) [])))))))) h (.ins CH dx (aM "ending" .non (aM "certain" (.ref L) (aM "roads" (.ref M) (aM "members" (.ref U) (aM "ahead" X (aM "parting" (.ref Y) (aM "model" (.ref Z) []))))))))) h (.ins CH dx (hF (.ref Z) (.ref Y) (.ref U) (.ref M) (.ref L) X .non))) L=Z8 (.l []):=hv (hv (hv ai na) na) na;have hQ:(hF (.ref Z) (.ref Y) (.ref U) (.ref M) (.ref L) X .non).length<1000:=dS f8 (by decide);show En _ _ _ _ (upd (upd (upd (upd G8 L (.l [])) h (.ins CH dx (aM "certain" (.ref L) (aM "roads" (.ref M) (aM "members" (.ref U) (aM "ahead" X (aM "parting" (.ref Y) (aM "model" (.ref Z) [])))))))) h (.ins CH dx (aM "ending" .non (aM "certain" (.ref L) (aM "roads" (.ref M) (aM "members" (.ref U) (aM "ahead" X (aM "parting" (.ref Y) (aM "model" (.ref Z) []))))))))) h (.ins CH dx (hF (.ref Z) (.ref Y) (.ref U) (.ref M) (.ref L) X .non)));revert b9 a9 c9;generalize upd (upd (upd (upd G8 L (.l [])) h (.ins CH dx (aM "certain" (.ref L) (aM "roads" (.ref M) (aM "members" (.ref U) (aM "ahead" X (aM "parting" (.ref Y) (aM "model" (.ref Z) [])))))))) h (.ins CH dx (aM "ending" .non (aM "certain" (.ref L) (aM "roads" (.ref M) (aM "members" (.ref U) (aM "ahead" X (aM "parting" (.ref Y) (aM "model" (.ref Z) []))))))))) h (.ins CH dx (hF (.ref Z) (.ref Y) (.ref U) (.ref M) (.ref L) X .non))=G9;intro b9 a9 c9;have I9:=I8.keep b9 a8 n4 nR ns;have k9:But h Hr G9:=fun c o e n=>b9 _ _ (k8 _ _ e n) n;clear f1 f2 f3 f4 f5 f6 f7 f8 D I8 a8 k8 b9 nt;have ku:sg≠h:=cQ mc h1 nofun;have mt:bM (mj G9) mR es:=Paired.mono (fun v e ⟨t,e1,e2⟩=>{t,e1,I9.b _ _ e2 (cQ e2 h1 nofun)}) kF;refine cB fun _ r=>{_,Z9,sg,mR,es,Z9,I9.b _ _ mc ku,mt,by omega,fun lr yl ys mN kb ma ly hy=>{yl,Z9,{_,SqL.of ma},?_}};obtain⟨ky,hL⟩:=i4 k9 a9 kb;have nq:=I9.keep (G':=lr) (fun c o e _=>mN _ _ e) a9 n4 nR ns;have a10:=mN _ _ a9;have ii:=mN _ _ c9;have nd:=DX ki n5 (by rw[ll];exact ls);have lu:W.Nodup:=up.imp fun h=>by omega
 have lp:∀x∈xs,Hr x.d≠Z7/\Hr x.q≠Z7:=fun x hx=>by
  obtain⟨i,hi⟩:=cP hx;have li:i<W.length:=by
   rw[<- nu.ln];exact (ay.mp hi).1
  obtain⟨kvs,⟨_,_,_,_,c2,c3,c4,_⟩,_⟩:=(nu.pt i x _ hi (aA li)).hc;exact{(fun z=>by rw[c2]at z;cases z),fun z=>by rw[c4]at z;cases z}
 have nr:∀{b},G4 b≠Z7->b∉xs.flatMap fun x=>[x.d,x.q]:=fun {b} nb z=>by
  obtain⟨x,hx,z⟩:=gT.mp z;simp only[aD,aX,or_false]at z
  rcases z with rfl|rfl
  ·exact nb (nu.fr x hx _ (by simp[Pa.all]))
  ·exact nb (nu.fr x hx _ (by simp[Pa.all]))
 have I:∀{b},Hr b=Z7->b∉xs.flatMap fun x=>[x.d,x.q]:=fun {b} nb z=>by
  obtain⟨x,hx,z⟩:=gT.mp z;simp only[aD,aX,or_false]at z
  rcases z with rfl|rfl
  ·exact (lp x hx).1 nb
  ·exact (lp x hx).2 nb
 have la:G4 Y≠Z7:=fun z=>by
  rw[p4]at z
  cases z
 refine iM (K:=K) (a:=yl) (xs:=ys) (fun i σ G=>∃u5:Option V,σ=[Z8 (.ref h),Z8 (.ref m),Z8 (.ref sg),Z8 (.ref pl),Z8 X,u5]/\jq (xs.flatMap fun x=>[x.d,x.q]) lr G/\Pts CP CC G4 G U W xs fun n=>pnd pt ((evs es).take i) n) {_,Z9,jq.refl _ _,nq.ps} ?_ ?_ ?_
 ·rintro i σ G _ ⟨_,rfl,st,_⟩;exact SqL.of (st.keep _ _ ma (I ky))
 ·rintro zN zB zH i v σ G hi ⟨u5,rfl,st,y⟩;have li:i<es.length:=by
   have:=(ay.mp hi).1;omega
  have he:=aA li;have hE:(evs es)[i]?=Z8 (atP es[i] i):=by
   unfold evs;rw[pj,he];rfl
  obtain⟨t,kk,rfl,e1,e2⟩:=hy i v _ hi he;have mE:=aK hE;obtain⟨n,hn⟩:=nd.to _ mE;have t0:=(ls _ (aK he)).1;have t0:0<=(atP es[i] i).to:=t0;revert e1 e2 hE mE hn t0;generalize atP es[i] i=e;intro hE e1 e2 mE hn t0;obtain⟨j,hj⟩:=cP ((mem n).mpr (aK hn));have lj:j<xs.length:=by
   rw[y.ln];exact (ay.mp hj).1
  obtain⟨x,hx⟩:∃x,xs[j]?=Z8 x:={_,aA lj};have mx:=aK hx;have hp:=y.pt j x n hx hj;obtain⟨⟨hR,md,g1⟩,_⟩:=id hp;have hh:=st.keep _ _ a10 (nr n4);have ni:e.key∉pnd pt ((evs es).take i) n:=fun z=>by
   obtain⟨e',m',z⟩:=bY.mp z;obtain⟨j',mG⟩:=cP (eQ.mp m').1;have hN:j'<i:=by
    have:=(ay.mp mG).1;rw[dB]at this;omega
   rw[mn hN]at mG;have q1:((evs es).map Ev.key)[j']?=Z8 e.key:=by rw[bD,mG,<- z];rfl
   have q2:((evs es).map Ev.key)[i]?=Z8 e.key:=by rw[bD,hE];rfl
   have:=(mm (ay.mp q1).1 nd.kn).mp (q1.trans q2.symm);omega
  have lk:(pnd pt ((evs es).take i) n).length<=1000:=by
   unfold pnd;rw[ak];have:=oW (fun e=>decide (pt[e.to.toNat]?=Z8 n)) ((evs es).take i);rw[dB]at this;have:=nd.le;omega
  refine bK {_,Z9,h,CH,dx,_,_,Z9,hh,J.cl,J.nB,Z9,_,Z9,h,CH,dx,_,_,Z9,hh,J.cl,J.nP,Z9,_,Z9,t,_,_,_,Z9,Z9,SqT.of (st.tup _ _ e1),(show atI _ 1=Z8 (.int e.to) from cI (j:=1) rfl),Y,_,_,_,Z9,Z9,SqL.of (st.keep _ _ nq.pl (nr la)),(by have z:=cI (xs:=pt.map V.int) (j:=e.to.toNat) (v:=.int n) (by rw[bD,hn];rfl);rwa[iG t0]at z),U,.ref x.a,Z9,(by have z:=oZ.k (k:=Sum.inl n) y.dk;rw[zi lu hj hx]at z;exact z),x.a,hR,_,Z9,g1,Z9,_,Z9,.ref t,e,x,_,Z9,hp,{t,kk,Z9,st.tup _ _ e1,st.tup _ _ e2},ni,lk,fun G' kv mo=>zH _ _ _ {_,Z9,st.trans (mo.mono fun b hb=>?_),?_}}
  ·exact gT.mpr ⟨x,mx,hb⟩
  ·refine y.aw hx hj lu ?_ mo fun n' nn=>?_
   ·rw[xT hE,Q6 hn];exact kv
   ·rw[xT hE,Q5 (fun z=>nn (by rw[hn]at z;exact (cv z).symm)),eB]
 rintro σ G ⟨u5,rfl,st,y⟩;refine r _ _ ?_;have ko:ys.length=(evs es).length:=by
  unfold evs;rw[lO];exact ly
 rw[ko,eX]at y;have hh:=st.keep _ _ a10 (nr n4);have hrd:=st.keep _ _ nq.rd (I ns);have nt:=st.keep _ _ ii (I lh);have lM:∀q∈rk,∃a dx l u,q.2=.ref a/\G a=Z8 (.ins CR dx (rF l u))/\G l=Z8 (.l [])/\G u=Z8 (.l [])/\Hr a=Z7/\Hr l=Z7/\Hr u=Z7:=fun q hq=>by
  obtain⟨a,dx,l,u,e,g1,g2,g3,g4,g5,g6⟩:=nq.rr q hq;exact{a,dx,l,u,e,st.keep _ _ g1 (I g4),st.keep _ _ g2 (I g5),st.keep _ _ g3 (I g6),g4,g5,g6}
 have hH:HaI CH CP CR CC (evs es) pt X .non G h:=⟨dx,U,M,L,_,W,mX W xs,rk,hh,Ht _ _ _ _ _ _ _,y.dk,qR (R:=fun v n=>PtA CP CC G v (pnd pt (evs es) n)) y.ln (fun i x n e1 e2=>(y.pt i x n e1 e2).pta),up,mem,mL,hrd,(fun q hq=>by
  obtain⟨a,dx,l,u,e,g1,g2,g3,_⟩:=lM q hq;exact⟨a,dx,l,u,e,g1,g2,g3⟩),mD,nt⟩
 refine{_,Z9,h,dx,_,Z9,hh,Z9,h,dx,U,M,L,_,evs es,pt,X,Z9,hH,hh,Ht _ _ _ _ _ _ _,hQ,nd,fun G' fs' en b' h' lc he=>k G' en (fun c o e n=>b' _ _ (st.keep _ _ (nq.b _ _ e n) fun z=>?_) n) ?_ ?_}
 ·obtain⟨x,hx,z⟩:=gT.mp z;simp only[aD,aX,or_false]at z;have q:∀a∈x.all,H a=Z7:=fun a ha=>(i4 b4 a4 (y.fr x hx a ha)).1
  rcases z with rfl|rfl
  ·rw[q x.d (by simp[Pa.all])]at e
   cases e
  ·rw[q x.q (by simp[Pa.all])]at e
   cases e
 ·have mu:=y.far b' hh nofun n4;have fr:∀{b},Hr b=Z7->H b=Z7/\b≠h:=fun z=>i4 bR aR z;refine{dx,U,M,L,fs',W,mX W xs,rk,nh_at h',lc,kM (i4 b4 a4 y.fm).1 mu.dk,qR (R:=fun v n=>PtA CP CC (Nh h H G') v (pnd pt (evs es) n)) y.ln (fun i x n e1 e2=>(mu.pt i x n e1 e2).nh fun a ha=>(i4 b4 a4 (y.fr x (aK e1) a ha)).1),up,mem,mL,kM (fr ns).1 (b' _ _ hrd (fr ns).2),fun q hq=>?_,mD,kM (fr lh).1 (b' _ _ nt na)};obtain⟨a,dx,l,u,e,g1,g2,g3,g4,g5,g6⟩:=lM q hq;exact{a,dx,l,u,e,kM (fr g4).1 (b' _ _ g1 (fr g4).2),kM (fr g5).1 (b' _ _ g2 (fr g5).2),kM (fr g6).1 (b' _ _ g3 (fr g6).2)}
 ·rcases he with⟨a,t,e,z⟩|z
  ·exact .inl {a,t,e,DV z}
  ·exact .inr z
end
end _M
namespace _L
open PySem PySem.Spec PyProof.Rows
section
variable{X:Cx}{tg:cH}
end
section
variable{X:Cx}
end
section
variable{X:Cx}
end
def DY(d:ab)(Z:Obj)(kvs:List (List Key×V)):It:=
 {fun i H=>H d=Z8 (.frz Z (.dT kvs))/\i<kvs.length,fun i H x H'=>H'=H/\∃k Y,kvs[i]?=Z8 Y/\x=.ref k/\H k=Z8 (.t (Y.1.map kV)),fun i H=>H d=Z8 (.frz Z (.dT kvs))/\kvs.length<=i}
section
variable{P:aP}{w:bF}{K:ag}
theorem zp{tg:cH}(d it:ab)(q:Obj)(kvs:List (List Key×V))(bt:d≠it):tM P w K tg (DY d q kvs) [it] it (fun i h=>h.IsKeyIter it d i kvs.length (qJ q)/\i<=kvs.length) where
 mem:=by simp
 obj:=fun i h st b hb=>by
  have e:b=it:=by simpa using hb
  subst e;obtain⟨⟨o,e,c,d⟩,_⟩:=st;exact{o,e,fun v z=>by rw[d]at z;cases z}
 keep:=fun i h h' st k=>{st.1.at fun o e=>k it (by simp) o e,st.2}
 item:=by
  intro X L hw B hc i pins s σ H E I U st O;subst L hw B;obtain⟨M,hi⟩:=O;obtain⟨es,r,sz,at_⟩:=kU I M;have W:kvs[i]?=Z8 kvs[i]:=aA hi;obtain⟨en,k,f,g,hk,rv⟩:=at_ i _ W;obtain⟨D,f1,f2,t,y,J⟩:=U it (by simp);rw[<- sz]at st;refine AL st.1 r f fun h' Z sb=>?_;have I1:Inv X pins σ H {s with heap:=h'}:=I.turned (t':=s.toks) (fun b o hb e=>sb.extBut b o hb e) D f1 t y J;obtain⟨o,e,c,dd⟩:=id Z;exact{_,Z9,uj (s:={s with heap:=h'}) e c dd (by decide) {.ref k,H,I1,by rw[g];rfl,{Z9,k,_,W,Z9,hk},{by rw[<- sz];exact Z,hi},fun b hb=>(U b hb).1}}
 done:=by
  intro X L hw B hc i pins s σ H E I U st O;subst L hw B;obtain⟨M,hi⟩:=O;obtain⟨es,r,sz,at_⟩:=kU I M;obtain⟨D,f1,f2,t,y,J⟩:=U it (by simp);have Y:=st.1;rw[<- sz]at Y;exact Cd (I.ok.hd hc) Y r (fg (by omega)) fun h' eb=>{Z9,I.turned (t':=s.toks) (fun b o hb e=>eb b o hb e) D f1 t y J}
 self:=fun _ _ _ _ _ st h=>wpAny_pyIter_keyiter st.1 h
end
section
variable{X:Cx}{o:cH}{to:TE}{tg:cH}
def Jf(X:Cx)(to:TE):TI:=fun σ H R=>to σ H fun x H1=>∃d kvs,x=.ref d/\H1 d=Z8 (.dT kvs)/\(∀Y u,X.H₀ d≠Z8 (.frz Y u))/\∀Z,R (DY d Z kvs) (upd H1 d (.frz Z (.dT kvs)))
theorem DZ(J:PE X o to):PI X tg o (Jf X to):=by
 intro pins s σ H R I h;refine thn (J pins s σ H _ I h) fun v U ⟨x,H1,V,L,d,kvs,ex,W,D,q⟩=>?_;subst ex
 cases L;obtain⟨hz,M,ws,f,y,es,ep,r,g,t,_⟩:=(show gE X.prog X.w H1 U.heap d (.dT kvs) from V.hok d _ W);obtain⟨Y,O,Z⟩:=V.freezeT W D;obtain⟨z,B,sz,_⟩:=kU Z (ai:upd H1 d (.frz Y (.dT kvs)) d=_);refine AK M B ?_;have lt:=aI O;refine{_,[_],_,_,_,Z9,Z.kept (t':=U.toks) fun b y q=>aq _ q,zp d _ Y kvs (aG lt),?_,fun b hb=>?_,q Y}
 ·refine{?_,aO _};rw[<- sz];exact{_,aE _ rfl,Z9,Z9}
 ·have e:b=_:=aH.mp hb;subst e;exact Z.fpOk (aB _) (Z.hok.fresh (aB _))
end
theorem zt{d:ab}{Y:Obj}{g:TG}{tb:TS}{D:jW}{σ:St}{H:Hp}(O:H d=Z8 (.frz Y (.dT [])))(U:D.nx σ H) :
  ∃W:Nat->Nat->St->Hp->Prop,(∃m,W 0 m σ H)/\∀i m σ H,W i m σ H ->
   ((DY d Y []).stop i H/\D.nx σ H)\/((DY d Y []).go i H/\∃N:St->Hp->Prop,(∀Z H',N Z H'->∃V,V<m/\W (i+1) V Z H')/\∀x H',(DY d Y []).yld i H x H'->g x σ H' fun X H2=>tb {D with nx:=N,ct:=N,bk:=D.nx} X H2):=
 ⟨fun i _ Z H'=>i=0/\Z=σ/\H'=H,{0,Z9,Z9,Z9},fun i m Z H' h=>by
  obtain⟨rfl,rfl,rfl⟩:=h;exact .inl {{O,aB _},U}⟩
theorem D0{K:ag}{a:ab}{xs:List V}{g:TG}{tb:TS}{D:jW}{σ:St}{H:Hp}(Z:Nat->St->Hp->Prop)(h0:Z 0 σ H)(I:∀i σ H,i<=xs.length->Z i σ H->SqL K H a xs)
  (hs:∀i x t σ H,xs[i]?=Z8 x->Z i σ H->H t=Z7->g (.ref t) σ (upd H t (.t [.int i,x])) fun X H2=>tb {D with nx:=Z (i+1),ct:=Z (i+1),bk:=D.nx} X H2) (M:∀σ H,Z xs.length σ H->D.nx σ H) :
  ∃W:Nat->Nat->St->Hp->Prop,(∃m,W 0 m σ H)/\∀i m σ H,W i m σ H ->
   ((Ite K a).stop i H/\D.nx σ H)\/((Ite K a).go i H/\∃N:St->Hp->Prop,(∀Y H',N Y H'->∃O,O<m/\W (i+1) O Y H')/\∀x H',(Ite K a).yld i H x H'->g x σ H' fun X H2=>tb {D with nx:=N,ct:=N,bk:=D.nx} X H2):=by
 refine{fun i m σ H=>m=xs.length-i/\i<=xs.length/\Z i σ H,{xs.length,by simp,aO _,h0},?_};rintro i m σ H ⟨rfl,hi,p⟩;have q:=I i σ H hi p
 by_cases U:i<xs.length
 ·refine .inr {{xs,xs[i],q,by simp[U]},Z (i+1),fun Y H' J=>{xs.length-(i+1),by lia,Z9,U,J},fun x H' y=>?_};obtain⟨t,v,rfl,L,hv,rfl⟩:=y;exact hs i v t σ H (hv xs q) p L
 ·have e:i=xs.length:=by lia
  subst e;exact .inl {{xs,q,aB _},M σ H p}
theorem qS{K:ag}{a:ab}{xs:List V}{g:TG}{tb:TS}{D:jW}{σ:St}{H:Hp}(Y:Nat->St->Hp->Prop)(h0:Y 0 σ H)(M:∀i σ H,i<=xs.length->Y i σ H->SqL K H a xs)
  (hs:∀(N:Nat->St->Hp->Prop) (B:St->Hp->Prop),(∀i σ H,Y i σ H->N i σ H)->∀i x t σ H,xs[i]?=Z8 x->Y i σ H->H t=Z7->g (.ref t) σ (upd H t (.t [.int i,x])) fun Z H2=>tb {D with nx:=N (i+1),ct:=N (i+1),bk:=B} Z H2) (O:∀σ H,Y xs.length σ H->D.nx σ H) :
  ∃W:Nat->Nat->St->Hp->Prop,(∃m,W 0 m σ H)/\∀i m σ H,W i m σ H ->
   ((Ite K a).stop i H/\D.nx σ H)\/((Ite K a).go i H/\∃N:St->Hp->Prop,(∀X H',N X H'->∃U,U<m/\W (i+1) U X H')/\∀x H',(Ite K a).yld i H x H'->g x σ H' fun Z H2=>tb {D with nx:=N,ct:=N,bk:=D.nx} Z H2):=D0 Y h0 M (hs Y D.nx fun _ _ _ z=>z) O
end _L
namespace _M
open PySem _L
theorem vc{n:Nat}{X:TE}{g:TG}{tc:_L.TT}{te:TE}{σ:St}{H:Hp}{Q:VK}(P:Nat->Hp->Prop)(hi:∀R:VK,(∀(m:Nat) (H1:Hp),P m H1->R (.int m) H1)->X σ H R)(hb:∀m H1,P m H1->m<1000)(Y:Nat->Hp->Nat->List V->Hp->Prop)(h0:∀m H1,P m H1->Y m H1 0 [] H1)(O:∀m H1,P m H1->∀i ys H,i<=m->Y m H1 i ys H->ys.length<aF)
  (hs:∀m H1,P m H1->∀i ys H,i<m->Y m H1 i ys H->g (.int (0+i)) (aQ n Z7++σ) H fun Z H2=>Z.drop n=σ/\tc Z H2 fun b W=>if b=true then te Z W fun y M=>Y m H1 (i+1) (ys++[y]) M else Y m H1 (i+1) ys W)
  (U:∀m H1,P m H1->∀ys H,Y m H1 m ys H->∀p,H p=Z7->Q (.ref p) (upd H p (.l ys))):m5 n (BJ (ib X p5)) g tc te σ H Q:=
 hi _ fun m H1 p=>⟨(m:Int),Z9,by have:=hb m H1 p;lia,by have:=hb m H1 p;lia,by
  exact Ci (Y m H1) (h0 m H1 p) (O m H1 p) (hs m H1 p) (U m H1 p)⟩
theorem vY{p:ab}{n:Nat}{te:TE}{σ:St}{H H1:Hp}{Q:VK}(hv:σ[1]?=Z8 (Z8 (.int n)))(t:n<=9)(D:dM H1 p)(M:But p H H1)
  (W:∀(i:Nat) (G:Hp),i<n->dM G p->But p H G->∀R:VK,(∀(x:Int) (G':Hp),0<=x->x<=5->dM G' p->But p H G'->R (.int x) G')->te (Z8 (.int i)::σ) G R)
  (k:∀(l:ab) (pt:List Int) (G:Hp),H l=Z7->G l=Z8 (.l (pt.map V.int))->pt.length=n->(∀x∈pt,0<=x/\x<=5)->dM G p->But p H G->Q (.ref l) G):m5 1 (BJ (ib (lV 1) p5)) (pW 0) qe te σ H1 Q:=by
 have big:=ef;refine vc (fun m G=>m=n/\G=H1) (fun R J=>{_,hv,J n _ ⟨Z9,Z9⟩}) (fun m G h=>by omega) (fun m r i ys G=>∃pt:List Int,ys=pt.map V.int/\pt.length=i/\(∀x∈pt,0<=x/\x<=5)/\dM G p/\But p H G) ?_ ?_ ?_ ?_
 ·rintro m G ⟨rfl,rfl⟩;exact{[],Z9,Z9,(fun x h=>by cases h),D,M}
 ·rintro m G ⟨rfl,rfl⟩ i ys G' hi ⟨pt,rfl,l,_⟩;rw[ak];omega
 ·rintro m G ⟨rfl,rfl⟩ i ys G' hi ⟨pt,rfl,l,h,Z,Y⟩;refine bK {Z9,?_};unfold qe;refine iq ?_;rw[zj];refine W i G' hi Z Y _ fun x g B O X I=>{pt++[x],by rw[cq];rfl,by rw[aL,l];rfl,fun y hy=>?_,X,I}
  rcases cj.mp hy with z|z
  ·exact h y z
  ·rw[aH.mp z];exact⟨B,O⟩
 ·rintro m G ⟨rfl,rfl⟩ ys G' ⟨pt,rfl,l,h,Z,Y⟩ q hq;have U:=az hq (.l (pt.map V.int));have L:H q=Z7:=by
   obtain⟨x,y,e⟩:=Z;exact (i4 Y e hq).1
  exact k q pt _ L ai l h (Z.same U) fun c o e n=>U _ _ (Y _ _ e n)
structure Ow where
 a:ab
 d:ab
 q:ab
 e:ab
def xU(pt:List Int)(es:List Ev)(n:Nat):List Ev:=es.filter fun e=>decide (pt[e.to.toNat]?=Z8 (n:Int))
theorem Ea(pt:List Int)(es:List Ev)(n:Nat):(xU pt es n).map Ev.key=pnd pt es n:=rfl
structure OwG(F:Hp)(x:Ow)(es:List Ev):Prop where
 ha:F x.a=Z8 (.l [.ref x.d,.ref x.q,.ref x.e])
 he:F x.e=Z8 (.l [])
 hq:∃vs,F x.q=Z8 (.l vs)/\bM (oJ F) vs es
theorem OwG.same{F G:Hp}(s:cA F G){x:Ow}{es:List Ev}(h:OwG F x es):OwG G x es:=by
 obtain⟨h1,h2,vs,Y,Z⟩:=h;exact{s _ _ h1,s _ _ h2,vs,s _ _ Y,Paired.mono (fun _ _ z=>oJ.same s z) Z}
structure Ows(H G:Hp)(pl:ab)(xs:List Ow)(n:Nat)(f:Nat->List Ev):Prop where
 ln:xs.length=n
 ow:∀(i:Nat) (x:Ow),xs[i]?=Z8 x->OwG G x (f i)
 fr:∀x∈xs,∀a∈[x.a,x.d,x.q,x.e],H a=Z7
 hd:∀x∈xs,∃ss,G x.d=Z8 (.dK ss)
 ap:∀(i j:Nat) (x y:Ow),xs[i]?=Z8 x->xs[j]?=Z8 y->y.a≠x.q/\y.e≠x.q/\(i≠j->y.q≠x.q)
 np:∀x∈xs,x.q≠pl
theorem Ows.same{H G G':Hp}{Z:ab}{xs:List Ow}{n:Nat}{f:Nat->List Ev}(s:cA G G')(h:Ows H G Z xs n f):Ows H G' Z xs n f:=
 {h.ln,fun i x e=>(h.ow i x e).same s,h.fr,fun x m=>(h.hd x m).elim fun Y z=>{Y,s _ _ z},h.ap,h.np}
theorem Ows.put{H G:Hp}{X:ab}{xs:List Ow}{n:Nat}{f:Nat->List Ev}(h:Ows H G X xs n f){d:ab}{M Y:List (Key×V)}(hs:G d=Z8 (.dK M)):Ows H (upd G d (.dK Y)) X xs n f:=by
 have k:∀{a o},G a=Z8 o->(∀x,o≠.dK x)->upd G d (.dK Y) a=Z8 o:=fun e n=>hv e (cQ e hs (n _));refine{h.ln,fun i x e=>?_,h.fr,fun x m=>?_,h.ap,h.np}
 ·obtain⟨h1,h2,vs,J,U⟩:=h.ow i x e;refine{k h1 nofun,k h2 nofun,vs,k J nofun,Paired.mono (fun v e ⟨t,kk,L,W,O⟩=>{t,kk,L,k W nofun,k O nofun}) U}
 ·obtain⟨s',Z⟩:=h.hd x m
  by_cases c:x.d=d
  ·rw[c];exact{_,ai}
  ·exact{s',hv Z c}
theorem Ows.aw{H G:Hp}{D:ab}{xs:List Ow}{n j:Nat}{f O:Nat->List Ev}{x:Ow}{vs:List V}{v:V}{e:Ev}(h:Ows H G D xs n f)(hx:xs[j]?=Z8 x)(hq:G x.q=Z8 (.l vs))(hp:bM (oJ G) vs (f j))(L:oJ G v e)(h1:O j=f j++[e])(h2:∀i,i≠j->O i=f i):Ows H (upd G x.q (.l (vs++[v]))) D xs n O:=by
 have g:∀{v e},oJ G v e->oJ (upd G x.q (.l (vs++[v]))) v e:=fun⟨t,kk,M,Y,X⟩=>{t,kk,M,hv Y (cQ Y hq nofun),hv X (cQ X hq nofun)};have Z:∀{u:V} {e},oJ G u e->oJ (upd G x.q (.l (vs++[v]))) u e:=fun⟨t,kk,M,Y,X⟩=>{t,kk,M,hv Y (cQ Y hq nofun),hv X (cQ X hq nofun)};refine{h.ln,fun i y U=>?_,h.fr,fun y m=>?_,h.ap,h.np}
 ·obtain⟨J,I,us,B,r⟩:=h.ow i y U;obtain⟨a1,a2,a3⟩:=h.ap j i x y hx U
  by_cases c:i=j
  ·subst c;rw[hx]at U
   cases U;refine{hv J a1,hv I a2,_,ai,?_};rw[h1];exact hU (Paired.mono (fun _ _ z=>Z z) hp) (Z L)
  ·rw[h2 i c];exact{hv J a1,hv I a2,us,hv B (a3 (cE c)),Paired.mono (fun _ _ z=>Z z) r}
 ·obtain⟨s',W⟩:=h.hd y m;exact{s',hv W (cQ W hq nofun)}
def OwI(F:Hp)(v:V)(es:List Ev)(pt:List Int):Prop:=∃(o Z Y:ab) (xs:List Ow),v=.ref o/\F o=Z8 (.l [.ref Z,.ref Y,.int 0])/\F Z=Z8 (.l (xs.map fun x=>.ref x.a))/\xs.length=6/\F Y=Z8 (.dT [])/\∀(i:Nat) (x:Ow),xs[i]?=Z8 x->OwG F x (xU pt es i)
theorem OwI.same{F G:Hp}(s:cA F G){v:V}{es:List Ev}{pt:List Int}(h:OwI F v es pt):OwI G v es pt:=by
 obtain⟨o,W,Z,xs,e,h1,h2,U,Y,X⟩:=h;exact{o,W,Z,xs,e,s _ _ h1,s _ _ h2,U,s _ _ Y,fun i x e=>(X i x e).same s}
theorem qT{pt:List Int}{es:List Ev}{i:Nat}{e:Ev}(h:es[i]?=Z8 e)(n:Nat):xU pt (es.take (i+1)) n=xU pt (es.take i) n++(if pt[e.to.toNat]?=Z8 (n:Int) then [e] else []):=by
 unfold xU;rw[eJ,h,qy]
 congr 1
 by_cases c:pt[e.to.toNat]?=Z8 (n:Int)
 ·rw[Q6 c];exact iF (Q3 c)
 ·rw[Q5 c];exact jQ (by rw[Q4 c];decide)
section
variable{P:aP}{w:bF}{K:ag}{mg:Str->Option ae}{base:cz}{f fD fF fFo fSe CM CS:ab}{fd fdD fdF fdFo fdSe:bS}
seal PS PSs PE PA PT PW PI PG PGs PC
abbrev nPg:List Str:=["_law_purse_here","_law_many","_law_way"]
abbrev pPg:List Str:=["_law_purse_here","_law_many"]
theorem scPg:bU nPg pPg (aS hZ):=fK
theorem ndPg:((["_law_at"]:List Str)++nPg).Nodup:=by decide +kernel
theorem ndPg2:((["_law_at"]:List Str)++nPg).Nodup:=by decide +kernel
theorem ndPg3:((["_law_at"]:List Str)++nPg).Nodup:=by decide +kernel
inductive Hv(vs:List V)(H:Hp)(Q:VK)(_e:XK):Prop where
 |mk(p:ab)(n:Nat)(_:vs=[.ref p,.int n])(_:dM H p)(_:n<=9)(_:∀(l:ab) (pt:List Int) (G:Hp),H l=Z7->G l=Z8 (.l (pt.map V.int))->pt.length=n->(∀x∈pt,0<=x/\x<=5)->dM G p->But p H G->Q (.ref l) G):Hv vs H Q _e
def spPg:Sp:=fun vs H Q Z=>Hv vs H Q Z
theorem ok_pg(D:Df K mg "_law_parting" hZ pPg f fd)(U:Df K mg "_law_draw" eE ["_law_purse_here","_law_out_of"] fD fdD)(B:Bl mg):bO P w K mg base CX0 2 f fd pPg spPg:=by
 have O:bO P w K mg base CX0 1 fD fdD ["_law_purse_here","_law_out_of"] jM:=jN U;refine D.F.ok scPg (fun vs H Q E h=>?_) (fun d A outer s H vs Q E q h=>?_)
 ·obtain⟨p,n,rfl,_⟩:=h;rfl
 obtain⟨p,n,rfl,X,L,k⟩:=h;have J:dC 1 _:=q;refine⟨_,ax (vo (i:=2) scPg.nd rfl (Or.inr rfl) (pcl O J U (aT (pv 0) (cR au ao))))
  (ax (dW (cG iS (pv 2) au) (aJ (bT (ij ["_law_at"] (fq.open (NN:=nPg) (N:=nPg) (sc:=aS hZ) rfl rfl (by decide +kernel) rfl (by decide +kernel) (by decide +kernel) rfl (by decide +kernel)) rfl (gG (by rfl) B.range (aT (pv 1) ao)) (fun _ _ _ _=>eZ (i:=0) ndPg rfl (Or.inl rfl)) (fun _ _ _ _=>gP) (fun _ _ _ _=>pcl O J U (aT (pv 1) (cR au ao)))))) cD)
  (ax (dW (cG iS (pv 2) au) (aJ (bT (ij ["_law_at"] (fq.open (NN:=nPg) (N:=nPg) (sc:=aS hZ) rfl rfl (by decide +kernel) rfl (by decide +kernel) (by decide +kernel) rfl (by decide +kernel)) rfl (gG (by rfl) B.range (aT (pv 1) ao)) (fun _ _ _ _=>eZ (i:=0) ndPg2 rfl (Or.inl rfl)) (fun _ _ _ _=>gP) (fun _ _ _ _=>cV jX au (cV oe (pv 0) au))))) cD)
  (aJ (bT (ij ["_law_at"] (fq.open (NN:=nPg) (N:=nPg) (sc:=aS hZ) rfl rfl (by decide +kernel) rfl (by decide +kernel) (by decide +kernel) rfl (by decide +kernel)) rfl (gG (by rfl) B.range (aT (pv 1) ao)) (fun _ _ _ _=>eZ (i:=0) ndPg3 rfl (Or.inl rfl)) (fun _ _ _ _=>gP) (fun _ _ _ _=>pcl O J U (aT (pv 1) (mU (cV il au (pv 3)) ao)))))))),?_⟩
 refine cB fun _ V=>cS {_,Z9,p,4,Z9,X,by decide,by decide,fun y G1 w1 w2 Y M=>gk V ?_};refine cB fun _ V=>ic {_,Z9,Z9,_,Z9,?_}
 by_cases t:y=0
 ·refine lS (b:=true) (by subst t;rfl) (iq (gF ?_));refine vY rfl L Y M (fun i G _ X b R W=>{_,Z9,p,6,Z9,X,by decide,by decide,fun x G' I g Z z=>W x G' I (by omega) Z (b.trans z)}) k
 refine lS (b:=false) (by simp[t]) (gm (V _ _ ?_));refine cB fun _ V=>ic {_,Z9,Z9,_,Z9,?_}
 by_cases r:y=1
 ·refine lS (b:=true) (by subst r;rfl) (iq (gF ?_));refine vY rfl L Y M (fun i G _ X b R W=>{_,Z9,_,_,Z9,Z9,(by show (0:Int)<6;decide),_,_,Z9,Z9,W _ G (by omega) (by omega) X b}) k
 refine lS (b:=false) (by simp[r]) (gm (V _ _ (gF ?_)));refine vY rfl L Y M (fun i G _ X b R W=>{_,Z9,_,Z9,_,_,Z9,Z9,p,_,Z9,X,by omega,by omega,fun x G' I g Z z=>W x G' I (by omega) Z (b.trans z)}) k
abbrev nOh:List Str:=["_law_model_here","_law_signs_here","_law_parting_here","_law_parts","_law_at","_law_number","_law_count","_law_sign"]
abbrev pOh:List Str:=["_law_model_here","_law_signs_here","_law_parting_here"]
theorem Bj:bU nOh pOh (aS lD):=fK
abbrev nnOh:List Str:=["_law_model_here","_law_signs_here","_law_parting_here","_law_parts","_law_at","-","_law_count","_law_sign"]
theorem ndOh:((["_law_number"]:List Str)++nnOh).Nodup:=by decide +kernel
inductive Hw(CM:ab)(vs:List V)(H:Hp)(Q:VK)(_e:XK):Prop where
 |mk(m sg pl0:ab)(Ms:List MD)(svs:List V)(es:List Ev)(pt:List Int)(_:vs=[.ref m,.ref sg,.ref pl0])(_:Ja CM Ms H m)(_:Ms.length<=9)(_:H sg=Z8 (.l svs))(_:bM (mj H) svs es)(_:(∀e∈es,0<=e.to/\e.to<(Ms.length:Int)))(_:es.length<=20)(_:H pl0=Z8 (.l (pt.map V.int)))(_:pt.length=Ms.length)(_:(∀n∈pt,0<=n/\n<=5))(_:∀(G:Hp) (v:V),cA H G->OwI G v (evs es) pt->Q v G):Hw CM vs H Q _e
def spOh(CM:ab):Sp:=fun vs H Q Z=>Hw CM vs H Q Z
theorem ok_oh(D:Df K mg "_law_hall" lD pOh f fd)(DF:Df K mg "first_state" jg ["model","at"] fF fdF)(GF:bO P w K mg base CX0 3 fF fdF ["model","at"] (sF CM CS))(TM:MdT K mg CM CS)(B:Bl mg)(ME:mg "enumerate"=Z7):bO P w K mg base CX0 4 f fd pOh (spOh CM):=by
 refine D.F.ok Bj (fun vs H Q E h=>?_) (fun hA A outer s H vs Q E hr h=>?_)
 ·obtain⟨m,sg,I,Ms,ko,es,pt,rfl,_⟩:=h;rfl
 obtain⟨m,sg,I,Ms,ko,es,pt,rfl,hM,l9,jp,kn,hI,hu,ku,hh,n5,k⟩:=h;have ik:=pd hr;have r3:dC 3 _:=hr;refine⟨_,ax (rG (i:=3) ["_law_number"] (fq.open (NN:=nnOh) (N:=nOh) (sc:=aS lD) rfl rfl (by decide +kernel) rfl (by decide +kernel) (by decide +kernel) rfl (by decide +kernel)) rfl Bj.nd rfl (Or.inl rfl) (gG (by rfl) B.range (cR au ao)) (fun _ _ _ _=>eZ (i:=0) ndOh rfl (Or.inl rfl)) (fun _ _ _ _=>gP) (fun _ _ _ _=>dv (bH qc (yM (dv ao) (yM (dv ao) ao)))))
  (ax (e9 bB rfl (rJ (by rfl) ME (aT (pv 2) ao)) (n6 rfl (e7 (pgn 4 Bj) (e7 (pgn 5 Bj) kR))) (aJ (oP ik (bJ bN (bJ bN (pv 3) (pv 5)) au) (pv 4) (pcl GF r3 DF (aT (pv 0) (aT (pv 4) ao))) rfl)))
  (ax (e9 bB rfl (rJ (by rfl) ME (aT (pv 1) ao)) (n6 rfl (e7 (pgn 6 Bj) (e7 (pgn 7 Bj) kR))) (aJ (eL (kh bE bZ cg fZ (bJ bN (bJ bN (pv 3) (bJ bN (pv 2) (bJ dX (pv 7) au))) au) (j3 (dR (j3 (dR (jA (bJ dX (pv 7) au) (jA (bJ dX (pv 7) au) (bH (wO rQ au) (aT (pv 6) ao))))) (jA (bJ dX (pv 7) au) (jA (bJ dX (pv 7) au) (jA (bJ dX (pv 7) au) (jA (bJ dX (pv 7) au) ao)))))) ao) (hs:=jO)))))
  (aJ (bT (dv (aT (pv 3) (bH sv (cR au ao)))))))),?_⟩
 dsimp only[cxA,cxB];have big:=ef;refine cB fun _ zK=>cS ?_;refine vc (fun m G=>m=6/\H=G) (fun R hR=>hR 6 _ ⟨Z9,Z9⟩) (fun m G h=>by omega) (fun m G1 i ys G=>∃xs:List Ow,ys=(xs.map fun x=>.ref x.a)/\cA H G/\(∀W,G W=Z7->Ows H G W xs i fun _=>[])/\(∀x∈xs,G x.d=Z8 (.dK []))/\xs.length=i) ?_ ?_ ?_ ?_
 ·rintro m G ⟨rfl,rfl⟩;exact{[],Z9,cA.refl _,(fun W _=>{Z9,(fun i x e=>by cases e),(fun x e=>by cases e),(fun x e=>by cases e),(fun i j x y e=>by cases e),fun x e=>by cases e}),(fun x e=>by cases e),Z9}
 ·rintro m G ⟨rfl,rfl⟩ i ys G' hi ⟨xs,rfl,_,_,_,l⟩;rw[ak];omega
 ·rintro m G ⟨rfl,rfl⟩ i ys G' hi ⟨xs,rfl,J,U,hS,lx⟩;refine bK {Z9,?_};unfold qe;refine iq fun d hd=>{aO _,fun q hq=>{aO _,fun e he=>{(by show 3<=aF;decide),fun a ha=>?_}}};have s1:=az hd (.dK []);have s2:=az hq (.l []);have s3:=az he (.l []);have s4:=az ha (.l [.ref d,.ref q,.ref e]);have sA:=s1.trans (s2.trans (s3.trans s4));have q0:G' q=Z7:=none_of s1 hq;have e0:G' e=Z7:=none_of (s1.trans s2) he;have a0:G' a=Z7:=none_of (s1.trans (s2.trans s3)) ha;have hT:e≠q:=(aC ai he).symm;have ii:a≠q:=(aC (s3 _ _ ai) ha).symm;have gd:=(s2.trans (s3.trans s4)) _ _ (eU hd (.dK []));have gq:=(s3.trans s4) _ _ (eU hq (.l []));have ge:=s4 _ _ (eU he (.l []));have ga:=eU ha (.l [.ref d,.ref q,.ref e]);revert sA gd gq ge ga;generalize upd (upd (upd (upd G' d (.dK [])) q (.l [])) e (.l [])) a (.l [.ref d,.ref q,.ref e])=Ga;intro sA gd gq ge ga;have old:∀{i:Nat} {y:Ow},(xs++[⟨a,d,q,e⟩])[i]?=Z8 y->(i<xs.length/\xs[i]?=Z8 y)\/(i=xs.length/\y=⟨a,d,q,e⟩):=fun {i y} z=>by
   by_cases c:i<xs.length
   ·rw[dy c]at z;exact .inl ⟨c,z⟩
   ·have l:=(ay.mp z).1;rw[aL]at l;have l:i<xs.length+1:=l;have z':i=xs.length:=by omega
    subst z';rw[df (aB _),rp]at z
    cases z;exact .inr ⟨Z9,Z9⟩
  refine{xs++[⟨a,d,q,e⟩],by rw[cq];rfl,J.trans sA,fun W O=>?_,fun x hx=>?_,by rw[aL,lx];rfl}
  ·have h0:=U W (none_of sA O);have hP:∀{b o},Ga b=Z8 o->b≠W:=fun e=>aC e O;refine{by rw[aL,lx];rfl,fun i y ey=>?_,fun y my b hb=>?_,fun y my=>?_,fun i j x y ex ey=>?_,fun y my=>?_}
   ·rcases old ey with⟨_,z⟩|⟨rfl,rfl⟩
    ·exact (h0.ow i y z).same sA
    ·exact{ga,ge,[],gq,.nil}
   ·rcases cj.mp my with z|z
    ·exact h0.fr y z b hb
    ·rw[aH.mp z]at hb;simp only[aD,aX,or_false]at hb
     rcases hb with rfl|rfl|rfl|rfl
     ·exact none_of J a0
     ·exact none_of J hd
     ·exact none_of J q0
     ·exact none_of J e0
   ·rcases cj.mp my with z|z
    ·exact (h0.hd y z).elim fun ss z=>{ss,sA _ _ z}
    ·rw[aH.mp z];exact{[],gd}
   ·have there:∀{i:Nat} {y:Ow},xs[i]?=Z8 y->y.a≠q/\y.e≠q/\y.q≠q/\y.q≠a/\y.q≠e:=fun z=>by
     obtain⟨g1,g2,vs,g3,_⟩:=h0.ow _ _ z;exact{aC g1 q0,aC g2 q0,aC g3 q0,aC g3 a0,aC g3 e0}
    rcases old ex with⟨_,z1⟩|⟨rfl,rfl⟩
    ·rcases old ey with⟨_,z2⟩|⟨rfl,rfl⟩
     ·exact h0.ap i j x y z1 z2
     ·have:=there z1;exact{this.2.2.2.1.symm,this.2.2.2.2.symm,fun _=>this.2.2.1.symm}
    ·rcases old ey with⟨_,z2⟩|⟨rfl,rfl⟩
     ·have:=there z2;exact{this.1,this.2.1,fun _=>this.2.2.1}
     ·exact{ii,hT,fun z=>Q7 rfl z}
   ·rcases cj.mp my with z|z
    ·exact h0.np y z
    ·rw[aH.mp z];exact hP gq
  ·rcases cj.mp hx with z|z
   ·exact sA _ _ (hS x z)
   ·rw[aH.mp z];exact gd
 rintro _ _ ⟨rfl,rfl⟩ ys G0 ⟨xs,rfl,s0,U,hS,lx⟩ W O;refine gk zK ?_;have sp:=az O (.l (xs.map fun x=>.ref x.a));have ki:=(U W O).same sp;have kc:∀x∈xs,upd G0 W (.l (xs.map fun x=>.ref x.a)) x.d=Z8 (.dK []):=fun x hx=>sp _ _ (hS x hx);have X:=eU O (.l (xs.map fun x=>.ref x.a));have s1:=s0.trans sp;have hk:H W=Z7:=none_of s0 O;revert ki kc X s1;generalize upd G0 W (.l (xs.map fun x=>.ref x.a))=G1;intro ki kc X s1;clear U hS O sp s0;obtain⟨ih,ml,fs,hm,hD,vs,hK,jl⟩:=hM;have lv:vs.length=Ms.length:=bQ jl;refine cB fun _ zK=>{_,Z9,I,Z9,{_,SqL.of (s1 _ _ ku)},?_};refine qS (K:=K) (a:=I) (xs:=pt.map V.int) (fun i σ G=>∃u4 u5 u6 u7:Option V,σ=[Z8 (.ref m),Z8 (.ref sg),Z8 (.ref I),Z8 (.ref W),u4,u5,u6,u7]/\cA H G/\Ows H G W xs 6 (fun _=>[])/\G W=Z8 (.l (xs.map fun x=>.ref x.a))/\∀x∈xs,∃q:List (Key×V),G x.d=Z8 (.dK q)/\q.length<=i) {_,_,_,_,Z9,s1,ki,X,fun x hx=>{[],kc x hx,aB _}} ?_ ?_ ?_
 ·rintro i σ G _ ⟨_,_,_,_,rfl,s,_⟩;exact SqL.of (s _ _ ku)
 ·rintro zN zB zH j v t σ G hj ⟨u4,u5,u6,u7,rfl,J,U,X,hS⟩ ht;rw[bD]at hj;obtain⟨n,hn,rfl⟩:=cX.mp hj;have lj:j<pt.length:=(ay.mp hn).1;have st:=az ht (.t [.int j,.int n]);obtain⟨kt,hC⟩:=n5 n (aK hn);refine{t,_,Z9,SqT.of ai,Z9,_,_,Z9,bK {_,_,Z9,bK {Z9,?_}}};have Y:=J.trans st;have L:=U.same st;have Z:=st _ _ X;have kq:∀x∈xs,∃q:List (Key×V),upd G t (.t [.int j,.int n]) x.d=Z8 (.dK q)/\q.length<=j:=fun x hx=>(hS x hx).elim fun q z=>{q,st _ _ z.1,z.2};revert Y L Z kq;generalize upd G t (.t [.int j,.int n])=Ga;intro Y L Z kq;obtain⟨v,js⟩:∃v,vs[j]?=Z8 v:={_,aA (by omega)};obtain⟨M,hp,z⟩:=jo jl js;have zq:=z.lq;have zb:=z.lb;have zk:=congrArg jJ z.kb;rw[ak]at zk;obtain⟨tt,bl,ql,m0,x3,x4,vb,rfl,e1,e2,e3,e4⟩:=z.fs;refine{_,Z9,_,Z9,m,ih,ml,tt,bl,ql,fs,m0,x3,x4,j,vs,vb,M.ps,M.qs,Z9,Y _ _ hm,hD,Y _ _ hK,js,Y _ _ e1,Y _ _ e2,e3.same Y,by omega,Y _ _ e4,by omega,fun hY hg bd qd ls G2 nw=>?_};have s2:=nw.same;obtain⟨x,hx⟩:∃x,xs[n.toNat]?=Z8 x:={_,aA (by omega)};have mx:=aK hx;have io:=L.same s2;obtain⟨q,hq,lq⟩:=kq x mx;have ke:=s2 _ _ hq;refine{_,Z9,_,Z9,W,_,_,_,Z9,Z9,SqL.of (s2 _ _ Z),(by have z:=cI (xs:=xs.map fun x=>V.ref x.a) (j:=n.toNat) (v:=.ref x.a) (by rw[bD,hx];rfl);rwa[iG kt]at z),x.a,_,_,_,Z9,Z9,SqL.of (io.ow _ x hx).ha,(show atI _ 0=Z8 (.ref x.d) from cI (j:=0) rfl),_,Z9,x.d,_,Z9,rj.k (k:=Sum.inl (j:Int)) ke (by omega),zH _ _ _ {_,_,_,_,Z9,iA (Y.trans s2) (U.fr x mx x.d (by simp)) _,io.put ke,hv (s2 _ _ Z) (cQ (s2 _ _ Z) ke nofun),fun y hy=>?_}}
  by_cases c:y.d=x.d
  ·rw[c];refine{_,ai,?_};have:=jC q (Sum.inl (j:Int)) (V.ref hY);omega
  ·obtain⟨q',hG,hl⟩:=kq y hy;exact{q',hv (s2 _ _ hG) c,by omega}
 rintro σ G ⟨u4,u5,u6,u7,rfl,J,U,X,_⟩;refine zK _ _ ?_;have hB:=Paired.mono (fun _ _ z=>mj.same J z) kn;refine cB fun _ zK=>{_,Z9,sg,Z9,{_,SqL.of (J _ _ jp)},?_};refine qS (K:=K) (a:=sg) (xs:=ko) (fun i σ G=>∃u6 u7:Option V,σ=[Z8 (.ref m),Z8 (.ref sg),Z8 (.ref I),Z8 (.ref W),u4,u5,u6,u7]/\cA H G/\Ows H G W xs 6 (fun n=>xU pt ((evs es).take i) n)/\G W=Z8 (.l (xs.map fun x=>.ref x.a))/\∀n,(xU pt ((evs es).take i) n).length<=i) {_,_,Z9,J,U,X,fun n=>aB _} ?_ ?_ ?_
 ·rintro i σ G _ ⟨_,_,rfl,s,_⟩;exact SqL.of (s _ _ jp)
 ·rintro zN zB zH i v t σ G hi ⟨u6,u7,rfl,J,U,X,hL⟩ ht;obtain⟨e,he,tt,rfl,g⟩:=jo kn hi;have li:i<es.length:=(ay.mp he).1;have hE:(evs es)[i]?=Z8 (atP e i):=by
   unfold evs;rw[pj,he];rfl
  have st:=az ht (.t [.int i,.ref tt]);obtain⟨t0,t1⟩:=hI e (aK he);obtain⟨n,hn⟩:∃n,pt[e.to.toNat]?=Z8 n:={_,aA (by omega)};obtain⟨kt,hC⟩:=n5 n (aK hn);obtain⟨x,hx⟩:∃x,xs[n.toNat]?=Z8 x:={_,aA (by omega)};have mx:=aK hx;refine{t,_,Z9,SqT.of ai,Z9,_,_,Z9,bK {_,_,Z9,bK {Z9,?_}}};have Y:=J.trans st;have L:=U.same st;have Z:=st _ _ X;have g2:=Y _ _ g;revert Y L Z g2;generalize upd G t (.t [.int i,.ref tt])=Ga;intro Y L Z g2;have i0:∀{v:V} {j:Nat},[V.int e.t,.int e.r,.int e.to,.str e.sg,.int e.a,.int e.b][j]?=Z8 v->atI [V.int e.t,.int e.r,.int e.to,.str e.sg,.int e.a,.int e.b] (j:Int)=Z8 v:=fun h=>cI h;obtain⟨w1,w2,us,w3,w4⟩:=L.ow _ x hx;have lu:=bQ w4;have lz:=hL n.toNat;refine{_,Z9,_,Z9,_,Z9,tt,_,_,_,Z9,Z9,SqT.of g2,i0 (j:=2) rfl,I,_,_,_,Z9,Z9,SqL.of (Y _ _ ku),(by have z:=cI (xs:=pt.map V.int) (j:=e.to.toNat) (v:=.int n) (by rw[bD,hn];rfl);rwa[iG t0]at z),W,_,_,_,Z9,Z9,SqL.of Z,(by have z:=cI (xs:=xs.map fun x=>V.ref x.a) (j:=n.toNat) (v:=.ref x.a) (by rw[bD,hx];rfl);rwa[iG kt]at z),x.a,_,_,_,Z9,Z9,SqL.of w1,(show atI _ 1=Z8 (.ref x.q) from cI (j:=1) rfl),.inl {Z9,_,SqL.of w3},?_};refine{_,Z9,tt,_,_,_,Z9,Z9,SqT.of g2,i0 (j:=0) rfl,_,Z9,tt,_,_,_,Z9,Z9,SqT.of g2,i0 (j:=1) rfl,_,Z9,_,Z9,(by show 4<=aF;decide),fun kk hH=>?_};have sk:=az hH (.t [.int e.t,.int e.r,.int (-1),.int i]);have g3:=sk _ _ g2;refine{_,Z9,tt,_,_,_,Z9,Z9,SqT.of g3,i0 (j:=2) rfl,_,Z9,tt,_,_,_,Z9,Z9,SqT.of g3,i0 (j:=3) rfl,_,Z9,tt,_,_,_,Z9,Z9,SqT.of g3,i0 (j:=4) rfl,_,Z9,tt,_,_,_,Z9,Z9,SqT.of g3,i0 (j:=5) rfl,(by show 5<=aF;decide),fun te hN=>?_};have se:=az hN (.t [.ref kk,.int e.to,.str e.sg,.int e.a,.int e.b]);have kv:=sk.trans se;refine{x.q,us,.ref te,Z9,Z9,kv _ _ w3,by omega,zH _ _ _ {_,_,Z9,iA (Y.trans kv) (U.fr x mx x.q (by simp)) _,?_,?_,fun n'=>?_}}
  ·have nE:((n.toNat:Nat):Int)=n:=iG kt;have im:pt[(atP e i).to.toNat]?=Z8 ((n.toNat:Nat):Int):=by rw[nE];exact hn
   refine (L.same kv).aw (e:=atP e i) hx (kv _ _ w3) (Paired.mono (fun _ _ z=>oJ.same kv z) w4) {te,kk,Z9,ai,se _ _ ai} ?_ fun j' nj=>?_
   ·rw[qT hE,Q6 im]
   ·rw[qT hE,Q5 (fun z=>nj (by rw[im]at z;have:=cv z;omega)),eB]
  ·exact hv (kv _ _ Z) (U.np x mx).symm
  ·rw[qT hE,aL];have:=hL n'
   split
   ·simp only[cY,cU];omega
   ·simp only[cU];omega
 rintro σ G ⟨u6,u7,rfl,J,U,X,_⟩;refine zK _ _ (gF ?_);have hQ:ko.length=(evs es).length:=by
  unfold evs;rw[lO];exact bQ kn
 rw[hQ,eX]at U;refine{_,Z9,fun rd hrd=>{(by show 3<=aF;decide),fun o ho=>?_}};have sr:=az hrd (.dT []);have so:=az ho (.l [.ref W,.ref rd,.int 0]);have sR:=sr.trans so;exact k _ _ (J.trans sR) {o,W,rd,xs,Z9,ai,sR _ _ X,U.ln,so _ _ (eU hrd (.dT [])),fun i x e=>(U.ow i x e).same sR}
end
end _M
namespace _L
open PySem PySem.Spec PyProof.Rows
section
variable{X:Cx}
theorem vZ:kN X (.builtin "sorted") (fun xs H Q=>∃p Y,xs=[V.ref p]/\H p=Z8 (.l (Y.map V.int))/\Y.length<64 /\
  ∀(l:ab) (Z:List Int),H l=Z7->Z.Perm Y->Z.Pairwise (·<=·)->Q (.ref l) (upd H l (.l (Z.map V.int)))):=by
 intro pins s σ H xs us Q I r h;obtain⟨p,Y,rfl,hp,D,q⟩:=h;obtain⟨u,rfl,M⟩:=vals1 r
 cases M;have g:64<=aF:=by decide
 obtain⟨its,n,W,J,hz⟩:=I.lst hp;have O:=vS W;have y:=W.length;rw[ak]at y;refine sorted_ints (l:=p) (vs:=its) {_,J,Z9,n,Z9} O (by omega) fun out Z t U L=>?_;obtain⟨e,B⟩:=sortedAll_at s.heap its out;have z:=I.laid (a:=s.heap.objs.size+1) (o:=.l (Z.map V.int)) (t':=s.toks) (fun _ _=>sortedAll_old) (gO _) (h':=sortedAll s.heap its out) {by rw[ak,U.length_eq];omega,out.toList,e,z6 t,by rw[B]};exact{.ref (s.heap.objs.size+1),_,z,Z9,q _ Z (I.hok.fresh (gO _)) U L}
end
end _L
namespace _M
open PySem _L
theorem vd:eh "min"=Z8 (.builtin "min"):=rfl
theorem xV{K:ag}{q:ab}{vs:List V}{es:List Ev}{H:Hp}{σ:St}{U:TE}{Q:VK}(W:∀R:VK,R (.ref q) H->U σ H R)(hq:H q=Z8 (.l vs))(hp:bM (oJ H) vs es)(l:es.length<=20)(k:∀bs:List ab,jz H bs (es.map Ev.key)->∀Z,H Z=Z7->Q (.ref Z) (upd H Z (.l (bs.map V.ref)))):m5 1 (wN K U) (pW 0) qe (tOp (EC K) (lV 0) (tC (.int 0))) σ H Q:=by
 have big:=ef;have O:=bQ hp;refine j5 (K:=K) (a:=q) (xs:=vs) W (SqL.of hq) (fun i zs G=>G=H/\∃bs:List ab,zs=bs.map V.ref/\bs.length=i/\jz H bs ((es.take i).map Ev.key)) {Z9,[],Z9,Z9,.nil} ?_ ?_ ?_
 ·rintro i zs G hi ⟨rfl,bs,rfl,l,_⟩;exact{SqL.of hq,by rw[ak];omega}
 ·rintro i v zs G hi ⟨rfl,bs,rfl,l,Y⟩;obtain⟨e,M,t,kk,rfl,e1,L⟩:=jo hp hi;refine bK {Z9,?_};unfold qe;refine iq {_,Z9,t,_,_,_,Z9,Z9,SqT.of e1,(show atI _ 0=Z8 (.ref kk) from cI (j:=0) rfl),Z9,bs++[kk],by rw[cq];rfl,by rw[aL,l];rfl,?_};rw[eJ,M,cq];exact Y.append (.cons L .nil)
 ·rintro zs G ⟨rfl,bs,rfl,l,Y⟩ Z X;rw[O,eX]at Y;exact k bs Y Z X
theorem tw{es:List Ev}{pt:List Int}(d:DOk es pt)(n:Nat):(xU pt es n).length<=20:=dh (oW _ _) d.le
theorem FG{es:List Ev}{pt:List Int}(d:DOk es pt):∀k,k∈((i9 6).flatMap fun n:Nat=>pnd pt es (n:Int))↔k∈es.map Ev.key:=fun k=>by
 constructor
 ·intro h;obtain⟨n,hn,hk⟩:=gT.mp h;obtain⟨e,Z,rfl⟩:=bY.mp hk;exact bY.mpr {e,(eQ.mp Z).1,Z9}
 ·intro h;obtain⟨e,Z,rfl⟩:=bY.mp h;obtain⟨n,hn⟩:=d.to e Z;obtain⟨Y,X⟩:=d.n5 n (aK hn);refine gT.mpr {n.toNat,ug.mpr (by omega),bY.mpr {e,eQ.mpr {Z,Q3 ?_},Z9}};rw[iG Y];exact hn
section
variable{P:aP}{w:bF}{K:ag}{mg:Str->Option ae}{base:cz}{f fFo fSe:ab}{fd fdFo fdSe:bS}
seal PS PSs PE PA PT PW PI PG PGs PC
abbrev nOf:List Str:=["_law_hall_here","_law_keys","_law_part","_law_way"]
abbrev pOf:List Str:=["_law_hall_here"]
theorem Bk:bU nOf pOf (aS iD):=fK
theorem ndOf:((["_law_one"]:List Str)++nOf).Nodup:=by decide +kernel
theorem ndOf2:((["_law_letter"]:List Str)++nOf).Nodup:=by decide +kernel
inductive Hx(vs:List V)(H:Hp)(Q:VK)(_e:XK):Prop where
 |mk(v:V)(es:List Ev)(pt:List Int)(_:vs=[v])(_:OwI H v es pt)(_:DOk es pt)(_:∀(G:Hp) (u:V),cA H G->KyO G (leK (es.map Ev.key)) u->Q u G):Hx vs H Q _e
def FH:Sp:=fun vs H Q Z=>Hx vs H Q Z
theorem ve(D:Df K mg "_law_floor" iD pOf f fd)(B:Bl mg)(MM:mg "min"=Z7):bO P w K mg base CX0 1 f fd pOf FH:=by
 refine D.F.ok Bk (fun vs H Q E h=>?_) (fun cl A outer s H vs Q E hr h=>?_)
 ·obtain⟨v,es,pt,rfl,_⟩:=h;rfl
 obtain⟨v,es,pt,rfl,⟨o,pl,J,xs,rfl,h1,h2,lx,h4,h5⟩,X,k⟩:=h;have g:=pd hr;have h3:=dS (lH (by decide:2<=50) _) (AJ hr);refine⟨_,ax (pst 1 Bk (dv ao))
  (ax (e9 bB rfl (eM (bJ bN (pv 0) au)) (pgn 2 Bk) (aJ (pst 1 Bk (cV sh (pv 1) (ij ["_law_one"] (fq.open (NN:=nOf) (N:=nOf) (sc:=aS iD) rfl rfl (by decide +kernel) rfl (by decide +kernel) (by decide +kernel) rfl (by decide +kernel)) rfl (eM (bJ bN (pv 2) au)) (fun _ _ _ _=>eZ (i:=0) ndOf rfl (Or.inl rfl)) (fun _ _ _ _=>gP) (fun _ _ _ _=>bJ (i8 K (by rfl)) (pv 0) au))))))
  (ax (xu (e9 bB rfl (DZ (bJ bN (pv 0) au)) (pgn 3 Bk) (aJ (pst 1 Bk (cV sh (pv 1) (ij ["_law_letter"] (fq.open (NN:=nOf) (N:=nOf) (sc:=aS iD) rfl rfl (by decide +kernel) rfl (by decide +kernel) (by decide +kernel) rfl (by decide +kernel)) rfl (eM (rD g (bJ bN (pv 0) au) (pv 3))) (fun _ _ _ _=>eZ (i:=0) ndOf2 rfl (Or.inl rfl)) (fun _ _ _ _=>gP) (fun _ _ _ _=>bJ (i8 K (by rfl)) (bJ (i8 K (by rfl)) (pv 0) au) au)))))))
  (ax (dW (cG iS (cK (dH K (by rfl)) (by rfl) B.len bV (aT (pv 1) ao)) au) (aJ (bT pq)) cD)
  (aJ (bT (cK (uJ h3 rfl) (by rfl) MM vd (aT (pv 1) ao))))))),?_⟩
 dsimp only[cxA,cxB];have big:=ef;refine cB fun _ O=>cS {aO _,fun l0 cp=>gk O ?_};have s0:=az cp (.l []);refine cB fun _ O=>{_,Z9,o,_,_,_,Z9,Z9,SqL.of (s0 _ _ h1),(show atI _ 0=Z8 (.ref pl) from cI (j:=0) rfl),pl,Z9,{_,SqL.of (s0 _ _ h2)},?_};refine iM (K:=K) (a:=pl) (xs:=xs.map fun x=>.ref x.a) (fun i σ G=>∃(M:ab) (Z:List ab) (u2 d:Option V),σ=[Z8 (.ref o),Z8 (.ref M),u2,d]/\cA H G/\G M=Z8 (.l (Z.map V.ref))/\jz G Z ((i9 i).flatMap fun n:Nat=>pnd pt es (n:Int))/\Z.length<=20*i) {l0,[],_,_,Z9,s0,ai,.nil,aB _} ?_ ?_ ?_
 ·rintro i σ G _ ⟨_,_,_,_,rfl,s,_⟩;exact SqL.of (s _ _ h2)
 ·rintro zN zB zH i v σ G hi ⟨M,Z,u2,d,rfl,W,U,r,la⟩;rw[bD]at hi;obtain⟨x,hx,rfl⟩:=cX.mp hi;have li:i<6:=by
   rw[<- lx];exact (ay.mp hx).1
  obtain⟨w1,w2,us,w3,w4⟩:=(h5 i x hx).same W;refine bK (cS {_,Z9,?_});refine xV (fun R z=>{_,Z9,x.a,_,_,_,Z9,Z9,SqL.of w1,(show atI _ 1=Z8 (.ref x.q) from cI (j:=1) rfl),z}) w3 w4 (tw X i) fun bs tb l2 co=>?_;have s2:=az co (.l (bs.map V.ref));have lb:=tb.length;rw[ak]at lb;have lz:=tw X i;refine{M,l2,_,_,Z9,Z9,s2 _ _ U,ai,by rw[ak,ak];omega,fun l3 I=>bK (zH _ _ _ {l3,Z++bs,_,_,Z9,W.trans (s2.trans (az I _)),by rw[ai,cq],?_,by rw[aL];omega})};have s3:=s2.trans (az I (.l (Z.map V.ref++bs.map V.ref)));rw[FJ,lG,dZ,List.flatMap_nil,eB];exact (r.keep fun a xs e=>s3 _ _ e).append (tb.keep fun a xs e=>s3 _ _ e)
 rintro σ G ⟨M,Z,u2,d,rfl,W,U,r,la⟩;rw[ak,lx]at r la;refine O _ _ ?_;have t:=W _ _ h4;refine cB fun _ O=>{_,Z9,o,_,_,_,Z9,Z9,SqL.of (W _ _ h1),(show atI _ 1=Z8 (.ref J) from cI (j:=1) rfl),J,[],Z9,t,(by exact fun ob u z=>nomatch h4.symm.trans z),fun od=>?_};refine zt ai {J,od,[],ai,(by exact fun ob u z=>nomatch h4.symm.trans z),O _ _ ?_};have L:=kY (But.upd J G (.frz od (.dT []))) t;revert L;generalize upd (upd G J (.frz od (.dT []))) J (.dT [])=G2;intro L;have y:=r.keep fun a xs e=>L _ _ e;have Y:=L _ _ U;have key:=Ag (FG X);have lt:=y.length;refine cB fun _ O=>ic {_,Z9,M,_,Z9,.inl (SqL.of Y),Z9,_,Z9,?_}
 cases Z with
 |nil=>
  refine lS (b:=true) rfl (iq (gF (k G2 _ (W.trans L) ?_)));rw[<- key,d9.mp lt.symm];rfl
 |cons a cn=>
  refine lS (b:=false) (by simp;omega) (gm (O _ _ (gF ?_)));refine{_,Z9,M,_,_,Z9,Y,y,(fun z=>by rw[z]at lt;cases lt),fun b n _ hn hb le=>k G2 _ (W.trans L) ?_};rw[<- key,pK ⟨hn,le⟩];exact⟨b,Z9,hb⟩
abbrev nSt:List Str:=["_law_hall_here","_law_floor_here","_law_found","_law_part","_law_entry","_law_records","_law_where","_law_record","_law_stop"]
abbrev pSt:List Str:=["_law_hall_here"]
theorem v3:bU nSt pSt (aS jk):=fK
inductive Hy(vs:List V)(H:Hp)(Q:VK)(_e:XK):Prop where
 |mk(v:V)(es:List Ev)(pt:List Int)(_:vs=[v])(_:OwI H v es pt)(_:DOk es pt)(_:∀(G:Hp) (t l:ab) (en:V),cA H G->H l=Z7->G t=Z8 (.t [.ref l,en])->G l=Z8 (.l [])->EnO G es en->Q (.ref t) G):Hy vs H Q _e
def Jg:Sp:=fun vs H Q Z=>Hy vs H Q Z
theorem Eb(D:Df K mg "_law_settled" jk pSt f fd)(r:Df K mg "_law_floor" iD pOf fFo fdFo)(d:bO P w K mg base CX0 1 fFo fdFo pOf FH)(B:Bl mg)(MS:mg "sorted"=Z7):bO P w K mg base CX0 2 f fd pSt Jg:=by
 refine D.F.ok v3 (fun vs H Q E h=>?_) (fun ce A outer s H vs Q E hr h=>?_)
 ·obtain⟨v,es,pt,rfl,_⟩:=h;rfl
 obtain⟨v,es,pt,rfl,hO,y,k⟩:=h;have r1:dC 1 _:=hr;refine⟨_,ax (pst 1 v3 (pcl d r1 r (aT (pv 0) ao)))
  (ax (pst 2 v3 (dv ao))
  (ax (e9 bB rfl (eM (bJ bN (pv 0) au)) (pgn 3 v3) (aJ (e9 bB rfl (eM (bJ bN (pv 3) au)) (pgn 4 v3) (aJ (dW ((pV (jx (nZ (pv 1))) (px (cG uk (bJ dX (bJ dX (pv 4) au) au) (pv 1)))).pt) (aJ (eL (kh bE bZ cg fZ (pv 2) (j3 (dR (jA (bJ dX (bJ dX (pv 4) au) au) (jA (bJ dX (pv 4) au) (jA (bJ dX (pv 4) au) ao)))) ao) (hs:=jO)))) cD)))))
  (ax (pst 5 v3 (dv ao))
  (ax (e9 bB rfl (eM (cK vZ (by rfl) MS q9 (aT (pv 2) ao))) (n6 rfl (e7 (pgn 6 v3) (e7 (pgn 7 v3) (e7 (pgn 8 v3) kR)))) (ax (dW (jx (j7 (pv 7))) (aJ (eL (kh bE bZ cg fZ (pv 5) (aT (pv 7) ao)))) cD)
  (aJ (dW (jx (j7 (pv 8))) (aJ (bT (dR (aT (pv 5) (aT (pv 8) ao))))) cD))))
  (ax (dW (jx (nZ (pv 1))) (aJ (bT (dR (aT (pv 5) (j3 (dR (cR eO ao)) ao))))) cD)
  (aJ (bT (dR (aT (pv 5) (cR pq ao)))))))))),?_⟩
 dsimp only[cxA,cxB];obtain⟨o,g,rd,xs,rfl,h1,h2,lx,h4,h5⟩:=id hO;refine cB fun _ X=>cS {_,Z9,_,es,pt,Z9,hO,y,fun G1 fl s1 ky=>gk X ?_};have fn:(es=[]/\fl=.non)\/(es≠[]/\fl≠.non):=by
  by_cases c:es=[]
  ·subst c;exact .inl ⟨Z9,ky⟩
  ·obtain⟨e,_,z⟩:=rN c;rw[z]at ky;obtain⟨a,rfl,_⟩:=ky;exact .inr {c,fun z=>by cases z}
 refine cB fun _ X=>cS {aO _,fun l hl=>gk X ?_};have s2:=s1.trans (az hl (.l []));have gl:=eU hl (.l []);revert s2 gl;generalize upd G1 l (.l [])=G2;intro s2 gl;refine cB fun _ X=>{_,Z9,o,_,_,_,Z9,Z9,SqL.of (s2 _ _ h1),(show atI _ 0=Z8 (.ref g) from cI (j:=0) rfl),g,Z9,{_,SqL.of (s2 _ _ h2)},?_};refine iM (K:=K) (a:=g) (xs:=xs.map fun x=>.ref x.a) (fun i σ G=>∃J:Option V,σ=[Z8 (.ref o),Z8 fl,Z8 (.ref l),J,Z7,Z7,Z7,Z7,Z7]/\G=G2) {_,Z9,Z9} ?_ ?_ ?_
 ·rintro i σ G _ ⟨_,rfl,rfl⟩;exact SqL.of (s2 _ _ h2)
 ·rintro zN zB zH i v σ G hi ⟨J,rfl,rfl⟩;rw[bD]at hi;obtain⟨x,hx,rfl⟩:=cX.mp hi;obtain⟨w1,w2,_⟩:=(h5 i x hx).same s2;refine bK {_,Z9,x.a,_,_,_,Z9,Z9,SqL.of w1,(show atI _ 2=Z8 (.ref x.e) from cI (j:=2) rfl),x.e,Z9,{_,SqL.of w2},?_};refine iM (K:=K) (a:=x.e) (xs:=[]) (fun i σ G'=>σ=[Z8 (.ref o),Z8 fl,Z8 (.ref l),Z8 (.ref x.a),Z7,Z7,Z7,Z7,Z7]/\G'=G) ⟨Z9,Z9⟩ ?_ ?_ ?_
  ·rintro i σ G' _ ⟨rfl,rfl⟩;exact SqL.of w2
  ·intro _ _ _ i v σ G hi
   cases hi
  ·rintro σ G' ⟨rfl,rfl⟩;exact zH _ _ _ {_,Z9,Z9}
 rintro σ G ⟨J,rfl,rfl⟩;refine X _ _ ?_;refine cB fun _ X=>cS {aO _,fun Y U=>gk X ?_};have sr:=az U (.l []);have cl:=eU U (.l []);refine cB fun _ X=>{_,Z9,l,[],Z9,sr _ _ gl,by decide,fun W ci O pm _=>?_};obtain rfl:=pm.eq_nil;refine{W,Z9,{[],SqL.of ai},?_};have s3:=sr.trans (az O (.l []));have g3:upd (upd G Y (.l [])) W (.l []) W=Z8 (.l []):=ai;have Z:=(az O (.l [])) _ _ cl;have L:H Y=Z7:=none_of s2 U;have I:=s2.trans s3;revert g3 Z I;show upd (upd G Y (.l [])) W (.l []) W=Z8 (.l [])->upd (upd G Y (.l [])) W (.l []) Y=Z8 (.l [])->cA H (upd (upd G Y (.l [])) W (.l []))->_;generalize hG4:upd (upd G Y (.l [])) W (.l [])=G4;intro g3 Z I;have M:upd (upd G Y (.l [])) W (.l (([]:List Int).map V.int))=G4:=hG4;rw[M];refine iM (K:=K) (a:=W) (xs:=[]) (fun i σ G'=>σ=[Z8 (.ref o),Z8 fl,Z8 (.ref l),J,Z7,Z8 (.ref Y),Z7,Z7,Z7]/\G'=G4) ⟨Z9,Z9⟩ ?_ ?_ ?_
 ·rintro i σ G' _ ⟨rfl,rfl⟩;exact SqL.of g3
 ·intro _ _ _ i v σ G hi
  cases hi
 rintro σ G' ⟨rfl,rfl⟩;refine X _ _ ?_
 rcases fn with⟨c,rfl⟩|⟨c,n⟩
 ·refine cB fun _ X=>ic {_,Z9,_,Z9,iq (gF {_,Z9,(by show 1<=aF;decide),fun te ck=>{(by show 2<=aF;decide),fun t q=>?_}})};have se:=az ck (.t [.str "empty"]);have st:=az q (.t [.ref Y,.ref te]);exact k _ t Y (.ref te) (I.trans (se.trans st)) L ai (st _ _ (se _ _ Z)) (.inl {c,te,Z9,st _ _ ai})
 ·refine cB fun _ X=>ic {_,Z9,_,Z9,lS (b:=false) (by simp[n]) (gm (X _ _ (gF {_,Z9,(by show 2<=aF;decide),fun t q=>?_})))};have st:=az q (.t [.ref Y,.non]);exact k _ t Y .non (I.trans st) L ai (st _ _ Z) (.inr ⟨c,Z9⟩)
abbrev nOa:List Str:=["_law_hall_here","_law_ahead","_law_floor_here","_law_found","_law_number","_law_part","_law_stops","_law_key","_law_other","_law_row"]
abbrev pOa:List Str:=["_law_hall_here","_law_ahead"]
theorem ue:bU nOa pOa (aS ia):=fK
theorem ndOa:((["_law_entry"]:List Str)++nOa).Nodup:=by decide +kernel
theorem ndOa2:((["_law_one"]:List Str)++nOa).Nodup:=by decide +kernel
inductive Hz(vs:List V)(H:Hp)(Q:VK)(_e:XK):Prop where
 |mk(v ah:V)(es:List Ev)(pt:List Int)(_:vs=[v,ah])(_:OwI H v es pt)(_:DOk es pt)(_:(ah=.non\/∃a,ah=.int a))(_:∀(G:Hp) (l:ab) (ts:List V),cA H G->H l=Z7->G l=Z8 (.l ts)->bM (DoT G) ts (if es=[] then [] else acP es pt ah [0,1,2,3,4,5])->Q (.ref l) G):Hz vs H Q _e
def Jh:Sp:=fun vs H Q Z=>Hz vs H Q Z
theorem HA(D:Df K mg "_law_actions" ia pOa f fd)(fz:Df K mg "_law_floor" iD pOf fFo fdFo)(ez:bO P w K mg base CX0 1 fFo fdFo pOf FH)(fv:Df K mg "_law_settled" jk pSt fSe fdSe)(fa:bO P w K mg base CX0 2 fSe fdSe pSt Jg)(B:Bl mg)(MM:mg "min"=Z7)(ME:mg "enumerate"=Z7):bO P w K mg base CX0 3 f fd pOa Jh:=by
 refine D.F.ok ue (fun vs H Q E h=>?_) (fun ey A outer s H vs Q E hr h=>?_)
 ·obtain⟨v,Y,es,pt,rfl,_⟩:=h;rfl
 obtain⟨v,Y,es,pt,rfl,hO,gS,eH,k⟩:=h;have ge:=pd hr;have h3:=dS (lH (by decide:2<=50) _) (AJ hr);have r2:dC 2 _:=hr;have r1:dC 1 _:=hr.mono (by decide);refine⟨_,ax (dW (jx (j7 (bJ dX (pcl fa r2 fv (aT (pv 0) ao)) au))) (aJ (bT (dv ao))) cD)
  (ax (pst 2 ue (pcl ez r1 fz (aT (pv 0) ao)))
  (ax (pst 3 ue (dv ao))
  (ax (e9 bB rfl (rJ (by rfl) ME (jA (bJ bN (pv 0) au) ao)) (n6 rfl (e7 (pgn 4 ue) (e7 (pgn 5 ue) kR))) (ax (rG (i:=6) ["_law_entry"] (fq.open (NN:=nOa) (N:=nOa) (sc:=aS ia) rfl rfl (by decide +kernel) rfl (by decide +kernel) (by decide +kernel) rfl (by decide +kernel)) rfl ue.nd rfl (Or.inl rfl) (eM (bJ bN (pv 5) au)) (fun _ _ _ _=>eZ (i:=0) ndOa rfl (Or.inl rfl)) (fun _ _ _ _=>zI (jx (j7 (bJ (i8 K (by rfl)) (pv 0) au)))) (fun _ _ _ _=>pv 0))
  (aJ (dW ((lQ (cG o7 (cK (dH K (by rfl)) (by rfl) B.len bV (jA (bJ bN (pv 5) au) ao)) au) (j8 (cG iS (cK (dH K (by rfl)) (by rfl) B.len bV (aT (pv 6) ao)) au))).pt) (ax (pst 7 ue (cK (uJ h3 rfl) (by rfl) MM vd (bH (ij ["_law_one"] (fq.open (NN:=nOa) (N:=nOa) (sc:=aS ia) rfl rfl (by decide +kernel) rfl (by decide +kernel) (by decide +kernel) rfl (by decide +kernel)) rfl (eM (bJ bN (pv 5) au)) (fun _ _ _ _=>eZ (i:=0) ndOa2 rfl (Or.inl rfl)) (fun _ _ _ _=>gP) (fun _ _ _ _=>bJ (i8 K (by rfl)) (pv 0) au)) ao)))
  (aJ (dW ((pV (jx (nZ (pv 1))) (px (cG FS (bJ dX (pv 7) au) (cV il (bJ dX (pv 2) au) (pv 1))))).pt) (aJ (eL (kh bE bZ cg fZ (pv 3) (j3 (dR (cR eO (aT (pv 4) (aT (pv 7) ao)))) ao) (hs:=jO)))) cD))) cD))))
  (ax (e9 bB rfl (gG (by rfl) B.range (cR au ao)) (pgn 4 ue) (aJ (e9 bB rfl (gG (by rfl) B.range (cR au ao)) (pgn 8 ue) (ax (pst 9 ue (B8 ge (bJ bN (pv 0) au) (dR (aT (pv 8) (aT (pv 4) ao))) (dv ao) ⟨Z9,Z9,Z9,Z9⟩))
  (aJ (dW (cG o7 (cK (dH K (by rfl)) (by rfl) B.len bV (aT (pv 9) ao)) au) (aJ (eL (kh bE bZ cg fZ (pv 3) (j3 (dR (cR eO (aT (pv 4) (aT (pv 8) (jA (bJ dX (bJ dX (bJ bN (pv 9) au) au) au) (jA (bJ dX (bJ bN (pv 9) au) au) ao)))))) ao) (hs:=jO)))) cD))))))
  (aJ (bT (pv 3))))))),?_⟩
 dsimp only[cxA,cxB];have big:=ef;obtain⟨o,pl,rd,xs,rfl,h1,h2,lx,h4,h5⟩:=id hO;refine cB fun _ U=>ic {_,Z9,_,es,pt,Z9,hO,gS,fun G1 t l en s1 l0 gt gl ga=>?_};refine{t,_,_,_,Z9,Z9,SqT.of gt,(show atI _ 1=Z8 en from cI (j:=1) rfl),_,Z9,?_}
 rcases ga with⟨c,te,rfl,_⟩|⟨c,rfl⟩
 ·refine iq (gF {aO _,fun l2 gw=>k _ l2 [] (s1.trans (az gw _)) (none_of s1 gw) ai ?_});rw[Q6 c];exact .nil
 refine gm (U _ _ ?_);rw[Q5 c]at k;refine cB fun _ U=>cS {_,Z9,_,es,pt,Z9,hO.same s1,gS,fun G2 fl s2 ky=>gk U ?_};refine cB fun _ U=>cS {aO _,fun J hy=>gk U ?_};have s3:=s1.trans (s2.trans (az hy (.l [])));have gv:H J=Z7:=none_of (s1.trans s2) hy;have hd:=ky.same (az hy (.l []));have gf:=eU hy (.l []);revert s3 hd gf;generalize upd G2 J (.l [])=G3;intro s3 hd gf;obtain⟨em,ew,hl⟩:=rN c;refine cB fun _ U=>{_,Z9,o,_,_,_,Z9,Z9,SqL.of (s3 _ _ h1),(show atI _ 0=Z8 (.ref pl) from cI (j:=0) rfl),pl,Z9,{_,SqL.of (s3 _ _ h2)},?_};refine qS (K:=K) (a:=pl) (xs:=xs.map fun x=>.ref x.a) (fun i σ G=>∃(u4 u5 u6 u7:Option V) (L:List V),σ=[Z8 (.ref o),Z8 Y,Z8 fl,Z8 (.ref J),u4,u5,u6,u7,Z7,Z7]/\cA H G/\KyO G (leK (es.map Ev.key)) fl/\G J=Z8 (.l L)/\L.length<=i/\bM (DoT G) L (acP es pt Y ((i9 i).map fun n:Nat=>(n:Int)))) {_,_,_,_,[],Z9,s3,hd,gf,aB _,.nil} ?_ ?_ ?_
 ·rintro i σ G _ ⟨_,_,_,_,_,rfl,s,_⟩;exact SqL.of (s _ _ h2)
 ·rintro zN zB zH i v tt σ G hi ⟨u4,u5,u6,u7,L,rfl,sG,ky,gf,lt,g⟩ fw;rw[bD]at hi;obtain⟨x,hx,rfl⟩:=cX.mp hi;have li:i<6:=by
   rw[<- lx];exact (ay.mp hx).1
  refine{tt,_,Z9,SqT.of ai,Z9,_,_,Z9,bK {_,_,Z9,bK {Z9,?_}}};have st:=az fw (.t [.int i,.ref x.a]);have ho:=sG.trans st;have hc:=ky.same st;have ha:=st _ _ gf;have I:=Paired.mono (fun _ _ z=>DoT.same st z) g;revert ho hc ha I;generalize upd G tt (.t [.int i,.ref x.a])=Ga;intro ho hc ha I;obtain⟨w1,w2,us,w3,w4⟩:=(h5 i x hx).same ho;have ac:acP es pt Y ((i9 (i+1)).map fun n:Nat=>(n:Int))=acP es pt Y ((i9 i).map fun n:Nat=>(n:Int))++acP es pt Y [(i:Int)]:=by
   unfold acP;rw[FJ,cq,lG];rfl
  refine cB fun _ U=>cS ?_;refine j5 (K:=K) (a:=x.e) (xs:=[]) (fun R z=>{_,Z9,x.a,_,_,_,Z9,Z9,SqL.of w1,(show atI _ 2=Z8 (.ref x.e) from cI (j:=2) rfl),z}) (SqL.of w2) (fun i ys G=>G=Ga/\ys=[]) ⟨Z9,Z9⟩ ?_ ?_ ?_
  ·rintro i ys G _ ⟨rfl,rfl⟩;exact{SqL.of w2,by decide}
  ·intro i v ys G hi
   cases hi
  rintro ys G' ⟨rfl,rfl⟩ l6 hk;refine gk U ?_;have s6:=az hk (.l []);have g6:=eU hk (.l []);have r:=ho.trans s6;have d:=hc.same s6;have ht:=s6 _ _ ha;have M:=Paired.mono (fun _ _ z=>DoT.same s6 z) I;have hu:=s6 _ _ w1;have hm:=s6 _ _ w3;have hq:=Paired.mono (fun _ _ z=>oJ.same s6 z) w4;revert g6 r d ht M hu hm hq;generalize upd G' l6 (.l [])=Gb;intro g6 r d ht M hu hm hq;clear s6 hk;have lu:=bQ hq;refine ic {_,Z9,x.a,_,_,_,Z9,Z9,SqL.of hu,(show atI _ 1=Z8 (.ref x.q) from cI (j:=1) rfl),x.q,us,Z9,.inl (SqL.of hm),_,_,Z9,Z9,_,Z9,?_}
  by_cases cu:us.length=0
  ·refine lS (b:=false) (Q4 (by omega)) (gm (gm (zH _ _ _ {_,_,_,_,L,Z9,r,d,ht,by omega,?_})));have e0:acP es pt Y [(i:Int)]=[]:=by
    unfold acP;rw[dZ,show pnd pt es (i:Int)=[] from by rw[<- Ea,d9.mp (lu.symm.trans cu)];rfl];rfl
   rw[ac,e0,eB];exact M
  refine lS (b:=true) (Q3 (by omega)) (iq {_,Z9,l6,_,Z9,.inl (SqL.of g6),Z9,_,Z9,lS (b:=true) rfl (iq ?_)});refine cB fun _ U=>cS ?_;dsimp only[tCB,ib];refine xV (fun R z=>{_,Z9,x.a,_,_,_,Z9,Z9,SqL.of hu,(show atI _ 1=Z8 (.ref x.q) from cI (j:=1) rfl),z}) hm hq (tw gS i) fun bs tb l7 gz=>?_;have s7:=az gz (.l (bs.map V.ref));have hp:=d.same s7;have W:=s7 _ _ ht;have O:=Paired.mono (fun _ _ z=>DoT.same s7 z) M;have y:=r.trans s7;have hh:=tb.keep fun a xs e=>s7 _ _ e;have g7:=eU gz (.l (bs.map V.ref));revert hp W O y hh g7;generalize upd Gb l7 (.l (bs.map V.ref))=Gc;intro hp W O y hh g7;refine{l7,bs,_,Z9,g7,hh,fun z=>cu ?_,fun b n _ hn hb le=>gk U ?_}
  ·rw[lu];exact (ak _).symm.trans (congrArg jJ z)
  have ek:leK (pnd pt es (i:Int))=Z8 n:=pK ⟨hn,le⟩;obtain⟨gq,_,gd⟩:=DG ek;rw[hl]at hp;obtain⟨cf,rfl,gp⟩:=hp;have gn:KyO Gc (leK (es.map Ev.key)) (.ref cf):=by
   rw[hl];exact⟨cf,Z9,gp⟩
  have gh:zo Y (Z8 n) (leK (es.map Ev.key))=false->acP es pt Y [(i:Int)]=[]:=fun z=>by
   unfold acP;rw[dZ,ek];simp only[z];rfl
  have gg:zo Y (Z8 n) (leK (es.map Ev.key))=true->acP es pt Y [(i:Int)]=[((i:Int),n)]:=fun z=>by
   unfold acP;rw[dZ,ek];simp only[z];rfl
  have hg:zo Y (Z8 n) (leK (es.map Ev.key))=true->FP (tBM K "list" zD (lV 3) (ib (HZ (ib (tC (.str "do")) (ib (lV 4) (ib (lV 7) p5)))) p5)) {nx:=zN (i+1),rt:=Q,bk:=zB,ct:=zN (i+1)} [Z8 (.ref o),Z8 Y,Z8 (.ref cf),Z8 (.ref J),Z8 (.int i),Z8 (.ref x.a),Z8 (.ref l6),Z8 (.ref b),Z7,Z7] Gc:=fun z=>by
   refine{_,Z9,.inl {Z9,_,SqL.of W},_,Z9,_,Z9,(by show 3<=aF;decide),fun t2 X=>{J,L,.ref t2,Z9,Z9,az X _ _ _ W,by omega,zH _ _ _ {_,_,_,_,L++[.ref t2],Z9,iA (y.trans (az X _)) gv _,?_,ai,by rw[aL];show L.length+1<=_;omega,?_}}}
   all_goals
    have hf:=az X (.t [.str "do",.int i,.ref b]);have kt:∀a xs,Gc a=Z8 (.t xs)->upd (upd Gc t2 (.t [.str "do",.int i,.ref b])) J (.l (L++[.ref t2])) a=Z8 (.t xs):=fun a xs e=>hv (hf _ _ e) (cQ (hf _ _ e) (hf _ _ W) nofun)
   ·exact gn.tups kt
   ·rw[ac,gg z];exact hU (Paired.mono (fun _ _ z=>DoT.tups kt z) O) {t2,b,Z9,hv ai (aC W X).symm,kt _ _ hb}
  have skip:zo Y (Z8 n) (leK (es.map Ev.key))=false->zN (i+1) [Z8 (.ref o),Z8 Y,Z8 (.ref cf),Z8 (.ref J),Z8 (.int i),Z8 (.ref x.a),Z8 (.ref l6),Z8 (.ref b),Z7,Z7] Gc:=fun z=>by
   refine zH _ _ _ {_,_,_,_,L,Z9,y,gn,W,by omega,?_};rw[ac,gh z,eB];exact O
  rcases eH with rfl|⟨a0,rfl⟩
  ·exact ic {_,Z9,_,Z9,iq (iq (hg rfl))}
  ·rw[hl]at hg skip;subst gd;refine ic {_,Z9,_,Z9,gm {_,Z9,b,_,_,_,Z9,Z9,SqT.of hb,(show atI _ 0=Z8 (.int gq.t) from cI (j:=0) rfl),_,Z9,cf,_,_,_,Z9,Z9,SqT.of gp,(show atI _ 0=Z8 (.int em.t) from cI (j:=0) rfl),_,Z9,_,_,Z9,Z9,_,_,Z9,Z9,_,Z9,?_}}
   by_cases cc:gq.t<=em.t+a0
   ·exact lS (b:=true) (Q3 cc) (iq (hg (Q3 cc)))
   ·exact lS (b:=false) (Q4 cc) (gm (skip (Q4 cc)))
 rintro σ G ⟨u4,u5,u6,u7,L,rfl,sG,ky,gf,lt,g⟩;rw[ak,lx]at g;refine U _ _ ?_;refine cB fun _ U=>{6,Z9,by decide,by decide,?_};refine mT (n:=(6:Int).toNat) (fun i σ G'=>∃u4 u8 u9:Option V,σ=[Z8 (.ref o),Z8 Y,Z8 fl,Z8 (.ref J),u4,u5,u6,u7,u8,u9]/\cA G G') {_,_,_,Z9,cA.refl _} ?_ ?_
 ·rintro zN zB zH i σ G' hi ⟨u4,u8,u9,rfl,Z⟩;refine bK {6,Z9,by decide,by decide,?_};refine mT (n:=(6:Int).toNat) (fun j σ G'=>∃u8 u9:Option V,σ=[Z8 (.ref o),Z8 Y,Z8 fl,Z8 (.ref J),Z8 (.int (0+i)),u5,u6,u7,u8,u9]/\cA G G') {_,_,Z9,Z} ?_ ?_
  ·rintro yN yB yH j σ G' hj ⟨u8,u9,rfl,Z⟩;have sH:=sG.trans Z;refine bK (cB fun _ U=>cS {_,Z9,o,_,_,_,Z9,Z9,SqL.of (sH _ _ h1),(show atI _ 1=Z8 (.ref rd) from cI (j:=1) rfl),rd,Z9,.inr {[],.inl (sH _ _ h4)},_,Z9,_,Z9,(by show 2<=aF;decide),fun t2 X=>{aO _,fun l9 he=>{Z7,?_,gk U ?_}}})
   ·have s9:=(az X (.t [.int (0+j),.int (0+i)])).trans (az he (.l []));exact oZ.t (k:=[.inl (0+(j:Int)),.inl (0+(i:Int))]) (s9 _ _ (sH _ _ h4)) ((az he (.l [])) _ _ ai)
   ·exact ic {_,Z9,l9,[],Z9,.inl (SqL.of ai),_,_,Z9,Z9,_,Z9,gm (yH _ _ _ {_,_,Z9,Z.trans ((az X _).trans (az he _))})}
  ·rintro σ G' ⟨u8,u9,rfl,Z⟩;exact zH _ _ _ {_,_,_,Z9,Z}
 ·rintro σ G' ⟨u4,u8,u9,rfl,Z⟩;exact U _ _ (gF {_,Z9,k G' J L (sG.trans Z) gv (Z _ _ gf) (Paired.mono (fun _ _ z=>DoT.same Z z) g)})
end
theorem j6{H:Hp}{v:V}(h:sc0 v):∀n,TEq H n v v
 |0=>⟨h,Z9⟩
 |_+1=>.inl ⟨h,Z9⟩
theorem Ec{H:Hp}{n:Nat}:∀{o:Option (List Int)} {u v:V},KyO H o u->KyO H o v->TEq H (n+1) u v
 |none,_,_,a,b=>by
  have a:_=V.non:=a;have b:_=V.non:=b;subst a b;exact j6 (by exact trivial) _
 |some k,_,_,⟨a,Z,ha⟩,⟨b,X,hb⟩=>by
  subst Z X;refine .inr (.inr {a,b,_,_,Z9,Z9,ha,hb,?_});clear ha hb
  induction k with
  |nil=>exact .nil
  |cons x xs Y=>exact .cons (j6 (by exact trivial) _) Y
theorem Ji{H:Hp}{n:Nat}{p q:ab}{X us:List V}{l:List (Int×List Int)}(hp:H p=Z8 (.l X))(hq:H q=Z8 (.l us))(a:bM (DoT H) X l)(b:bM (DoT H) us l):TEq H (n+3) (.ref p) (.ref q):=by
 refine .inr (.inl {p,q,_,_,Z9,Z9,hp,hq,?_});clear hp hq
 induction a generalizing us with
 |nil=>
  cases b;exact .nil
 |cons x y L=>
  cases b with
  |cons M U=>
   refine .cons ?_ (L U);obtain⟨t,c,rfl,W,O⟩:=x;obtain⟨t',J,rfl,Z,Y⟩:=M;exact .inr (.inr {t,t',_,_,Z9,Z9,W,Z,.cons (j6 (by exact trivial) _) (.cons (j6 (by exact trivial) _) (.cons (Ec (o:=Z8 _) ⟨c,Z9,O⟩ ⟨J,Z9,Y⟩) .nil))})
theorem Ai{H:Hp}{n:Nat}{p q:ab}(hp:H p=Z8 (.l []))(hq:H q=Z8 (.l [])):TEq H (n+1) (.ref p) (.ref q):=.inr (.inl {p,q,_,_,Z9,Z9,hp,hq,.nil})
theorem Jj{H:Hp}{n:Nat}{es:List Ev}{u v:V}(a:EnO H es u)(b:EnO H es v):TEq H (n+2) u v:=by
 rcases a with⟨c,t,rfl,h⟩|⟨c,rfl⟩
 ·rcases b with⟨_,t',rfl,h'⟩|⟨Z,_⟩
  ·exact .inr (.inr {t,t',_,_,Z9,Z9,h,h',.cons (j6 (by exact trivial) _) .nil})
  ·exact Q7 c Z
 ·rcases b with⟨Z,_⟩|⟨_,rfl⟩
  ·exact Q7 Z c
  ·exact j6 (by exact trivial) _
theorem rO(es:List Ev)(pt:List Int)(Z:V):∀l:List Int,acP es pt Z l=acP es pt Z (l.filter fun n=>!decide (pnd pt es n=[]))
 | []=>rfl
 |n::l=>by
  by_cases c:pnd pt es n=[]
  ·rw[jQ (by simp[c]),<- rO es pt Z l];unfold acP;rw[dZ,c];rfl
  ·rw[iF (by simp[c])];have:=rO es pt Z l;unfold acP at this |-;rw[dZ,dZ,this]
theorem FK{es:List Ev}{pt Z:List Int}(d:DOk es pt)(W:Z.Pairwise (·<·))(mem:∀n,n∈Z↔n∈pt)(Y:V):acP es pt Y Z=acP es pt Y [0,1,2,3,4,5]:=by
 rw[rO es pt Y Z,rO es pt Y [0,1,2,3,4,5],vV (W.sublist Bm) ((by decide:([0,1,2,3,4,5]:List Int).Pairwise (·<·)).sublist Bm) fun n=>?_];rw[eQ,eQ]
 constructor
 ·rintro⟨a,b⟩;obtain⟨O,M⟩:=d.n5 n ((mem n).mp a);refine{?_,b};simp only[aD,aX,or_false];omega
 ·rintro⟨a,b⟩;refine{?_,b};have X:pnd pt es n≠[]:=by simpa using b
  obtain⟨k,hk⟩:=List.exists_mem_of_ne_nil _ X;obtain⟨e,U,_⟩:=bY.mp hk;exact (mem n).mpr (aK (Q0 (eQ.mp U).2))
theorem wc{es:List Ev}{pt Z:List Int}{Y X:V}{H:Hp}(d:DOk es pt)(W:Z.Pairwise (·<·))(mem:∀n,n∈Z↔n∈pt)(e:EnO H es X):acE es pt Y X Z=if es=[] then [] else acP es pt Y [0,1,2,3,4,5]:=by
 unfold acE
 rcases e with⟨c,t,rfl,_⟩|⟨c,rfl⟩
 ·rw[Q5 (fun z=>by cases z),Q6 c]
 ·rw[Q6 rfl,Q5 c];exact FK d W mem Y
section
variable{P:aP}{w:bF}{K:ag}{mg:Str->Option ae}{base:cz}{f fFl fTb fAc fLg fSd fOu fOv fOf fSt fOa CH CP CR CC:ab}{fd fdFl fdTb fdAc fdLg fdSd fdOu fdOv fdOf fdSt fdOa:bS}
seal PS PSs PE PA PT PW PI PG PGs PC
abbrev nAk:List Str:=["_law_hall_here","_law_own","_law_ahead","_law_number","_law_records","_law_ending"]
abbrev pAk:List Str:=["_law_hall_here","_law_own","_law_ahead"]
theorem FL:bU nAk pAk (aS kA):=fK
theorem ndAk:((["_law_entry"]:List Str)++nAk).Nodup:=by decide +kernel
structure HaM(P:aP)(w:bF)(K:ag)(mg:Str->Option ae)(base:cz)(CH CP CR CC fFl fTb fAc fLg fSd fOu fOv:ab)(fdFl fdTb fdAc fdLg fdSd fdOu fdOv:bS):Prop where
 Fl:Mt K CH "floor" "Hall.floor" fG pHf fFl fdFl
 gFl:bO P w K mg base CX0 4 fFl fdFl pHf (FF CH CP CR CC)
 Tb:Mt K CH "taken_back" "Hall.taken_back" hJ pHb fTb fdTb
 gTb:bO P w K mg base CX0 1 fTb fdTb pHb (spHb CH CP CR CC)
 Ac:Mt K CH "actions" "Hall.actions" iy pHa fAc fdAc
 gAc:bO P w K mg base CX0 6 fAc fdAc pHa (Jd CH CP CR CC)
 Lg:Mt K CH "log" "Hall.log" j2 pHl fLg fdLg
 gLg:bO P w K mg base CX0 2 fLg fdLg pHl (spHl CH CP CR CC)
 Sd:Mt K CH "settled" "Hall.settled" iz pHs fSd fdSd
 gSd:bO P w K mg base CX0 2 fSd fdSd pHs (spHs CH CP CR CC)
 Ou:Mt K CH "outcome" "Hall.outcome" iY pHu fOu fdOu
 gOu:bO P w K mg base CX0 1 fOu fdOu pHu (spHu CH CP CR CC)
 Ov:Mt K CH "over" "Hall.over" jE pHo fOv fdOv
 gOv:bO P w K mg base CX0 1 fOv fdOv pHo (Jc CH CP CR CC)
inductive HB(CH CP CR CC:ab)(vs:List V)(H:Hp)(Q:VK)(_e:XK):Prop where
 |mk(h:ab)(v ah en:V)(es:List Ev)(pt:List Int)(_:vs=[.ref h,v,ah])(_:HaI CH CP CR CC es pt ah en H h)(_:EnO H es en)(_:OwI H v es pt)(_:DOk es pt)(_:(ah=.non\/∃a,ah=.int a))(_:∀G:Hp,cA H G->Q (.bl true) G):HB CH CP CR CC vs H Q _e
def Jk(CH CP CR CC:ab):Sp:=fun vs H Q Z=>HB CH CP CR CC vs H Q Z
theorem ok_ak(D:Df K mg "_law_alike" kA pAk f fd)(Z:HaM P w K mg base CH CP CR CC fFl fTb fAc fLg fSd fOu fOv fdFl fdTb fdAc fdLg fdSd fdOu fdOv)(eq:Df K mg "_law_floor" iD pOf fOf fdOf)(eo:bO P w K mg base CX0 1 fOf fdOf pOf FH)(em:Df K mg "_law_settled" jk pSt fSt fdSt)(el:bO P w K mg base CX0 2 fSt fdSt pSt Jg)(ej:Df K mg "_law_actions" ia pOa fOa fdOa)(ev:bO P w K mg base CX0 3 fOa fdOa pOa Jh)(I:HaT K mg CH)(B:Bl mg):bO P w K mg base CX0 7 f fd pAk (Jk CH CP CR CC):=by
 refine D.F.ok FL (fun vs H Q E h=>?_) (fun eg A outer s H vs Q E d h=>?_)
 ·obtain⟨h,v,O,M,es,pt,rfl,_⟩:=h;rfl
 obtain⟨h,v,O,M,es,pt,rfl,L,he,hO,W,ey,k⟩:=h;have U:=AJ d;have r6:dC 6 _:=d;have r4:dC 4 _:=d.mono (by decide);have r3:dC 3 _:=d.mono (by decide);have r2:dC 2 _:=d.mono (by decide);have r1:dC 1 _:=d.mono (by decide);refine⟨_,ax (dW ((pV (cG (qI U) (eC (pv 0) I.cl Z.Fl.m Z.gFl r4 Z.Fl.b .nil eV) (pcl eo r1 eq (aT (pv 1) ao))) (pV (cG BN (eC (pv 0) I.cl Z.Tb.m Z.gTb r1 Z.Tb.b .nil eV) (bJ bN (pv 1) au)) (px (cG (qI U) (eC (pv 0) I.cl Z.Ac.m Z.gAc r6 Z.Ac.b .nil eV) (pcl ev r3 ej (aT (pv 1) (aT (pv 2) ao))))))).pt) (aJ (bT rP)) cD)
  (ax (e9 bB rfl (gG (by rfl) B.range (cR au ao)) (pgn 3 FL) (aJ (dW (cG (qI U) (ka (pv 0) I.cl Z.Lg.m Z.gLg r2 Z.Lg.b .nil eV (aT (pv 3) ao)) (ij ["_law_entry"] (fq.open (NN:=nAk) (N:=nAk) (sc:=aS kA) rfl rfl (by decide +kernel) rfl (by decide +kernel) (by decide +kernel) rfl (by decide +kernel)) rfl (eM (bJ bN (bJ bN (bJ bN (pv 1) au) (pv 3)) au)) (fun _ _ _ _=>eZ (i:=0) ndAk rfl (Or.inl rfl)) (fun _ _ _ _=>gP) (fun _ _ _ _=>bJ (i8 K (by rfl)) (bJ (i8 K (by rfl)) (pv 0) au) au))) (aJ (bT rP)) cD)))
  (ax (vn (pcl el r2 em (aT (pv 1) ao)) (n6 rfl (e7 (pgn 4 FL) (e7 (pgn 5 FL) kR))))
  (ax (dW ((pV (cG (qI U) (eC (pv 0) I.cl Z.Sd.m Z.gSd r2 Z.Sd.b .nil eV) (pv 4)) (px (cG (qI U) (eC (pv 0) I.cl Z.Ou.m Z.gOu r1 Z.Ou.b .nil eV) (pv 5)))).pt) (aJ (bT rP)) cD)
  (aJ (bT (BC (cK kj (by rfl) B.isi oG (ie (eC (pv 0) I.cl Z.Ov.m Z.gOv r1 Z.Ov.b .nil eV) (aT (pU (v:=.ty "bool") (by rfl) B.bool boot_bool rfl) ao))) (yh (pY iS (eC (pv 0) I.cl Z.Ov.m Z.gOv r1 Z.Ov.b .nil eV) (vm (j7 (pv 5))))))))))),?_⟩
 dsimp only[cxA,cxB];obtain⟨dx,mb,rd,ce,fs,ew,kvs,rk,h1,J,ei,ec,up,mem,l9,_⟩:=id L;obtain⟨o,pl,ed,xs,rfl,w1,w2,lx,w4,w5⟩:=id hO;refine cB fun _ r=>ic {_,Z9,h,dx,fs,Z9,h1,J.no _ (by decide +kernel),h,es,pt,O,M,Z9,L,W,fun G1 u1 s1 k1=>{_,Z9,_,es,pt,Z9,hO.same s1,W,fun G2 u2 s2 k2=>{1,by decide,Ec (k1.same s2) k2,_,Z9,gm ?_}}};have Y:=s1.trans s2;refine{_,Z9,h,dx,fs,Z9,Y _ _ h1,J.no _ (by decide +kernel),h,es,pt,O,M,Z9,L.same Y,_,Z9,o,_,_,_,Z9,Z9,SqL.of (Y _ _ w1),(show atI _ 2=Z8 (.int 0) from cI (j:=2) rfl),Z9,_,Z9,gm ?_};refine{_,Z9,h,dx,fs,Z9,Y _ _ h1,J.no _ (by decide +kernel),h,es,pt,ew,O,M,Z9,L.same Y,W,ey,up,mem,l9,fun G3 l3 ts s3 _ g3 p3=>{_,Z9,_,Z9,_,O,es,pt,Z9,(hO.same Y).same s3,W,ey,fun G4 l4 us s4 _ g4 p4=>?_}};rw[wc W up mem he]at p3;refine{3,by decide,Ji (s4 _ _ g3) g4 (Paired.mono (fun _ _ z=>DoT.same s4 z) p3) p4,_,Z9,gm (r _ _ ?_)};have sA:=Y.trans (s3.trans s4);clear g3 g4 p3 p4 s3 s4 Y s1 s2 k1 k2;refine cB fun _ r=>{6,Z9,by decide,by decide,?_};refine mT (n:=(6:Int).toNat) (fun i σ G=>∃u3:Option V,σ=[Z8 (.ref h),Z8 (.ref o),Z8 O,u3,Z7,Z7]/\cA H G) {_,Z9,sA} ?_ ?_
 ·rintro zN zB zH i σ G hi ⟨u3,rfl,q⟩;rw[zj];have hi:i<6:=hi;obtain⟨x,hx⟩:∃x,xs[i]?=Z8 x:={_,aA (by omega)};refine bK (ic {_,Z9,h,dx,fs,Z9,q _ _ h1,J.no _ (by decide +kernel),_,Z9,h,es,pt,O,M,(i:Int),Z9,L.same q,fun l hl=>?_});have sl:=az hl (.l []);have gl:=eU hl (.l []);have g:=q.trans sl;revert gl g;generalize upd G l (.l [])=Ga;intro gl g;obtain⟨a1,a2,_⟩:=(w5 i x hx).same g;refine j5 (K:=K) (a:=x.e) (xs:=[]) (fun R z=>{_,Z9,o,_,_,_,Z9,Z9,SqL.of (g _ _ w1),(show atI _ 0=Z8 (.ref pl) from cI (j:=0) rfl),_,Z9,pl,_,_,_,Z9,Z9,SqL.of (g _ _ w2),cI (by rw[bD,hx];rfl),x.a,_,_,_,Z9,Z9,SqL.of a1,(show atI _ 2=Z8 (.ref x.e) from cI (j:=2) rfl),z}) (SqL.of a2) (fun i ys G=>G=Ga/\ys=[]) ⟨Z9,Z9⟩ ?_ ?_ ?_
  ·rintro i ys G _ ⟨rfl,rfl⟩;exact{SqL.of a2,by decide}
  ·intro i v ys G hi
   cases hi
  ·rintro ys G' ⟨rfl,rfl⟩ l2 et;have s2:=az et (.l []);exact{1,by decide,Ai (s2 _ _ gl) ai,_,Z9,gm (zH _ _ _ {_,Z9,g.trans s2})}
 rintro σ G ⟨u3,rfl,q⟩;refine r _ _ ?_;refine cB fun _ r=>cS {_,Z9,_,es,pt,Z9,hO.same q,W,fun G1 t l er s1 l0 gt gl y=>?_};refine{t,_,Z9,SqT.of gt,Z9,_,_,Z9,bK {_,_,Z9,bK {Z9,r _ _ ?_}}};have sH:=q.trans s1;refine cB fun _ r=>ic {_,Z9,h,dx,fs,Z9,sH _ _ h1,J.no _ (by decide +kernel),h,es,pt,O,M,Z9,L.same sH,fun l5 ek=>?_};have s5:=az ek (.l []);have X:=sH.trans s5;refine{_,Z9,1,by decide,Ai ai (s5 _ _ gl),_,Z9,gm {_,Z9,h,dx,fs,Z9,X _ _ h1,J.no _ (by decide +kernel),h,es,pt,O,M,Z9,L.same X,_,Z9,2,by decide,Jj (he.same X) (y.same s5),_,Z9,gm (r _ _ (gF ?_))}};have ee:decide (M=.non)=decide (er=.non):=by
  rcases he with⟨c,t,rfl,_⟩|⟨c,rfl⟩
  ·rcases y with⟨_,t',rfl,_⟩|⟨c',_⟩
   ·rfl
   ·exact Q7 c c'
  ·rcases y with⟨c',_⟩|⟨_,rfl⟩
   ·exact Q7 c' c
   ·rfl
 refine{_,Z9,h,dx,fs,Z9,X _ _ h1,J.no _ (by decide +kernel),h,es,pt,O,M,Z9,L.same X,_,_,_,_,Z9,.bl _,Z9,_,Z9,iq {_,Z9,h,dx,fs,Z9,X _ _ h1,J.no _ (by decide +kernel),h,es,pt,O,M,Z9,L.same X,_,Z9,Z9,?_}};rw[ee,Q3 rfl];exact k _ X
end
theorem vg{Y Z:Type}{R:Y->Z->Prop}:∀{xs:List Y} {ys:List Z},bM R xs ys->∀{i:Nat} {y:Z},ys[i]?=Z8 y->∃x,xs[i]?=Z8 x/\R x y
 |_,_,.nil,i,y,h=>by cases h
 |_,_,.cons a b,0,y,h=>by
  cases h;exact{_,Z9,a}
 |_,_,.cons a b,i+1,y,h=>vg b h
theorem Alike.tree{H H':Hp}:∀{n:Nat} {v Z:V},Tree H n v->Alike H H' n v Z->Tree H' n Z
 |0,v,Z,h,a=>by
  rw[show Z=v from a];exact h
 |n+1,v,Z,h,a=>by
  rcases a with⟨h1,rfl⟩|⟨p,Y,xs,ys,rfl,rfl,h1,h2,r⟩|⟨p,Y,xs,ys,rfl,rfl,h1,h2,r⟩
  ·exact .inl h1
  all_goals
   rcases h with h|⟨q,zs,e,e1,U,e3⟩
   ·cases h
   ·cases e;have W:zs=xs:=by
     rcases e1 with e1|e1
     all_goals
      rw[h1]at e1
      cases e1
      try rfl
    subst W;refine .inr {Y,ys,Z9,?_,by rw[<- bQ r];exact U,fun y hy=>?_}
    ·first
      |exact .inl h2
      |exact .inr h2
    ·obtain⟨j,X⟩:=cP hy;obtain⟨x,hx,z⟩:=vg r X;exact Alike.tree (e3 x (aK hx)) z
theorem Aj{h:ab}{H G G':Hp}(s:cA G G'):cA (Nh h H G) (Nh h H G'):=fun a o e=>by
 have Z:=DU _ _ e;unfold Nh at e |-
 split at e
 ·rename_i c
  rw[Q6 (c.imp id (Or.imp id fun⟨xs,z⟩=>{xs,s _ _ z}))];exact s _ _ e
 ·cases e
theorem xW{h l:ab}{H G:Hp}{xs ys:List V}(o:HO)(n:l≠h)(e:H l=Z8 (.l xs))(Z:G l=Z8 (.l ys)):cA (Nh h H G) (Nh h H (upd G l o)):=fun a u z=>by
 have X:=DU _ _ z;have Y:a≠l:=fun q=>by
  subst q;unfold Nh at z;rw[Q5]at z
  ·cases z
  ·rintro (c|c|⟨xs,c⟩)
   ·exact n c
   ·rw[e]at c
    cases c
   ·rw[Z]at c
    cases c
 unfold Nh at z |-;rw[aV Y];exact z
theorem Ed{H:Hp}{n:Nat}:∀{Z:List V} {es:List Ev},bM (mj H) Z es->bM (TEq H (n+1)) Z Z
 |_,_,.nil=>.nil
 |_,_,.cons ⟨t,e,h⟩ b=>by
  subst e;exact .cons (.inr (.inr {t,t,_,_,Z9,Z9,h,h,.cons (j6 (by exact trivial) _) (.cons (j6 (by exact trivial) _) (.cons (j6 (by exact trivial) _) (.cons (j6 (by exact trivial) _) (.cons (j6 (by exact trivial) _) (.cons (j6 (by exact trivial) _) .nil)))))})) (Ed b)
theorem xX{H:Hp}{n:Nat}:∀Z:List Int,bM (TEq H n) (Z.map V.int) (Z.map V.int)
 | []=>.nil
 |_::r=>.cons (j6 (by exact trivial) _) (xX r)
section
variable{P:aP}{w:bF}{K:ag}{mg:Str->Option ae}{base:cz}{f fP fM fD fMo fSg fPg fMI fHi fOh fAk fOa fAc fLg fSd fSp fFl fTb fOu fOv CH CP CR CC CM CS:ab}{fd fdP fdM fdD fdMo fdSg fdPg fdMI fdHi fdOh fdAk fdOa fdAc fdLg fdSd fdSp fdFl fdTb fdOu fdOv:bS}
seal PS PSs PE PA PT PW PI PG PGs PC
abbrev nL:List Str:=["_law_script","_law_purse_here","_law_machines","_law_signs_here","_law_parting_here","_law_ahead","_law_model_here","_law_handed","_law_hall_here","_law_own","_law_told"]
abbrev pL:List Str:=["_law_script"]
theorem scL:bU nL pL (aS Cj):=fK
inductive Ee(K:ag)(vs:List V)(H:Hp)(Q:VK)(_e:XK):Prop where
 |mk(a:ab)(ns:List Int)(_:vs=[.ref a])(_:SqL K H a (ns.map V.int))(_:ns.length<=63)(_:(∀x∈ns,eW x<=1048576))(_:∀H',Q (.bl true) H'):Ee K vs H Q _e
def Ak(K:ag):Sp:=fun vs H Q Z=>Ee K vs H Q Z
theorem Jl(D:Df K mg "law" Cj pL f fd)(DP:Df K mg "_law_purse" lL ["_law_script"] fP fdP)(DM:Df K mg "_law_mixed" km ["_law_cell","_law_k"] fM fdM)(DD:Df K mg "_law_draw" eE ["_law_purse_here","_law_out_of"] fD fdD)
  (lx:Df K mg "_law_model" kx pMo fMo fdMo) (le:bO P w K mg base CX0 19 fMo fdMo pMo spMo) (nu:Df K mg "_law_signs" kz pSg fSg fdSg) (nr:Df K mg "_law_parting" hZ pPg fPg fdPg) (kF:Mk K CM fMI) (lj:Binds K fdMI ["self","machines"] []) (lh:bO P w K mg base CX0 31 fMI fdMI ["self","machines"] (Iy CM 29))
  (MH:Mk K CH fHi) (lq:Binds K fdHi pHi []) (ku:bO P w K mg base CX0 33 fHi fdHi pHi (spHi CH CP CR CC CM)) (mt:Df K mg "_law_hall" lD pOh fOh fdOh) (mc:bO P w K mg base CX0 4 fOh fdOh pOh (spOh CM)) (mR:Df K mg "_law_alike" kA pAk fAk fdAk) (nB:bO P w K mg base CX0 7 fAk fdAk pAk (Jk CH CP CR CC)) (ky:Df K mg "_law_actions" ia pOa fOa fdOa) (ms:bO P w K mg base CX0 3 fOa fdOa pOa Jh)
  (Mh:HaM P w K mg base CH CP CR CC fFl fTb fAc fLg fSd fOu fOv fdFl fdTb fdAc fdLg fdSd fdOu fdOv) (nl:Mt K CH "step" "Hall.step" kl pHp fSp fdSp) (lm:bO P w K mg base CX0 7 fSp fdSp pHp (spHp CH CP CR CC)) (TH:HaT K mg CH) (TM:MdT K mg CM CS) (B:Bl mg):bO P w K mg base CX0 36 f fd pL (Ak K):=by
 have GP:bO P w K mg base CX0 2 fP fdP ["_law_script"] (zP K):=Cm DP DM B;have GD:bO P w K mg base CX0 1 fD fdD ["_law_purse_here","_law_out_of"] jM:=jN DD;have my:bO P w K mg base CX0 2 fSg fdSg pSg spSg:=ok_sg nu DD B;have lp:bO P w K mg base CX0 2 fPg fdPg pPg spPg:=ok_pg nr DD B;refine D.F.ok scL (fun vs H Q E h=>?_) (fun ki A outer s H vs Q E hr h=>?_)
 ·obtain⟨a,ns,rfl,_⟩:=h;rfl
 obtain⟨sa,ns,rfl,mq,ma,mo,fin⟩:=h;have mE:=AJ hr;have lv:dC 34 _:=hr.mono (by decide);have lr:dC 32 _:=hr.mono (by decide);have md:dC 19 _:=hr.mono (by decide);have r7:dC 7 _:=hr.mono (by decide);have r6:dC 6 _:=hr.mono (by decide);have r4:dC 4 _:=hr.mono (by decide);have r3:dC 3 _:=hr.mono (by decide);have r2:dC 2 _:=hr.mono (by decide);have r1:dC 1 _:=hr.mono (by decide);refine⟨_,ax (pst 1 scL (pcl GP r2 DP (aT (pv 0) ao)))
  (ax (pst 2 scL (pcl le md lx (aT (pv 1) (cR au ao))))
  (ax (pst 3 scL (pcl my r2 nu (aT (pv 1) (aT (pv 2) (cR au ao)))))
  (ax (pst 4 scL (pcl lp r2 nr (aT (pv 1) (ie (cK (dH K (by rfl)) (by rfl) B.len bV (aT (pv 2) ao)) ao))))
  (ax (pst 5 scL (bJ bN (dv (cR pq (cR au (ie (pcl GD r1 DD (aT (pv 1) (cR au ao))) (mU (cV pA au au) ao))))) (pcl GD r1 DD (aT (pv 1) (cR au ao)))))
  (ax (pst 6 scL (p8 kF lh lr (by rfl) TM.mM lj .nil eV (aT (pv 2) ao)))
  (ax (pst 7 scL (dv (ie (i6 (sI K (by rfl)) (by rfl) B.list boot_list (aT (pv 3) ao)) (ie (i6 (sI K (by rfl)) (by rfl) B.list boot_list (aT (pv 4) ao)) ao))))
  (ax (pst 8 scL (p8 MH ku lv (by rfl) TH.mH lq .nil eV (aT (pv 6) (jA (bJ bN (pv 7) au) (jA (bJ bN (pv 7) au) (aT (pv 5) ao))))))
  (ax (dW (cG (qI mE) (pv 7) (dv (aT (pv 3) (aT (pv 4) ao)))) (aJ (bT rP)) cD)
  (ax (eL (B1 bE vh vk uI (bJ bN (pv 7) au)))
  (ax (eL (B1 bE vh vk uI (bJ bN (pv 7) au)))
  (ax (pst 9 scL (pcl mc r4 mt (aT (pv 6) (aT (pv 3) (aT (pv 4) ao)))))
  (ax (dW (BB (mB (pcl nB r7 mR (aT (pv 8) (aT (pv 9) (aT (pv 5) ao)))))) (aJ (bT rP)) cD)
  (ax (e9 bB rfl (eM (dv (ie (eC (pv 8) TH.cl Mh.Ac.m Mh.gAc r6 Mh.Ac.b .nil eV) (ie (ka (pv 8) TH.cl Mh.Lg.m Mh.gLg r2 Mh.Lg.b .nil eV (cR au ao)) (ie (eC (pv 8) TH.cl Mh.Sd.m Mh.gSd r2 Mh.Sd.b .nil eV) ao))))) (pgn 10 scL) (aJ (eL (kh bE bZ cg fZ (pv 10) (j3 (dR (cR eO (cR au (j3 (dR (cR au (cR au (cR au (cR au ao))))) ao)))) ao) (hs:=jO)))))
  (ax (dW ((lQ (cG iS (cK (dH K (by rfl)) (by rfl) B.len bV (ie (pcl ms r3 ky (aT (pv 9) (aT (pv 5) ao))) ao)) au) (j8 (jx (j7 (ka (pv 8) TH.cl nl.m lm r7 nl.b .nil eV (cR au ao)))))).pt) (aJ (bT rP)) cD)
  (aJ (bT (pcl nB r7 mR (aT (pv 8) (aT (pv 9) (aT (pv 5) ao)))))))))))))))))))),?_⟩
 dsimp only[cxA,cxB];have big:=ef;refine cB fun _ Z=>cS {_,Z9,sa,ns,Z9,mq,ma,mo,fun p H1 np qw s1=>gk Z ?_};refine cB fun _ Z=>cS {_,Z9,p,6,Z9,qw,by decide,by decide,fun ml xs Ms H2 nf oc qu m0 m6 mF qo b2=>gk Z ?_};have nA:xs.length=Ms.length:=bQ qu;have rc:∀{G:Hp} {b:ab},dM G p->G b=Z7->b≠p:=fun⟨x,y,e⟩ n=>(aC e n).symm;have pr:=rc qw nf;refine cB fun _ Z=>cS {_,Z9,_,Z9,p,ml,10,xs,Z9,qo,oc,pr,(fun x hx=>?_),by omega,by omega,by decide,by decide,fun sg X es H3 nq nE nO kc mP qr b3=>gk Z ?_}
 ·obtain⟨M,_,t,rfl,z⟩:=lF qu x hx;exact z.hrd
 have nK:=rc qo nq;have qz:=b3 _ _ oc pr;refine cB fun _ Z=>cS {_,Z9,_,Z9,ml,_,Z9,.inl (SqL.of qz),p,Ms.length,(by show [V.ref p,V.int (xs.length:Int)]=_;rw[nA]),qr,by omega,fun pl pt H4 nI nH nS n5 nC b4=>gk Z ?_};have nw:=rc qr nI;refine cB fun _ Z=>cS {_,Z9,p,9,Z9,nC,by decide,by decide,fun a9 H5 a0 a1 os b5=>{_,_,Z9,Z9,{by decide,by decide,by decide},(by show 4<=aF;decide),fun la ro=>{_,Z9,p,4,Z9,os.same (az ro _),by decide,by decide,fun wy H6 w0 w1 lP b6=>?_}}};have nn:=b6 _ _ (eU ro _) (rc os ro);obtain⟨U,nd,ra⟩:∃U,atI [V.non,.int 0,.int a9,.int ((10:Int)^(6:Int).toNat)] wy=Z8 U/\(U=.non\/∃a,U=.int a):=by
  have:wy=0\/wy=1\/wy=2\/wy=3:=by omega
  rcases this with rfl|rfl|rfl|rfl
  ·exact{_,cI (j:=0) rfl,.inl rfl}
  ·exact{_,cI (j:=1) rfl,.inr {_,Z9}}
  ·exact{_,cI (j:=2) rfl,.inr {_,Z9}}
  ·exact{_,cI (j:=3) rfl,.inr {_,Z9}}
 refine{la,_,wy,U,Z9,Z9,SqL.of nn,nd,gk Z ?_};have nW:But p H4 H6:=fun c o e n=>b6 _ _ ((az ro _) _ _ (b5 _ _ e n)) n;have re:But p H3 H6:=b4.trans nW;have rs:=re _ _ qz pr;have pc:=re _ _ nE nK;have pi:=nW _ _ nH nw;have oT:bM (mj H6) X es:=Paired.mono (fun v e ⟨t,e1,e2⟩=>{t,e1,re _ _ e2 (by obtain⟨x,y,z⟩:=qr;exact cQ e2 z nofun)}) nO;have pg:bM (MIn Ms.length H1 H6) xs Ms:=Paired.mono (fun v M z=>by
  obtain⟨t,e,y⟩:=z;exact{t,e,y.but qw qo (b3.trans re)}) qu
 have nU:∀e∈es,0<=e.to/\e.to<(Ms.length:Int):=fun e he=>by
  have:=(mP e he).to;rw[nA]at this;exact this
 clear b6 b5 b4 b3 b2 re nW qu oc qz nE nH nO nn nd ro qw qo qr nC os lP rc nf nq nI pr nK nw mP mF s1 np;refine cB fun _ Z=>cS (qM {_,Z9,fun m Y hm nP ly=>?_});have sA:cA H6 (upd (upd H6 Y (.own m)) m (.ins CM Y [])):=fun b o e=>hv (hv e (aC e nP)) (aC e hm);have mA:upd (upd H6 Y (.own m)) m (.ins CM Y []) m=Z8 (.ins CM Y []):=ai;have rb:bM (MIn Ms.length H1 (upd (upd H6 Y (.own m)) m (.ins CM Y []))) xs Ms:=Paired.mono (fun v M z=>by
  obtain⟨t,e,y⟩:=z;exact{t,e,y.same sA}) pg
 have ot:=Fc (sA _ _ rs) rb (by omega);refine{m,Y,.ref ml,Z9,ai,ot,fun v' G6 s6 al=>{Z9,gk Z ?_}};have nj:=s6 _ _ mA;have nR:=Alike.keep (H2:=upd G6 m (.ins CM Y (aM "machines" v' []))) (fun a o e n=>hv e (cQ e nj (n _ _ _))) al;have sB:cA H6 (upd G6 m (.ins CM Y (aM "machines" v' []))):=iA (sA.trans s6) hm _;have MT:MoT CM Ms (upd G6 m (.ins CM Y (aM "machines" v' []))) m:=by
  obtain⟨lf,e,kt⟩:=Fd (sA _ _ rs) rb nR;subst e;exact{Y,lf,_,ai,by rw[fJ,Q6 rfl],kt,Alike.tree ot nR}
 have O:=sB _ _ pc;have L:=sB _ _ pi;have W:=Paired.mono (fun _ _ z=>mj.same sB z) oT;revert MT O L W;generalize upd G6 m (.ins CM Y (aM "machines" v' []))=GB;intro MT O L W;clear al nR sB nj ot rb mA sA pg rs pc pi oT s6 hm nP ly;refine cB fun _ Z=>cS {_,Z9,sg,_,Z9,.inl (SqL.of O),fun s2 ru=>{_,Z9,pl,_,Z9,.inl (SqL.of ((az ru _) _ _ L)),fun p2 g=>{(by show 2<=aF;decide),fun hd ri=>gk Z ?_}}};have t1:=az ru (.l X);have t2:=az g (.l (pt.map V.int));have t3:=az ri (.l [.ref s2,.ref p2]);have g2:=(t2.trans t3) _ _ (eU ru (.l X));have gp:=t3 _ _ (eU g (.l (pt.map V.int)));have gh:=eU ri (.l [.ref s2,.ref p2]);have ll:=none_of t1 g;have lc:s2≠hd:=aC (t2 _ _ (eU ru (.l X))) ri;have jp:p2≠hd:=aC (eU g (.l (pt.map V.int))) ri;have ou:s2≠p2:=aC (eU ru (.l X)) g;have sC:=t1.trans (t2.trans t3);revert g2 gp gh sC;generalize upd (upd (upd GB s2 (.l X)) p2 (.l (pt.map V.int))) hd (.l [.ref s2,.ref p2])=GC;intro g2 gp gh sC;clear t1 t2 t3 g ri;have nt:atI [V.ref s2,V.ref p2] 0=Z8 (.ref s2):=cI (j:=0) rfl;have nM:atI [V.ref s2,V.ref p2] 1=Z8 (.ref p2):=cI (j:=1) rfl;refine cB fun _ Z=>cS (qM {_,Z9,_,Z9,hd,_,_,_,Z9,Z9,SqL.of gh,nt,_,Z9,hd,_,_,_,Z9,Z9,SqL.of gh,nM,_,Z9,fun h rr hh mS ko=>?_});have sD:cA GC (upd (upd GC rr (.own h)) h (.ins CH rr [])):=fun b o e=>hv (hv e (aC e mS)) (aC e hh);have oD:∀{G G':Hp},cA G G'->MoT CM Ms G m->MoT CM Ms G' m:=fun s ⟨dx,ml,fs,h1,h2,h3,h4⟩=>{dx,ml,fs,s _ _ h1,h2,h3.same s,h4.same s};have lM:s2≠h:=aC g2 hh;have kq:p2≠h:=aC gp hh;have nQ:=sC.trans sD;refine{h,rr,m,s2,p2,U,Ms,X,es,pt,Z9,ai,oD nQ MT,by omega,sD _ _ g2,Paired.mono (fun _ _ z=>mj.same nQ z) W,nU,by omega,sD _ _ gp,nS,n5,fun G8 en b8 hH he=>{Z9,gk Z ?_}};have py:=sD _ _ g2;have qa:=sD _ _ gp;have s8:cA GC G8:=fun c o e=>b8 _ _ (sD _ _ e) (aC e hh);revert hH he py qa;generalize upd (upd GC rr (.own h)) h (.ins CH rr [])=HD;intro hH he py qa;refine cB fun _ Z=>ic {_,Z9,_,Z9,_,Z9,(by show 2<=aF;decide),fun lw pu=>?_};have J:=s8.trans (az pu (.l [.ref sg,.ref pl]));have r:=sC.trans J;have pR:=hH.same (Aj (az pu (.l [.ref sg,.ref pl])));have qn:=he.same (Aj (az pu (.l [.ref sg,.ref pl])));have gw:=eU pu (.l [.ref sg,.ref pl]);revert J r pR qn gw;generalize upd G8 lw (.l [.ref sg,.ref pl])=G9;intro J r pR qn gw;have pm:=Paired.mono (fun _ _ z=>mj.same r z) W;refine{4,by decide,.inr (.inl {hd,lw,_,_,Z9,Z9,J _ _ gh,gw,.cons (.inr (.inl {s2,sg,_,_,Z9,Z9,J _ _ g2,r _ _ O,Ed pm})) (.cons (.inr (.inl {p2,pl,_,_,Z9,Z9,J _ _ gp,r _ _ L,xX _})) .nil)}),_,Z9,gm (Z _ _ ?_)};refine cB fun _ Z=>{_,Z9,hd,_,_,_,Z9,Z9,SqL.of (J _ _ gh),nt,.inl {Z9,_,SqL.of (J _ _ g2)},s2,_,Z9,Z9,J _ _ g2,Z _ _ ?_};refine cB fun _ Z=>{_,Z9,hd,_,_,_,Z9,Z9,SqL.of (hv (J _ _ gh) lc.symm),nM,.inl {Z9,_,SqL.of (hv (J _ _ gp) ou.symm)},p2,_,Z9,Z9,hv (J _ _ gp) ou.symm,Z _ _ ?_};have c1:=xW (h:=h) (H:=HD) (G:=G9) (.l []) lM py (J _ _ g2);have c2:=xW (h:=h) (H:=HD) (G:=upd G9 s2 (.l [])) (.l []) kq qa (hv (J _ _ gp) ou.symm);have cc:=c1.trans (c2.trans DU);have ql:=pR.same cc;have pp:=qn.same cc;have sX:cA GB (upd (upd G9 s2 (.l [])) p2 (.l [])):=iA (iA r ru _) ll _;revert ql pp sX;generalize upd (upd G9 s2 (.l [])) p2 (.l [])=GX;intro ql pp sX;clear cc c1 c2 pR qn hH he J r gw pm py qa;have q:=DX (es:=es) (pt:=pt) (by omega) n5 (by rw[nS];exact nU);obtain⟨na,mD,lk,q1,q2,q3,_⟩:=oD sX MT;refine cB fun _ Z=>cS {_,Z9,_,Z9,_,Z9,m,sg,pl,Ms,X,es,pt,Z9,⟨na,mD,lk,q1,q2,q3⟩,by omega,sX _ _ O,Paired.mono (fun _ _ z=>mj.same sX z) W,nU,by omega,sX _ _ L,nS,n5,fun GY v sY hO=>gk Z ?_};have ov:=ql.same sY;have od:=pp.same sY;refine cB fun _ Z=>ic {_,Z9,_,Z9,_,Z9,h,v,U,en,evs es,pt,Z9,ov,od,hO,q,ra,fun GZ sZ=>{_,Z9,gm (Z _ _ ?_)}};have rf:=ov.same sZ;have ob:=od.same sZ;have kG:=hO.same sZ;clear ql pp sX ov od hO sY sZ q1 q2 q3 MT oD;obtain⟨dx,mb,rd,ce,fs,oL,kvs,rk,h1,hf,kn,ke,up,mem,l9,_⟩:=id rf;refine cB fun _ Z=>{_,Z9,h,dx,fs,Z9,h1,hf.no _ (by decide +kernel),h,evs es,pt,oL,U,en,Z9,rf,q,ra,up,mem,l9,fun Ga la ts s1 ld ga pa=>{_,Z9,h,dx,fs,Z9,s1 _ _ h1,hf.no _ (by decide +kernel),h,evs es,pt,U,en,0,Z9,rf.same s1,fun lg I=>{_,Z9,h,dx,fs,Z9,(az I _) _ _ (s1 _ _ h1),hf.no _ (by decide +kernel),h,evs es,pt,U,en,Z9,rf.same (s1.trans (az I _)),fun ls rl=>{(by show 3<=aF;decide),fun lt d=>{lt,Z9,{_,SqL.of ai},?_}}}}};have t1:=az I (.l []);have t2:=az rl (.l []);have t3:=az d (.l [.ref la,.ref lg,.ref ls]);have ol:=(t1.trans (t2.trans t3)) _ _ ga;have nT:=(t2.trans t3) _ _ (eU I (.l []));have ow:=t3 _ _ (eU rl (.l []));have oi:=eU d (.l [.ref la,.ref lg,.ref ls]);have n1:la≠lt:=aC ((t1.trans t2) _ _ ga) d;have n2:lg≠lt:=aC (t2 _ _ (eU I (.l []))) d;have n3:ls≠lt:=aC (eU rl (.l [])) d;have mr:=none_of s1 I;have mu:=none_of (s1.trans t1) rl;have sT:=s1.trans (t1.trans (t2.trans t3));have po:=bQ pa;rw[wc q up mem ob]at po;have mG:=vW (evs es) pt U [0,1,2,3,4,5];have po:ts.length<=6:=by
  rw[po]
  split
  ·exact aO _
  ·exact mG
 revert ol nT ow oi sT;generalize upd (upd (upd Ga lg (.l [])) ls (.l [])) lt (.l [.ref la,.ref lg,.ref ls])=GT;intro ol nT ow oi sT;clear t1 t2 t3 I rl d;refine iM (K:=K) (a:=lt) (xs:=[.ref la,.ref lg,.ref ls]) (fun i σ G=>∃qd:Option V,σ=[Z8 (.ref sa),Z8 (.ref p),Z8 (.ref ml),Z8 (.ref sg),Z8 (.ref pl),Z8 U,Z8 (.ref m),Z8 (.ref hd),Z8 (.ref h),Z8 v,qd]/\cA GZ G/\G lt=Z8 (.l [.ref la,.ref lg,.ref ls])/\∀x∈[la,lg,ls],∃zs:List V,G x=Z8 (.l zs)/\zs.length<=6+i) {_,Z9,sT,oi,fun x hx=>?_} ?_ ?_ ?_
 ·simp only[aD,aX,or_false]at hx
  rcases hx with rfl|rfl|rfl
  ·exact⟨ts,ol,po⟩
  ·exact{[],nT,aO _}
  ·exact{[],ow,aO _}
 ·rintro i σ G _ ⟨_,rfl,_,z,_⟩;exact SqL.of z
 ·rintro zN zB zH i u σ G hi ⟨qd,rfl,sG,gt,hz⟩;obtain⟨x,mx,rfl⟩:∃x∈[la,lg,ls],u=.ref x:=by
   have:=aK hi;simp only[aD,aX,or_false]at this
   rcases this with rfl|rfl|rfl
   ·exact{la,by simp,Z9}
   ·exact{lg,by simp,Z9}
   ·exact{ls,by simp,Z9}
  have li:i<3:=(ay.mp hi).1;obtain⟨zs,gz,lz⟩:=hz x mx;have x0:GZ x=Z7/\x≠lt:=by
   simp only[aD,aX,or_false]at mx
   rcases mx with rfl|rfl|rfl
   ·exact⟨ld,n1⟩
   ·exact⟨mr,n2⟩
   ·exact⟨mu,n3⟩
  refine bK {_,Z9,.inl {Z9,_,SqL.of gz},(by show 4<=aF;decide),fun t4 lu=>{(by show 3<=aF;decide),fun t5 ln=>?_}};have qi:=(az lu (.t [.int 0,.int 0,.int 0,.int 0])).trans (az ln (.t [.str "do",.int 0,.ref t4]));refine{x,zs,.ref t5,Z9,Z9,qi _ _ gz,by omega,zH _ _ _ {_,Z9,iA (sG.trans qi) x0.1 _,hv (qi _ _ gt) x0.2.symm,fun y hy=>?_}}
  by_cases c:y=x
  ·rw[c];exact{_,ai,by rw[aL];show zs.length+1<=_;omega}
  ·obtain⟨ws,gw,js⟩:=hz y hy;exact{ws,hv (qi _ _ gw) c,by omega}
 rintro σ G ⟨qd,rfl,sG,_⟩;refine Z _ _ ?_;have nb:=rf.same sG;have mL:=ob.same sG;have nD:=kG.same sG;have mN:=sG _ _ h1;have last:∀{G'},cA G G'->HaI CH CP CR CC (evs es) pt U en G' h/\EnO G' (evs es) en/\OwI G' v (evs es) pt:=fun s=>{nb.same s,mL.same s,nD.same s};refine cB fun _ Z=>ic {_,Z9,_,Z9,v,U,evs es,pt,Z9,nD,q,ra,fun Gb lb us sb kb kv pb=>{lb,us,Z9,.inl (SqL.of kv),Z9,_,Z9,?_}};have oI:∀{G'},cA G G'->HL (wQ (Jk CH CP CR CC) [] E0 (ib (lV 8) (ib (lV 9) (ib (lV 5) p5)))) {nx:=fun _ H'=>Q .non H',rt:=Q} [Z8 (.ref sa),Z8 (.ref p),Z8 (.ref ml),Z8 (.ref sg),Z8 (.ref pl),Z8 U,Z8 (.ref m),Z8 (.ref hd),Z8 (.ref h),Z8 v,qd] G':=fun s=>by
  obtain⟨z1,z2,z3⟩:=last s;exact gF {_,Z9,_,Z9,_,Z9,h,v,U,en,evs es,pt,Z9,z1,z2,z3,q,ra,fun _ _=>fin _}
 by_cases c:us.length=0
 ·refine lS (b:=true) (by simp[c]) (iq {_,Z9,h,dx,fs,Z9,sb _ _ mN,hf.no _ (by decide +kernel),h,evs es,pt,oL,U,en,3,Z9,nb.same sb,q,ra,up,mem,l9,?_,fun Gc sc=>{_,Z9,gm (Z _ _ (oI (sb.trans sc)))}});rw[wc q up mem ob];exact d9.mp ((bQ pb).symm.trans c)
 ·refine lS (b:=false) (Q4 fun z=>c (by injection z with z;omega)) (gm (gm (Z _ _ (oI sb))))
end
theorem mY{Z:Type}{n:Nat}{us:List Z}(h:us.length=n+1):∃a l,us=a::l/\l.length=n:=by
 cases us with
 |nil=>cases h
 |cons a l=>exact{a,l,Z9,pT h}
theorem we{Z:Type}{us:List Z}(h:us.length=1):∃a,us=[a]:=by
 obtain⟨a,l,rfl,h⟩:=mY h
 cases l with
 |nil=>exact⟨a,Z9⟩
 |cons b l=>cases h
theorem wg{Z:Type}{us:List Z}(h:us.length=2):∃a b,us=[a,b]:=by
 obtain⟨x,l,rfl,h'⟩:=mY h;obtain⟨a1,rfl⟩:=we h';exact⟨x,a1,Z9⟩
theorem wj{Z:Type}{us:List Z}(h:us.length=3):∃a b c,us=[a,b,c]:=by
 obtain⟨x,l,rfl,h'⟩:=mY h;obtain⟨a1,Y,rfl⟩:=wg h';exact⟨x,a1,Y,Z9⟩
theorem wk{Z:Type}{us:List Z}(h:us.length=4):∃a b c d,us=[a,b,c,d]:=by
 obtain⟨x,l,rfl,h'⟩:=mY h;obtain⟨a1,Y,X,rfl⟩:=wj h';exact⟨x,a1,Y,X,Z9⟩
theorem wm{Z:Type}{us:List Z}(h:us.length=5):∃a b c d e,us=[a,b,c,d,e]:=by
 obtain⟨x,l,rfl,h'⟩:=mY h;obtain⟨a1,X,W,Y,rfl⟩:=wk h';exact⟨x,a1,X,W,Y,Z9⟩
theorem FM{Z:Type}{us:List Z}(h:us.length=6):∃a b c d e f,us=[a,b,c,d,e,f]:=by
 obtain⟨x,l,rfl,h'⟩:=mY h;obtain⟨a1,X,W,Y,e1,rfl⟩:=wm h';exact⟨x,a1,X,W,Y,e1,Z9⟩
theorem Al{Z:Type}{us:List Z}(h:us.length=7):∃a b c d e f g,us=[a,b,c,d,e,f,g]:=by
 obtain⟨x,l,rfl,h'⟩:=mY h;obtain⟨a1,X,W,Y,e1,f1,rfl⟩:=FM h';exact⟨x,a1,X,W,Y,e1,f1,Z9⟩
def Dn(K:ag)(x:Str)(st:dI)(f:ab):Prop:=cM K bW x=Z8 (Z8 (.ref f))/\∃fd,Fun K x x st f fd
def Mn(K:ag)(C:ab)(x q:Str)(st:dI)(f:ab):Prop:=(bA K (.ref C) x=Z8 (Z8 (.ref f))/\mI K (.ref f)=true)/\∃fd,Fun K x q st f fd
structure Cn(K:ag)(C:ab):Prop where
 c:Cls K C
 m:rh K C=true
 k:ip K (.ref C)=true
theorem dn_i{K:ag}{x:Str}{st:dI}{f:ab}{Y:ae}{X O:Option ab}{W:Array (Option ae)}{kV V U Z ct:ae}(a:cM K bW x=Z8 (Z8 (.ref f)))(l:K.lookup f=Z8 {Y,X,.func (gu x x (kS st) (kd st) (aS st) .none kV V U O Z ct),W})(c:k0 K Z x=true)(k:ip K (.ref f)=true):Dn K x st f:={a,_,B4 l c k}
theorem mn_i{K:ag}{x q:Str}{st:dI}{f C:ab}{Y:ae}{X O:Option ab}{W:Array (Option ae)}{kV V U Z ct:ae}(a:bA K (.ref C) x=Z8 (Z8 (.ref f)))(i:mI K (.ref f)=true)(l:K.lookup f=Z8 {Y,X,.func (gu x q (kS st) (kd st) (aS st) .none kV V U O Z ct),W})(c:k0 K Z q=true)(k:ip K (.ref f)=true):Mn K C x q st f:={⟨a,i⟩,_,B4 l c k}
theorem dfx{K:ag}{h:cz}{mg:Str->Option ae}{x:Str}{st:dI}{f:ab}(ps:List Str)(X:K.In h)(G:h.Ns bW mg)(a:Dn K x st f)(hb:∀(kV Y V:ae) (U:Option ab) (W ct:ae) (us:List ae),us.length=ps.length->yu (gu x x (kS st) (kd st) (aS st) .none kV Y V U W ct) {us,[]}=pure (ps.zip us):=by intro _ _ _ _ _ _ us Z;first|(obtain⟨a,rfl⟩:=we Z;rfl)|(obtain⟨a,b,rfl⟩:=wg Z;rfl)|(obtain⟨a,b,c,rfl⟩:=wj Z;rfl)|(obtain⟨a,b,c,d,rfl⟩:=wk Z;rfl)|(obtain⟨a,b,c,d,e,rfl⟩:=wm Z;rfl)|(obtain⟨a,b,c,d,e,f,g,rfl⟩:=Al Z;rfl)):∃fd,Df K mg x st ps f fd:=by
 obtain⟨a,fd,F⟩:=a;exact{fd,F,F.binds hb,jr X G a}
theorem mfx{K:ag}{x q:Str}{st:dI}{f C:ab}(ps:List Str)(a:Mn K C x q st f)(hb:autoParam (∀(kV Y W:ae) (V:Option ab) (X ct:ae) (us:List ae),us.length=ps.length->yu (gu x q (kS st) (kd st) (aS st) .none kV Y W V X ct) {us,[]}=pure (ps.zip us)) dfx._auto_1):∃fd,Fun K x q st f fd/\Binds K fd ps []/\yp K C x f:=by
 obtain⟨⟨a,i⟩,fd,F⟩:=a;exact{fd,F,F.binds hb,a,i,F.kp}
theorem law_b{K:ag}{x q:Str}{st:dI}{f:ab}{fd:bS}{y:Str}(F:Fun K x q st f fd)(hb:∀(kV Z X:ae) (W:Option ab) (Y ct v:ae),yu (gu x q (kS st) (kd st) (aS st) .none kV Z X W Y ct) {[v],[]}=pure [(y,v)])(s:aj)(v:ae):tN s fd {[v],[]} [(y,v)]:=by
 obtain⟨U,O,kV,Z,X,W,Y,ct,V,rfl,_⟩:=F.ex;exact .of_eq (hb kV Z X W Y ct v)
theorem all_mk{l:rm}{w:bF}{K:ag}{h:cz}{mg:Str->Option ae}{fa f1 f2 f3 f4 f5 f6 f7 f8 f9 ee de gh gt hO dg hE ew em hr el dd hT hA hn fz gz hG hI eH db CM cp CS dr CC eg hc ez cx CP hd he cl gl ek CR gS eo CH ed ga ey dp hS ho ev dV cn gq io hg cu co ec:ab}(X:K.In h)(G:h.Ns bW mg)(cr:mg "law"=Z8 (.ref fa))
  (a1:Dn K "copied" me f1) (a2:Dn K "first_state" jg f2) (a3:Dn K "place_in" k7 f3) (a4:Dn K "put_in" qj f4) (a5:Dn K "last_of" mf f5) (a6:Dn K "is_below" sE f6) (a7:Dn K "key_of" xj f7) (a8:Dn K "record_of" qZ f8) (a9:Dn K "pending_at_first" gM f9) (a10:Dn K "parts_by_number" gb ee) (a11:Dn K "roads_by_ends" ju de) (a12:Dn K "_law_mixed" km gh) (a13:Dn K "_law_purse" lL gt) (a14:Dn K "_law_draw" eE hO) (a15:Dn K "_law_names" kr dg) (a16:Dn K "_law_leaf" iZ hE) (a17:Dn K "_law_formula" hX ew) (a18:Dn K "_law_send" lB em) (a19:Dn K "_law_deed" lC hr) (a20:Dn K "_law_deeds" jF el) (a21:Dn K "_law_machine" jj dd) (a22:Dn K "_law_model" kx hT) (a23:Dn K "_law_signs" kz hA) (a24:Dn K "_law_parting" hZ hn) (a25:Dn K "_law_hall" lD fz) (a26:Dn K "_law_floor" iD gz) (a27:Dn K "_law_settled" jk hG) (a28:Dn K "_law_actions" ia hI) (a29:Dn K "_law_alike" kA eH) (a30:Dn K "law" Cj db) (aCM:cM K bW "Model"=Z8 (Z8 (.ref CM))) (a31:Mn K CM "__init__" "Model.__init__" mO cp) (pCM:Cn K CM) (nCMmachines:bA K (.ref CM) "machines"=Z8 Z7) (aCS:cM K bW "State"=Z8 (Z8 (.ref CS))) (a32:Mn K CS "__init__" "State.__init__" kT dr) (pCS:Cn K CS) (nCSboxes:bA K (.ref CS) "boxes"=Z8 Z7) (nCSqueues:bA K (.ref CS) "queues"=Z8 Z7) (nCSdrawn:bA K (.ref CS) "drawn"=Z8 Z7) (nCSsent:bA K (.ref CS) "sent"=Z8 Z7) (aCC:cM K bW "Calendar"=Z8 (Z8 (.ref CC))) (a33:Mn K CC "__init__" "Calendar.__init__" jt eg) (a34:Mn K CC "put" "Calendar.put" iX hc) (a35:Mn K CC "least" "Calendar.least" iw ez) (a36:Mn K CC "row_for" "Calendar.row_for" gL cx) (pCC:Cn K CC) (nCCthings:bA K (.ref CC) "things"=Z8 Z7) (nCCrows:bA K (.ref CC) "rows"=Z8 Z7) (aCP:cM K bW "Part"=Z8 (Z8 (.ref CP))) (a37:Mn K CP "__init__" "Part.__init__" oC hd) (a38:Mn K CP "least" "Part.least" iI he) (a39:Mn K CP "await_one" "Part.await_one" ix cl) (a40:Mn K CP "is_stopped" "Part.is_stopped" g8 gl) (a41:Mn K CP "pass_below" "Part.pass_below" g9 ek) (pCP:Cn K CP) (nCPmodel:bA K (.ref CP) "model"=Z8 Z7) (nCPstates:bA K (.ref CP) "states"=Z8 Z7) (nCPpending:bA K (.ref CP) "pending"=Z8 Z7) (nCPentries:bA K (.ref CP) "entries"=Z8 Z7) (nCPpassed:bA K (.ref CP) "passed"=Z8 Z7) (aCR:cM K bW "Road"=Z8 (Z8 (.ref CR))) (a42:Mn K CR "__init__" "Road.__init__" oE gS) (a43:Mn K CR "least" "Road.least" jL eo) (pCR:Cn K CR) (nCRletters:bA K (.ref CR) "letters"=Z8 Z7) (nCRunheard:bA K (.ref CR) "unheard"=Z8 Z7) (aCH:cM K bW "Hall"=Z8 (Z8 (.ref CH))) (a44:Mn K CH "__init__" "Hall.__init__" oF ed) (a45:Mn K CH "actions" "Hall.actions" iy ga) (a46:Mn K CH "possible_doings" "Hall.possible_doings" fb ey) (a47:Mn K CH "may_do" "Hall.may_do" jh dp) (a48:Mn K CH "possible_hearings" "Hall.possible_hearings" eI hS) (a49:Mn K CH "step" "Hall.step" kl ho) (a50:Mn K CH "do_in" "Hall.do_in" mQ ev) (a51:Mn K CH "hear_on" "Hall.hear_on" lA dV) (a52:Mn K CH "floor" "Hall.floor" fG cn) (a53:Mn K CH "settle" "Hall.settle" ji gq) (a54:Mn K CH "over" "Hall.over" jE io) (a55:Mn K CH "outcome" "Hall.outcome" iY hg) (a56:Mn K CH "settled" "Hall.settled" iz cu) (a57:Mn K CH "log" "Hall.log" j2 co) (a58:Mn K CH "taken_back" "Hall.taken_back" hJ ec) (pCH:Cn K CH) (nCHmodel:bA K (.ref CH) "model"=Z8 Z7) (nCHparting:bA K (.ref CH) "parting"=Z8 Z7) (nCHahead:bA K (.ref CH) "ahead"=Z8 Z7) (nCHmembers:bA K (.ref CH) "members"=Z8 Z7) (nCHroads:bA K (.ref CH) "roads"=Z8 Z7) (nCHcertain:bA K (.ref CH) "certain"=Z8 Z7) (nCHending:bA K (.ref CH) "ending"=Z8 Z7) (nCHback_count:bA K (.ref CH) "back_count"=Z8 Z7) (zlen:cM K bW "len"=Z8 Z7) (zabs:cM K bW "abs"=Z8 Z7) (zisinstance:cM K bW "isinstance"=Z8 Z7) (zlist:cM K bW "list"=Z8 Z7) (ztuple:cM K bW "tuple"=Z8 Z7) (zstr:cM K bW "str"=Z8 Z7) (zint:cM K bW "int"=Z8 Z7) (zbool:cM K bW "bool"=Z8 Z7) (zrange:cM K bW "range"=Z8 Z7) (zmax:cM K bW "max"=Z8 Z7) (zdict:cM K bW "dict"=Z8 Z7) (zsorted:cM K bW "sorted"=Z8 Z7) (zenumerate:cM K bW "enumerate"=Z8 Z7) (zset:cM K bW "set"=Z8 Z7) (zmin:cM K bW "min"=Z8 Z7) :
  ∃fd:bS,(∀(s:aj) (v:ae),tN s fd {[v],[]} [("_law_script",v)])/\∀base:cz,K.In base->base.Ns bW mg->bO l.prog w K mg base CX0 36 fa fd ["_law_script"] (Ak K):=by
 obtain⟨_,D1⟩:=dfx ["thing"] X G a1;obtain⟨_,D2⟩:=dfx ["model","at"] X G a2;obtain⟨_,D3⟩:=dfx ["falling","thing"] X G a3;obtain⟨_,D4⟩:=dfx ["falling","thing"] X G a4;obtain⟨_,I⟩:=dfx ["falling"] X G a5;obtain⟨_,D6⟩:=dfx ["entry","floor"] X G a6;obtain⟨_,D7⟩:=dfx ["entry"] X G a7;obtain⟨_,D8⟩:=dfx ["entry"] X G a8;obtain⟨_,D9⟩:=dfx ["signs"] X G a9;obtain⟨_,lq⟩:=dfx ["model","parting"] X G a10;obtain⟨_,ln⟩:=dfx ["numbers"] X G a11;obtain⟨_,im⟩:=dfx ["_law_cell","_law_k"] X G a12;obtain⟨_,da⟩:=dfx ["_law_script"] X G a13;obtain⟨_,ms⟩:=dfx ["_law_purse_here","_law_out_of"] X G a14;obtain⟨_,ky⟩:=dfx ["_law_purse_here","_law_many"] X G a15;obtain⟨_,ej⟩:=dfx ["_law_purse_here","_law_boxes","_law_queues"] X G a16;obtain⟨_,hy⟩:=dfx ["_law_purse_here","_law_boxes","_law_queues","_law_deep"] X G a17;obtain⟨_,hL⟩:=dfx ["_law_purse_here","_law_boxes","_law_queues","_law_signs_here","_law_many"] X G a18;obtain⟨_,hR⟩:=dfx ["_law_purse_here","_law_boxes","_law_queues","_law_signs_here","_law_many","_law_left","_law_deep"] X G a19;obtain⟨_,lr⟩:=dfx ["_law_purse_here","_law_boxes","_law_queues","_law_signs_here","_law_many","_law_left","_law_deep"] X G a20;obtain⟨_,le⟩:=dfx ["_law_purse_here","_law_name","_law_signs_here","_law_many"] X G a21;obtain⟨_,lh⟩:=dfx ["_law_purse_here","_law_most"] X G a22;obtain⟨_,ht⟩:=dfx ["_law_purse_here","_law_machines","_law_most"] X G a23;obtain⟨_,eb⟩:=dfx ["_law_purse_here","_law_many"] X G a24;obtain⟨_,kb⟩:=dfx ["_law_model_here","_law_signs_here","_law_parting_here"] X G a25;obtain⟨_,M⟩:=dfx ["_law_hall_here"] X G a26;obtain⟨_,q⟩:=dfx ["_law_hall_here"] X G a27;obtain⟨_,mo⟩:=dfx ["_law_hall_here","_law_ahead"] X G a28;obtain⟨_,lg⟩:=dfx ["_law_hall_here","_law_own","_law_ahead"] X G a29;obtain⟨_,lM⟩:=dfx ["_law_script"] X G a30;obtain⟨_,lj,ki,ld⟩:=mfx ["self","machines"] a31;have la:Mk K CM _:=⟨pCM.m,ld.at_,ld.fn,pCM.k⟩;obtain⟨_,lk,lb,kq⟩:=mfx ["self","boxes","queues","drawn","sent"] a32;have lp:Mk K CS _:=⟨pCS.m,kq.at_,kq.fn,pCS.k⟩;obtain⟨_,hb,en,ll⟩:=mfx ["self"] a33;obtain⟨_,ke,hH,gw⟩:=mfx ["self","key","thing"] a34;obtain⟨_,U,hp,fw⟩:=mfx ["self"] a35;obtain⟨_,lu,lm,kc⟩:=mfx ["self","key"] a36;have dw:Mk K CC _:=⟨pCC.m,ll.at_,ll.fn,pCC.k⟩;obtain⟨_,gd,gp,kG⟩:=mfx ["self","model"] a37;obtain⟨_,O,hC,jp⟩:=mfx ["self"] a38;obtain⟨_,li,hl,et⟩:=mfx ["self","happening"] a39;obtain⟨_,mp,hY,cs⟩:=mfx ["self"] a40;obtain⟨_,lw,ik,du⟩:=mfx ["self","floor"] a41;have hk:Mk K CP _:=⟨pCP.m,kG.at_,kG.fn,pCP.k⟩;obtain⟨_,gn,dc,lv⟩:=mfx ["self"] a42;obtain⟨_,y,hm,hQ⟩:=mfx ["self"] a43;have hj:Mk K CR _:=⟨pCR.m,lv.at_,lv.fn,pCR.k⟩;obtain⟨_,js,ha,lx⟩:=mfx ["self","model","signs","parting","ahead"] a44;obtain⟨_,mt,ei,hM⟩:=mfx ["self"] a45;obtain⟨_,mq,hP,gf⟩:=mfx ["self"] a46;obtain⟨_,mu,ck,hN⟩:=mfx ["self","member","floor"] a47;obtain⟨_,mr,ih,hq⟩:=mfx ["self"] a48;obtain⟨_,ko,ea,hf⟩:=mfx ["self","number"] a49;obtain⟨_,hD,dz,hu⟩:=mfx ["self","number"] a50;obtain⟨_,hx,di,eq⟩:=mfx ["self","ends"] a51;obtain⟨_,z,er,dq⟩:=mfx ["self"] a52;obtain⟨_,kt,hB,gg⟩:=mfx ["self"] a53;obtain⟨_,r,gv,dl⟩:=mfx ["self"] a54;obtain⟨_,lP,ge,dn⟩:=mfx ["self"] a55;obtain⟨_,lz,ii,jl⟩:=mfx ["self"] a56;obtain⟨_,ma,hK,hh⟩:=mfx ["self","part"] a57;obtain⟨_,ly,ci,fv⟩:=mfx ["self"] a58;have dF:Mk K CH _:=⟨pCH.m,lx.at_,lx.fn,pCH.k⟩;have e:=cr.symm.trans lM.m
 cases e;have B:Bl mg:={cJ X G zlen,cJ X G zabs,cJ X G zisinstance,cJ X G zlist,cJ X G ztuple,cJ X G zstr,cJ X G zint,cJ X G zbool,cJ X G zrange,cJ X G zmax,cJ X G zdict};have TM:MdT K mg CM CS:={pCM.c,pCS.c,nCMmachines,nCSboxes,nCSqueues,nCSdrawn,nCSsent,jr X G aCM,jr X G aCS};have V:xJ K mg CC:={pCC.c,nCCthings,nCCrows,jr X G aCC};have TP:PtT K mg CP CR:={pCP.c,pCR.c,nCPmodel,nCPstates,nCPpending,nCPentries,nCPpassed,nCRletters,nCRunheard,jr X G aCP,jr X G aCR};have W:HaT K mg CH:={pCH.c,nCHmodel,nCHparting,nCHahead,nCHmembers,nCHroads,nCHcertain,nCHending,nCHback_count,jr X G aCH};have my:mg "sorted"=Z7:=cJ X G zsorted;have ME:mg "enumerate"=Z7:=cJ X G zenumerate;have dL:mg "set"=Z7:=cJ X G zset;have t:mg "min"=Z7:=cJ X G zmin;have ku:Mt K CC "put" "Calendar.put" iX ["self","key","thing"] _ _:=⟨ke,hH,gw⟩;have Y:Mt K CC "least" "Calendar.least" iw ["self"] _ _:=⟨U,hp,fw⟩;have ce:Mt K CC "row_for" "Calendar.row_for" gL ["self","key"] _ _:=⟨lu,lm,kc⟩;have Z:Mt K CP "least" "Part.least" iI ["self"] _ _:=⟨O,hC,jp⟩;have lf:Mt K CP "await_one" "Part.await_one" ix ["self","happening"] _ _:=⟨li,hl,et⟩;have mD:Mt K CP "is_stopped" "Part.is_stopped" g8 ["self"] _ _:=⟨mp,hY,cs⟩;have ls:Mt K CP "pass_below" "Part.pass_below" g9 ["self","floor"] _ _:=⟨lw,ik,du⟩;have J:Mt K CR "least" "Road.least" jL ["self"] _ _:=⟨y,hm,hQ⟩;have f:Mt K CH "actions" "Hall.actions" iy ["self"] _ _:=⟨mt,ei,hM⟩;have g:Mt K CH "possible_doings" "Hall.possible_doings" fb ["self"] _ _:=⟨mq,hP,gf⟩;have mx:Mt K CH "may_do" "Hall.may_do" jh ["self","member","floor"] _ _:=⟨mu,ck,hN⟩;have d:Mt K CH "possible_hearings" "Hall.possible_hearings" eI ["self"] _ _:=⟨mr,ih,hq⟩;have kn:Mt K CH "step" "Hall.step" kl ["self","number"] _ _:=⟨ko,ea,hf⟩;have kv:Mt K CH "do_in" "Hall.do_in" mQ ["self","number"] _ _:=⟨hD,dz,hu⟩;have kF:Mt K CH "hear_on" "Hall.hear_on" lA ["self","ends"] _ _:=⟨hx,di,eq⟩;have L:Mt K CH "floor" "Hall.floor" fG ["self"] _ _:=⟨z,er,dq⟩;have lc:Mt K CH "settle" "Hall.settle" ji ["self"] _ _:=⟨kt,hB,gg⟩;have D:Mt K CH "over" "Hall.over" jE ["self"] _ _:=⟨r,gv,dl⟩;have mb:Mt K CH "outcome" "Hall.outcome" iY ["self"] _ _:=⟨lP,ge,dn⟩;have md:Mt K CH "settled" "Hall.settled" iz ["self"] _ _:=⟨lz,ii,jl⟩;have mc:Mt K CH "log" "Hall.log" j2 ["self","part"] _ _:=⟨ma,hK,hh⟩;have ml:Mt K CH "taken_back" "Hall.taken_back" hJ ["self"] _ _:=⟨ly,ci,fv⟩;exact{_,law_b lM.F fun _ _ _ _ _ _ _=>rfl,fun base _ _=>Jl lM da im ms lh (ok_mo lh ky le (fun sgs=>ok_ma le ky lr (fun bs qs=>(Gv lr hR hL hy ej ms B 5)) ms B) ms B) ht eb la ki (Gj (n:=29) lj D1 B TM) dF ha (ok_hi js la (Gj (n:=29) lj D1 B TM) ki lq (ok_pb lq hk (ok_qi gd dw (Fy hb V) en V TP) gp D2 (uN D2 lp lk lb B TM) TP TM B my dL) ln (ok_re ln hj (ok_ri gn TP) dc TP) D9 (IB D9 ME) lf (ok_qa li ku (IZ ke V B D4 D3 lu lm kc) V TP) lc (ok_ht kt L (uZ z Z (nc O Y (iJ U V I) TP V) J (uX y I TP) W TP B t) ls (ok_qp lw D6 tq TP B) D7.m W TP my) W TP TM B) kb (ok_oh kb D2 (uN D2 lp lk lb B TM) TM B ME) lg (ok_ak lg {L,(uZ z Z (nc O Y (iJ U V I) TP V) J (uX y I TP) W TP B t),ml,(Hg ly W),f,(DR mt D (xR r W) g (DO mq Z (nc O Y (iJ U V I) TP V) L (uZ z Z (nc O Y (iJ U V I) TP V) J (uX y I TP) W TP B t) mx (DH mu Z (nc O Y (iJ U V I) TP V) mD (DA mp TP B) W TP) W TP) d (DJ mr W TP) W),mc,(Hk ma D7 tq W TP),md,(Hi lz D8 tq W),mb,(He lP W),D,(xR r W)} M (ve M B t) q (Eb q M (ve M B t) B my) mo (HA mo M (ve M B t) q (Eb q M (ve M B t) B my) B t ME) W B) mo (HA mo M (ve M B t) q (Eb q M (ve M B t) B my) B t ME) {L,(uZ z Z (nc O Y (iJ U V I) TP V) J (uX y I TP) W TP B t),ml,(Hg ly W),f,(DR mt D (xR r W) g (DO mq Z (nc O Y (iJ U V I) TP V) L (uZ z Z (nc O Y (iJ U V I) TP V) J (uX y I TP) W TP B t) mx (DH mu Z (nc O Y (iJ U V I) TP V) mD (DA mp TP B) W TP) W TP) d (DJ mr W TP) W),mc,(Hk ma D7 tq W TP),md,(Hi lz D8 tq W),mb,(He lP W),D,(xR r W)} kn (ok_hp ko f (DR mt D (xR r W) g (DO mq Z (nc O Y (iJ U V I) TP V) L (uZ z Z (nc O Y (iJ U V I) TP V) J (uX y I TP) W TP B t) mx (DH mu Z (nc O Y (iJ U V I) TP V) mD (DA mp TP B) W TP) W TP) d (DJ mr W TP) W) kv tq kF tq W B) W TM B}
theorem walk{l:rm}{q:aP}{Z:List Str}{L:(Str->Option ae)->cz->Prop}{W:bF->cz->Prop}{d:DefRec}{K:Params->ag}(hn:l.most=Z8 63)(Y:d.params.defaults=[])
  (O:∀(w:bF) (h:cz),W w h->(K w.params).In h)
  (F:∀(w:bF) (mg:Str->Option ae) (X:ab) (h:cz),(K w.params).In h->h.Ns bW mg->mg d.name=Z8 (.ref X) ->
   ∃fd:bS,(∀(s:aj) (u:ae),tN s fd {[u],[]} [("_law_script",u)])/\∀base:cz,(K w.params).In base->base.Ns bW mg->bO l.prog w (K w.params) mg base CX0 36 X fd ["_law_script"] (Ak (K w.params))) :
  Eh q Z L W l.row.toRowW d [] (fun f vs=>AI f vs):=
 _L.walk_ofB (n:=63) (k:=36) (x:="_law_script") (CX:=fun _=>CX0) (sp:=fun w=>Ak (K w.params)) hn (by decide) Y {Z9,by decide,by decide} O F (fun _ _ a U M hb V=>{a,U,Z9,V,M,hb,fun _=>rfl}) fun _ _ _ _ _ z=>z
end _M
namespace PySem.W.Fast
def tw13950891329452818254:=Nat
def tw7081409807530170225:=Nat
def tw1595320920024295671:=Nat
def tw9296459370059668863:=Nat
def tw4268848027692314006:=Nat
def tw7775880483745730696:=Nat
def tw3613351518980160810:=Nat
def tw10855202221797332715:=Nat
def tw6117082329453584066:=Nat
def tw11965209130850007474:=Nat
def tw12632692677613734048:=Nat
def tw2513004689385162104:=Nat
def tw1299690587293088242:=Nat
def tw10774576509687083165:=Nat
def tw2444844028460650803:=Nat
def tw17959416801273825603:=Nat
def tw5969714860959378200:=Nat
def tw6739700108499552132:=Nat
def tw16832139200259740486:=Nat
def tw12292783803815798120:=Nat
def tw9252193995071751756:=Nat
def tw1238606610086820067:=Nat
def tw3586973881690998275:=Nat
def tw9578187579034727737:=Nat
def tw15685165720460067895:=Nat
def tw3096399044767673613:=Nat
def tw3399819545337336761:=Nat
def tw4422483576502265694:=Nat
def tw7161984122276083986:=Nat
def tw9539366126192540481:=Nat
def tw14480252134796246550:=Nat
def tw13505310959434490757:=Nat
def tw16135456402027256227:=Nat
def tw3667842083221917720:=Nat
def tw7431131828093518155:=Nat
def tw10069360070391550637:=Nat
def tw18111982150297465262:=Nat
def tw7782668288151932132:=Nat
def tw15580121020564865397:=Nat
def tw17020092814685627297:=Nat
def tw7876117353774496733:=Nat
def tw6874690033701913683:=Nat
def tw14104838948678070668:=Nat
def tw9550877592611531048:=Nat
def tw15957592021723986865:=Nat
def tw5175875315212329082:=Nat
def tw6550652330443693573:=Nat
def tw3113717770026850564:=Nat
def tw13067250247121738732:=Nat
def tw6796580616117170181:=Nat
def tw3625810184777610836:=Nat
def tw6212932965534076053:=Nat
def tw10179846222569669271:=Nat
def tw12084676173528742989:=Nat
def tw6202766154335781676:=Nat
def tw16655318758508748289:=Nat
def tw6994930099619108325:=Nat
def tw2807683028253020349:=Nat
def tw9862440742887632662:=Nat
def tw4641638275461289626:=Nat
def tw4331145032408807346:=Nat
def tw10040906522985630544:=Nat
def tw6717708678189971298:=Nat
def tw3842176123599470709:=Nat
def tw15714550756188504164:=Nat
def tw5854347824797728763:=Nat
def tw492204673635304454:=Nat
def tw14330223739124368320:=Nat
def tw7268679797627045439:=Nat
def tw6919874652191553853:=Nat
def tw10344954041345588320:=Nat
def tw11820503510459403845:=Nat
def tw8307103031661623425:=Nat
def tw15865959584032592022:=Nat
def tw9726952658293444598:=Nat
def tw14403098292125057335:=Nat
def tw12920128812619672192:=Nat
def tw8365655050823685719:=Nat
def tw10041753305962261093:=Nat
def tw11163568016478575957:=Nat
def tw15349436523274070743:=Nat
def tw9581311072087522409:=Nat
def tw6148249870141539685:=Nat
def tw18420460322314151969:=Nat
def tw13375298181484525320:=Nat
def tw7412086983158333691:=Nat
def tw11082734127224236947:=Nat
def tw4079631993291657139:=Nat
def tw7243040690108396864:=Nat
def tw1068037891624526943:=Nat
def tw2571060708941982949:=Nat
def tw17092412047404048724:=Nat
def tw8617451761052408465:=Nat
def tw12784610417765705740:=Nat
def tw18022970292729350820:=Nat
def tw12633125710724791061:=Nat
def tw11262187992785074634:=Nat
def tw10399801127927038208:=Nat
def tw3186108770106809291:=Nat
def tw6483925012135041265:=Nat
def tw13033122272901935810:=Nat
def tw2384430522291614548:=Nat
def tw11891205771631602415:=Nat
def tw4536977207047417867:=Nat
def tw162768585187242237:=Nat
def tw4545948849803099899:=Nat
def tw4971976462458729999:=Nat
def tw2176003192647345092:=Nat
def tw14242225484490968600:=Nat
def tw16699964368111519168:=Nat
def tw924143355399551363:=Nat
def tw5335599052014252400:=Nat
def tw726859988866881908:=Nat
def tw5950857493995669941:=Nat
def tw8792004741089612209:=Nat
def tw6650733617949513257:=Nat
def tw11052502329497883830:=Nat
def tw4244826528051910955:=Nat
def tw7179949694618543837:=Nat
def tw4466705081361911507:=Nat
def tw2717993140111283989:=Nat
def tw8321075914523878175:=Nat
def tw13081314804610076851:=Nat
def tw12008619583375858299:=Nat
def tw6721090621884507447:=Nat
def tw1301503768891743154:=Nat
def tw11286629479371316118:=Nat
def tw2940370869963186767:=Nat
def tw12326955306979668717:=Nat
def tw8926339676794367580:=Nat
def tw16685589828863464231:=Nat
def tw14910350532217156586:=Nat
def tw4933761653182649870:=Nat
def tw4325039034456573344:=Nat
def tw5181861000651742750:=Nat
def tw11467857561330175012:=Nat
def tw2479293151068811455:=Nat
def tw4444314214031673676:=Nat
def tw4509297574432249249:=Nat
def tw17979346921677164839:=Nat
def tw2539580963255643083:=Nat
def tw17036068131133878607:=Nat
def tw9255161592385430671:=Nat
def tw6917335169721154994:=Nat
def tw632330965830253084:=Nat
def tw13705498219081223223:=Nat
def tw11695206935440992260:=Nat
def tw13060082295031022970:=Nat
def tw5145871131919528641:=Nat
def tw12494570748473681047:=Nat
def tw6152225951770819554:=Nat
def tw9296709151297098027:=Nat
def tw5013361946908260949:=Nat
def tw18265330040882206931:=Nat
def tw5786858126198576120:=Nat
def tw8584730070617727861:=Nat
def tw11108890266665003583:=Nat
def tw17065080846890106338:=Nat
def tw6838512351326619619:=Nat
def tw6095769838887903097:=Nat
def tw5559807970114936197:=Nat
def tw9426334555713412291:=Nat
def tw11518894921666417260:=Nat
def tw5347337649777208894:=Nat
def tw9158625338562102724:=Nat
def tw8259421150819117052:=Nat
def tw15817306860782630973:=Nat
def tw6756992813589403269:=Nat
def tw7066967388181855095:=Nat
def tw8387164719065915628:=Nat
def tw4097200326520423740:=Nat
def tw6052090206542705810:=Nat
def tw5151062075132473265:=Nat
def tw3426313029560349667:=Nat
def tw13364973045384333463:=Nat
def tw12021885045905448359:=Nat
def tw15944363395177883001:=Nat
def tw7013903063792645970:=Nat
def tw4160947647689641082:=Nat
def tw10491121860110848121:=Nat
def tw17277285204204222525:=Nat
def tw17820259084065861196:=Nat
def tw3043011679711287275:=Nat
def tw15983936907814250473:=Nat
def tw17536391511467280322:=Nat
def tw9533133660092707953:=Nat
def tw11948273193532620260:=Nat
def tw5190420213378764:=Nat
def tw11013681349570086176:=Nat
def tw8532628862807190245:=Nat
def tw754769255985142799:=Nat
def tw16838131455227625313:=Nat
def tw7463903975474464635:=Nat
def tw7080063062578310220:=Nat
def tw10438742469737027736:=Nat
def tw17484375054012699029:=Nat
def tw13938328144577758242:=Nat
def tw4217996019635749675:=Nat
def tw6750924905824718422:=Nat
def tw12552249710461092915:=Nat
def tw8906125799940696863:=Nat
def tw17759280993782430910:=Nat
def tw256181387273108037:=Nat
def tw9102826713742042610:=Nat
def tw1597682076375180120:=Nat
def tw4768533169601642503:=Nat
def tw4733375842270455595:=Nat
def tw4619479068205642579:=Nat
def tw7203551764353861182:=Nat
def tw5496602356774767840:=Nat
def tw13462983691933791692:=Nat
def tw10754083192127920589:=Nat
def tw6505422514012183948:=Nat
def tw18443772554071387059:=Nat
def tw9035054655881137449:=Nat
def tw14601786070790604827:=Nat
def tw2935931205557284806:=Nat
def tw16919655276098488965:=Nat
def tw10555121318331901153:=Nat
def tw2308678577150676046:=Nat
def tw8856734089040750642:=Nat
def tw17804026241905110390:=Nat
def tw11344727661468849553:=Nat
def tw16686925430484782719:=Nat
def tw14058643726055073086:=Nat
def tw2713896111303516631:=Nat
def tw9763425348475115811:=Nat
def tw7603833708693040682:=Nat
def tw4510213253486151165:=Nat
def tw5675361882898360357:=Nat
def tw18219293057301198843:=Nat
def tw9622140183096434050:=Nat
def tw4665625322926528132:=Nat
def tw3512425883225633340:=Nat
def tw10625713675350078165:=Nat
def tw7038737893470561267:=Nat
def tw1478047821813424571:=Nat
def tw3155367142257389198:=Nat
def tw3566030538089529776:=Nat
def tw6696088999714692501:=Nat
def tw6876121386727569262:=Nat
def tw973935411948226289:=Nat
def tw8693974937423297021:=Nat
def tw11622864688671325683:=Nat
def tw8634079597911531471:=Nat
def tw1265115854922979386:=Nat
def tw9972814103624691253:=Nat
def tw17787683842518632066:=Nat
def tw14678431850026655115:=Nat
def tw16452904490956082263:=Nat
def tw11994934893192495087:=Nat
def tw15781263478221846232:=Nat
def tw8829839973377548317:=Nat
def tw14426859756996353382:=Nat
def tw255243669385422261:=Nat
def tw12032011352773182603:=Nat
def tw16065990037583818826:=Nat
def tw7703130726162490121:=Nat
def tw636551870739769440:=Nat
def tw3986559696460500343:=Nat
def tw5610298207996381843:=Nat
def tw17407500531987156330:=Nat
def tw13418701844603025868:=Nat
def tw11817367203608311206:=Nat
def tw12629163465474057150:=Nat
def tw14514342254364803420:=Nat
def tw16411969997711597346:=Nat
def tw11439407688834632930:=Nat
def tw4222599524145251116:=Nat
def tw16117784959979599084:=Nat
def tw896776320991440039:=Nat
def tw2320478907369952994:=Nat
def tw2466054900272929395:=Nat
def tw16846836306680959599:=Nat
def tw5931776092656439625:=Nat
def tw5813709489264965591:=Nat
def tw2986030300396321562:=Nat
def tw4867799555593002871:=Nat
def tw1885340634909407875:=Nat
def tw4176971936350615655:=Nat
def tw7746351383813384116:=Nat
def tw5165828891165396535:=Nat
def tw14760488586957457848:=Nat
def tw2515221355700497126:=Nat
def tw17951697849314664574:=Nat
def tw18217242768791869694:=Nat
def tw3397223563558214581:=Nat
def tw15652188492660476362:=Nat
def tw9242504618292702037:=Nat
def tw2185624982840684692:=Nat
def tw7245038376829297787:=Nat
def tw12431761720873662388:=Nat
def tw4347298735038559906:=Nat
def tw4698479160366550030:=Nat
def tw3299449601987526738:=Nat
def tw17721753206460377497:=Nat
def tw16130452961486071064:=Nat
def tw17822606177668571823:=Nat
def tw908446482968488460:=Nat
def tw12871992475619676453:=Nat
def tw9889042255656950576:=Nat
def tw11825541044291235083:=Nat
def tw13140573867917114068:=Nat
def tw13102844717344480912:=Nat
def tw17241052024940088637:=Nat
def tw3352858631002938521:=Nat
def tw962307969820756602:=Nat
def tw17094665054366779264:=Nat
def tw10223347848738151:=Nat
def tw15487447877160293835:=Nat
def tw3822167300102323881:=Nat
def tw11847720491078904969:=Nat
def tw11072543778162808435:=Nat
def tw5361927609141800891:=Nat
def tw17120426843645285749:=Nat
def tw6158896911270815355:=Nat
def tw5039327289106529236:=Nat
def tw9233642165908512127:=Nat
def tw5769274781456822131:=Nat
def tw691661340407779850:=Nat
def tw13453189674242049816:=Nat
def tw6318458437011402867:=Nat
def tw11876004954699728975:=Nat
def tw10857479802018541724:=Nat
def tw17118583562983778270:=Nat
def tw8948889809569970328:=Nat
def tw4229180934816832360:=Nat
def tw10564090419893727860:=Nat
def tw16889694845662135272:=Nat
def tw11330348314576613385:=Nat
def tw7968613668323341393:=Nat
def tw13810936180703018524:=Nat
def tw14177652760225810149:=Nat
def tw4317886565156657794:=Nat
def tw12852032519638849204:=Nat
def tw10487224209870621040:=Nat
def tw4971888739156004546:=Nat
def tw11556964732405958420:=Nat
def tw17074929967039476194:=Nat
def tw16844797963679938934:=Nat
def tw17374944637986998526:=Nat
def tw4099410410573421750:=Nat
def tw3684075926075141739:=Nat
def tw15025822450104186880:=Nat
def tw13467677446315961967:=Nat
def tw12509335382886903933:=Nat
def tw15133386062494894088:=Nat
def tw12135284209305714274:=Nat
def tw7422452402179990740:=Nat
def tw13084855845614829666:=Nat
def tw2789534414932656325:=Nat
def tw3208782952167240054:=Nat
def tw3630184038152184076:=Nat
def tw17399210647568774416:=Nat
def tw14468067964426463510:=Nat
def tw13534710588841926215:=Nat
def tw14734523730631029229:=Nat
def tw15946834543535362273:=Nat
def tw5381455615786296804:=Nat
def tw13036317688718697462:=Nat
def tw11446242964761304546:=Nat
def tw6584802164677870336:=Nat
def tw2123016789721568692:=Nat
def tw8345536205814435993:=Nat
def tw6465618346471099483:=Nat
def tw12158215809125605193:=Nat
def tw2181871269632411306:=Nat
def tw14757698501974943233:=Nat
def tw13986300177200253870:=Nat
def tw1665459012710265073:=Nat
def tw10419256003498269901:=Nat
def tw6848790190634677191:=Nat
def tw2940402991916015593:=Nat
def tw1568474854282840311:=Nat
def tw8317607516293468310:=Nat
def tw17424650480031593672:=Nat
def tw1477596516050833179:=Nat
def tw4184994745639193298:=Nat
def tw17191370928207605460:=Nat
def tw14753007348883821629:=Nat
def tw10279891071093393816:=Nat
def tw4746205983525394084:=Nat
def tw8656992630759565719:=Nat
def tw12654210082488580470:=Nat
def tw3693591914408174456:=Nat
def tw9263450796130367717:=Nat
def tw17286568902807222211:=Nat
def tw1055556202951236471:=Nat
def tw15691869245347502461:=Nat
def tw16431600396940042718:=Nat
def tw2628738939116961858:=Nat
def tw6077680865882263714:=Nat
def tw16143430431389276640:=Nat
def tw6796127700363443735:=Nat
def tw1979746176004743971:=Nat
def tw276501069386934588:=Nat
def tw16253899947285285756:=Nat
def tw4383042613075673681:=Nat
def tw2362216675458668320:=Nat
def tw1281375662071061615:=Nat
def tw5718304975164906662:=Nat
def tw4348316376278105721:=Nat
def tw18043869388329009622:=Nat
def tw13516129078790189725:=Nat
def tw6518946962975649253:=Nat
def tw13629759866488476303:=Nat
def tw5010090344191530341:=Nat
def tw2603490879747382012:=Nat
def tw12034736432675669517:=Nat
def tw1194737145998841686:=Nat
def tw14040552040680183030:=Nat
def tw5891721229857355358:=Nat
def tw7212071643582002306:=Nat
def tw11369665184404489146:=Nat
def tw9561166509838182636:=Nat
def tw12852441524511689615:=Nat
def tw902621928792833713:=Nat
def tw11347705289844305814:=Nat
def tw9710772282168888747:=Nat
def tw17324771491531408901:=Nat
def tw13922116535477924790:=Nat
def tw9634908142328585788:=Nat
def tw7586229954760928756:=Nat
def tw2793116797811326515:=Nat
def tw9435377896149435195:=Nat
def tw1679621925238152393:=Nat
def tw4162324307071196437:=Nat
def tw15220319556799340283:=Nat
def tw4233518613161839920:=Nat
def tw16053099616444267356:=Nat
def tw10552665261571388959:=Nat
def tw15155429876682352933:=Nat
def tw12324760181234144088:=Nat
def tw16085766793390683330:=Nat
def tw4041975912397103936:=Nat
def tw4420170520600552408:=Nat
def tw8512094049715921801:=Nat
def tw13476561173545101504:=Nat
def tw11407676166032145:=Nat
def tw3672803297671345394:=Nat
def tw6945659344964891429:=Nat
def tw16069846997347164066:=Nat
def tw12130780989986087793:=Nat
def tw15268645081186434933:=Nat
def tw12746933885592505629:=Nat
def tw2104182725453040274:=Nat
def tw13279294599797196856:=Nat
def tw18325992270060147042:=Nat
def tw981074401714753925:=Nat
def tw4202457845783243010:=Nat
def tw10324918526174045077:=Nat
def tw17600028998293833130:=Nat
def tw7962297213581409283:=Nat
def tw8948922833414930336:=Nat
def tw12477066593267446762:=Nat
def tw13895237363502617063:=Nat
def tw557414162305043644:=Nat
def tw3497635053604666568:=Nat
def tw13971486184469442103:=Nat
def tw18374519923734442210:=Nat
def tw6035525199806687868:=Nat
def tw8668621420117529860:=Nat
def tw11418696211819628557:=Nat
def tw12592806493612249306:=Nat
def tw2564436694998390768:=Nat
def tw13233287189663778876:=Nat
def tw3796335440920874043:=Nat
def tw10443082900870895362:=Nat
def tw14050409988268611205:=Nat
def tw13901037739444793059:=Nat
def tw6540836599974800847:=Nat
def tw10003014243426984400:=Nat
def tw12712151346939507802:=Nat
def tw12633381320968989586:=Nat
def tw6821453000250314989:=Nat
def tw3523475927327274789:=Nat
def tw1217572343429929750:=Nat
def tw4191074630914324623:=Nat
def tw12330474046193745069:=Nat
def tw2990456030579300116:=Nat
def tw14720398441901148950:=Nat
def tw15046755767281696030:=Nat
def tw16736387234211886555:=Nat
def tw536654594345843658:=Nat
def tw8951362511735509428:=Nat
def tw10983419184094253055:=Nat
def tw8038658009202159559:=Nat
def tw16280439592487190315:=Nat
def tw1895527330451793417:=Nat
def tw15284434691329865303:=Nat
def tw13192679061804211882:=Nat
def tw5054912085911580497:=Nat
def tw4087105751389346919:=Nat
def tw12179066258549442671:=Nat
def tw11722594013960409449:=Nat
def tw4718727187426820330:=Nat
def tw8298912837191469052:=Nat
def tw17698131418889581696:=Nat
def tw9027209686818172929:=Nat
def tw8769193313829948151:=Nat
def tw13640116582344774626:=Nat
def tw1635662512411511962:=Nat
def tw10772208852104845050:=Nat
def tw827556210015304567:=Nat
def tw13968356908531859395:=Nat
def tw15373658700489299581:=Nat
def tw1892933126138653676:=Nat
def tw14574870047404422866:=Nat
def tw16637323065043695737:=Nat
def tw9271122437094348273:=Nat
def tw2472997603924508787:=Nat
def tw8082308567680202753:=Nat
def tw1073854839224067824:=Nat
def tw16698076486789736717:=Nat
def tw15977263188361902690:=Nat
def tw6948479505004926263:=Nat
def tw12360258573083624288:=Nat
def tw4798921978126379161:=Nat
def tw15637408242514793800:=Nat
def tw2812552750824362201:=Nat
def tw6534957626163575064:=Nat
def tw11303239794966251360:=Nat
def tw10781277207015210418:=Nat
def tw17368969666097904817:=Nat
def tw13215525124091365615:=Nat
def tw3252539379960233093:=Nat
def tw11376604445310922233:=Nat
def tw14113661321960408048:=Nat
def tw11686524389655369802:=Nat
def tw11257617288221154771:=Nat
def tw3517221424715302800:=Nat
def tw13142887313526942179:=Nat
def tw14489011103976551712:=Nat
def tw13432590204221468427:=Nat
def tw9954567358211651375:=Nat
def tw656958900831391099:=Nat
def tw6837450965112515151:=Nat
def tw7054120180966696227:=Nat
def tw10628331660418624875:=Nat
def tw18284841207896387213:=Nat
def tw5571443082102329446:=Nat
def tw2933047207191843761:=Nat
def tw7345077472893588988:=Nat
def tw16118091039643970868:=Nat
def tw5127889680167839552:=Nat
def tw17625738391410582240:=Nat
def tw18034631197246028504:=Nat
def tw9781401408072044188:=Nat
def tw14216593569468439055:=Nat
def tw1037188466375251187:=Nat
def tw5788696558613045269:=Nat
def tw17282475072562145067:=Nat
def tw18097150663059363221:=Nat
def tw13218054107649302060:=Nat
def tw8520884532389953136:=Nat
def tw13358702489556222182:=Nat
def tw5105611820563689236:=Nat
def tw10094111390026470456:=Nat
def tw10823968113947125050:=Nat
def tw10302893557153215177:=Nat
def tw4000103457450085311:=Nat
def tw11445369884482017187:=Nat
def tw6220338157605026871:=Nat
def tw9468402481702158618:=Nat
def tw1458696311647593189:=Nat
def tw4302134062300179357:=Nat
def tw1233035225850108545:=Nat
def tw15244549376037672211:=Nat
def tw15029690737878353384:=Nat
def tw14718696606456003811:=Nat
def tw2927767892236092991:=Nat
def tw3144026804137278514:=Nat
def tw9596206144790979457:=Nat
def tw1853500645881639304:=Nat
def tw4503395781760081264:=Nat
def tw5748609127645751615:=Nat
def tw5712541700378727487:=Nat
def tw2391024462726271830:=Nat
def tw3691572528098707468:=Nat
def tw3741929518174104382:=Nat
def tw5504800556140831638:=Nat
def tw17267449184227717580:=Nat
def tw3186416250892172098:=Nat
def tw920731405546175490:=Nat
def tw13367029501052118205:=Nat
def tw17852387052328664347:=Nat
def tw8314971785295828964:=Nat
def tw11794760540222459622:=Nat
def tw5174790347315844904:=Nat
def tw1482215912427675394:=Nat
def tw16722503503318972800:=Nat
def tw8850204807574220553:=Nat
def tw6021270625020404171:=Nat
def tw9025962188109408913:=Nat
def tw13960251302650735210:=Nat
def tw6055414211627464484:=Nat
def tw10840097298870503685:=Nat
def tw8103790330868161297:=Nat
def tw2499119538948308993:=Nat
def tw14930047756344209114:=Nat
def tw14991725387831405418:=Nat
def tw7423678763016845981:=Nat
def tw8952614329519599486:=Nat
def tw8337284114189487477:=Nat
def tw2031036181429482937:=Nat
def tw7310055855569293378:=Nat
def tw11321072386214054721:=Nat
def tw11410528815753664489:=Nat
def tw9763061387347120451:=Nat
def tw15785031228232890103:=Nat
def tw3456471179415969505:=Nat
def tw1400836557911656705:=Nat
def tw1929928188845836494:=Nat
def tw3092138346586836230:=Nat
def tw15745585370913201447:=Nat
def tw1422768147816302719:=Nat
def tw5562052240241882871:=Nat
def tw1043711968351594925:=Nat
def tw3866927880705529009:=Nat
def tw15440464624491047649:=Nat
def tw14977254511807488509:=Nat
def tw15925315491989840362:=Nat
def tw11632602358642298962:=Nat
def tw1576913913222673595:=Nat
def tw4997472993925247588:=Nat
def tw10957281332164352417:=Nat
def tw11735636931307527244:=Nat
def tw2806183904029149598:=Nat
def tw7633970810782920327:=Nat
def tw4494797249505746465:=Nat
def tw15497145031821079590:=Nat
def tw12991627980807642765:=Nat
def tw14188594918106007813:=Nat
def tw1313768095634028289:=Nat
def tw4486263132632187234:=Nat
def tw10513792441482020690:=Nat
def tw12819860417189947112:=Nat
def tw12965612306437196494:=Nat
def tw17252787594245705251:=Nat
def tw9932201252091266752:=Nat
def tw13789458681236238982:=Nat
def tw2965036565255182488:=Nat
def tw7132304485598285244:=Nat
def tw301432591310832331:=Nat
def tw12008739362325580706:=Nat
def tw9243486451920282506:=Nat
def tw603682775343180587:=Nat
def tw9575615653313938176:=Nat
def tw5958944288882067456:=Nat
def tw310146010295243132:=Nat
def tw14789825543192098368:=Nat
def tw16288015714492304958:=Nat
def tw1576017473411808028:=Nat
def tw13484543961283028731:=Nat
def tw18262663912554015689:=Nat
def tw6002428801626370231:=Nat
def tw17266440592956259010:=Nat
def tw8284915665701992991:=Nat
def tw18174475393365509005:=Nat
def tw10342322613922341444:=Nat
def tw6102145418940735889:=Nat
def tw3017353441524373273:=Nat
end PySem.W.Fast
open PySem PySem.W PyProof.Rows
set_option maxRecDepth 100000 in
set_option maxHeartbeats 0 in
theorem PySem.Challenge.cw_momentloom_k28_halls_at_their_beginning_holds : PySem.Challenge.rw_momentloom_k28_halls_at_their_beginning.Holds := by
 w_on;o_law;k_head;(case hw=>w_witness2)
 k_fill
 refine _M.walk (l:=Jm) rfl rfl (fun w h Y=>PySem.W.kIn_of Y) ?F
 case F=>
  intro w mg fa h KX G hmg;refine' _M.all_mk KX G hmg ?a1 ?a2 ?a3 ?a4 ?a5 ?a6 ?a7 ?a8 ?a9 ?a10 ?a11 ?a12 ?a13 ?a14 ?a15 ?a16 ?a17 ?a18 ?a19 ?a20 ?a21 ?a22 ?a23 ?a24 ?a25 ?a26 ?a27 ?a28 ?a29 ?a30 ?aCM ?a31 ?pCM ?nCMmachines ?aCS ?a32 ?pCS ?nCSboxes ?nCSqueues ?nCSdrawn ?nCSsent ?aCC ?a33 ?a34 ?a35 ?a36 ?pCC ?nCCthings ?nCCrows ?aCP ?a37 ?a38 ?a39 ?a40 ?a41 ?pCP ?nCPmodel ?nCPstates ?nCPpending ?nCPentries ?nCPpassed ?aCR ?a42 ?a43 ?pCR ?nCRletters ?nCRunheard ?aCH ?a44 ?a45 ?a46 ?a47 ?a48 ?a49 ?a50 ?a51 ?a52 ?a53 ?a54 ?a55 ?a56 ?a57 ?a58 ?pCH ?nCHmodel ?nCHparting ?nCHahead ?nCHmembers ?nCHroads ?nCHcertain ?nCHending ?nCHback_count ?zlen ?zabs ?zisinstance ?zlist ?ztuple ?zstr ?zint ?zbool ?zrange ?zmax ?zdict ?zsorted ?zenumerate ?zset ?zmin
  case a1|a2|a3|a4|a5|a6|a7|a8|a9|a10|a11|a12|a13|a14|a15|a16|a17|a18|a19|a20|a21|a22|a23|a24|a25|a26|a27|a28|a29|a30=>
   refine' _M.dn_i ?a ?l ?c ?k
   case a=>k_is
   case l=>k_is
   case c=>k_is
   case k=>k_is
  case aCM|aCS|aCC|aCP|aCR|aCH=>k_is
  case a31|a32|a33|a34|a35|a36|a37|a38|a39|a40|a41|a42|a43|a44|a45|a46|a47|a48|a49|a50|a51|a52|a53|a54|a55|a56|a57|a58=>
   refine' _M.mn_i ?a ?i ?l ?c ?k
   case a=>k_is
   case i=>k_is
   case l=>k_is
   case c=>k_is
   case k=>k_is
  case pCM|pCS|pCC|pCP|pCR|pCH=>exact{{by k_is,by k_is,by k_is,by k_is},by k_is,by k_is}
  case nCMmachines|nCSboxes|nCSqueues|nCSdrawn|nCSsent|nCCthings|nCCrows|nCPmodel|nCPstates|nCPpending|nCPentries|nCPpassed|nCRletters|nCRunheard|nCHmodel|nCHparting|nCHahead|nCHmembers|nCHroads|nCHcertain|nCHending|nCHback_count|zlen|zabs|zisinstance|zlist|ztuple|zstr|zint|zbool|zrange|zmax|zdict|zsorted|zenumerate|zset|zmin=>k_is

